import PyProof.Rows.All
import Wide.All
import OpenK.AllK
import Wide.FinOn
import HandS.ForMost
import HandS.Evl
import HandS.Style
import HandS.Wide
import HandS.IsInst
import HandS.Walk
import HandS.EndBits
import HandS.Conv
import HandS.More
import HandS.Star
import HandS.OwnEq
import HandS.ExcInit
import HandS.ExcField
import HandS.ExcOwn
import HandS.HotCalls
import HandS.WordsExc
import HandS.ClsMeth
import HandS.ExcIs
import KE.KExcIs
import HandS.Zip
import KE.GoesMore
import KE.GoesZip
import KE.GoesEnum
import HandS.FStr
import HandS.Text
import KE.KOpsOwn
import KE.KFmtOwn
import KE.KCallOwn
import HandS.Base
import HandS.Call
import HandS.Exc
import HandS.ExcCtx
import HandS.Hot
import HandS.RaiseFrom
import HandS.SuiteRaise
import HandS.TryOnly
import HandS.ExcInitHot
import PyProof.NsDelKeeps
import PySem.Challenge.RW_gluedlines_k07_whole_pattern_texts_spoil
set_option Elab.async false
set_option linter.all false
set_option maxRecDepth 100000
set_option maxHeartbeats 2000000
/-! Fw: what every law's proof here rests on: defs and constants at hand, a pool that draws change, texts walked, lists compared. -/
namespace Kz
open PySem PySem.Spec PyProof.Rows L2 Evl StX

/-! ### constants and defs of the text at hand -/
def Cst (mg : Str → Option Value) (x : Str) (v : V) : Prop := ∃ u, mg x = some u ∧ RelV v u
theorem pe_cst {X : Cx} {x : Str} {v : V} {pos : Pos} (h : Cst X.mg x v) (hg : Gl X x) (hd : (x == ("__debug__" : Str)) = false := by decide) : PE X (.Name x pos) (tC v) := by
  obtain ⟨u, hm, r⟩ := h
  exact pe_glob hg hm r hd
def Df (P : Program) (w : World) (K : PySem.W.Frag) (mg : Str → Option Value) (base : Heap) (x : Str) (ps : List Str) (k : Nat) (sp : Sp) : Prop :=
  ∃ (f : Addr) (fd : FuncData), mg x = some (.ref f) ∧ PySem.W.keepIn K (.ref f) = true ∧ Binds K fd ps [] ∧ FnOk P w K mg base CX0 k f fd ps sp
theorem pe_df {X : Cx} {k : Nat} {ps : List Str} {sp : Sp} {x : Str} {p pos : Pos} {e : Expr} {es : List Expr} {t : TA} (D : Df X.prog X.w X.K X.mg X.base x ps k sp) (hr : Room k X.A) (hg : Gl X x)
    (ha : PA X (e :: es) t) (hdb : (x == ("__debug__" : Str)) = false := by decide) (he : starEach (e :: es) X.env = (false, eval e X.env) :: starEach es X.env := by rfl) (hpl : (backTo pos (starEach es X.env)).any (·.1) = false := by rfl) :
    PE X (.Call (.Name x p) (e :: es) [] pos) (tCall sp [] E0 t) := by
  obtain ⟨f, fd, hm, hk, hb, F⟩ := D
  exact pe_call F hr hg hm hk hb .nil pass0 ha hdb he hpl
theorem pe_df0 {X : Cx} {k : Nat} {ps : List Str} {sp : Sp} {x : Str} {p pos : Pos} (D : Df X.prog X.w X.K X.mg X.base x ps k sp) (hr : Room k X.A) (hg : Gl X x)
    (hdb : (x == ("__debug__" : Str)) = false := by decide) : PE X (.Call (.Name x p) [] [] pos) (tCall sp [] E0 tNil) := by
  obtain ⟨f, fd, hm, hk, hb, F⟩ := D
  exact pe_call0 F hr hg hm hk hb .nil pass0 hdb

/-- a tuple that the text's top made -/
def WT (K : PySem.W.Frag) (a : Addr) (xs : List V) : Prop := ∃ (o : Obj) (its : Array Value) (n : Nat), K.lookup a = some o ∧ o.cls = .type "tuple" ∧ o.data = .seq its n ∧ its.size ≤ sizeLine ∧ Vals xs its.toList
theorem WT.at_ {K : PySem.W.Frag} {a : Addr} {xs : List V} {H : Hp} (h : WT K a xs) : SqT K H a xs := .inr h

/-! ### within a comprehension: the rules at the written part K itself -/
section
variable {X : Cx}
theorem op_in_seqK (K : PySem.W.Frag) (e : X.K = K) : OpR X (compareOp .In) (rIn K false) := e ▸ op_in_seq
theorem op_notIn_seqK (K : PySem.W.Frag) (e : X.K = K) : OpR X (compareOp .NotIn) (rIn K true) := e ▸ op_notIn_seq
theorem op_eqDK (K : PySem.W.Frag) (e : X.K = K) (hu : X.A.units + 64 < cLine) : OpR X (compareOp .Eq) (rEqD K) := e ▸ op_eqD hu
theorem op_neDK (K : PySem.W.Frag) (e : X.K = K) (hu : X.A.units + 64 < cLine) : OpR X (compareOp .NotEq) (rNeD K) := e ▸ op_neD hu
theorem ix_listK (K : PySem.W.Frag) (e : X.K = K) : IxR X (rIxL K) := e ▸ ix_list
theorem ix_tupK (K : PySem.W.Frag) (e : X.K = K) : IxR X (rIxT K) := e ▸ ix_tup
theorem call_len_seqK (K : PySem.W.Frag) (e : X.K = K) : CallR X (.builtin "len") (fun xs H Q => ∃ p ys, xs = [.ref p] ∧ (SqL K H p ys ∨ SqT K H p ys) ∧ Q (.int ys.length) H) := e ▸ call_len_seq
theorem call_isiK' (K : PySem.W.Frag) (e : X.K = K) : CallR X (.builtin "isinstance") (rIsi K) := e ▸ call_isi
theorem pi_listK {tg l : Expr} {tl : TE} (K : PySem.W.Frag) (e : X.K = K) (h : PE X l tl) : PI X tg l (iList K tl) := e ▸ pi_list h
theorem pi_tupK {tg l : Expr} {tl : TE} (K : PySem.W.Frag) (e : X.K = K) (h : PE X l tl) : PI X tg l (iTup K tl) := e ▸ pi_tup h
theorem call_isiTK (K : PySem.W.Frag) (e : X.K = K) : CallR X (.builtin "isinstance") (rIsiT K) := e ▸ call_isiT
end

/-! ### a pool that draws change: all else stays -/
def pl (s : Int × Int) : HO := .lst [.int s.1, .int s.2]
def hide (p : Addr) (H : Hp) : Hp := fun a => if a = p then none else H a
theorem hide_at {p : Addr} {H : Hp} : hide p H p = none := if_pos rfl
theorem hide_ne {p a : Addr} {H : Hp} (h : a ≠ p) : hide p H a = H a := if_neg h
theorem hide_some {p a : Addr} {H : Hp} {o : HO} (h : hide p H a = some o) : a ≠ p ∧ H a = some o := by
  by_cases e : a = p
  · rw [e, hide_at] at h
    cases h
  · rw [hide_ne e] at h
    exact ⟨e, h⟩
theorem hide_le {p : Addr} {H : Hp} : Ex (hide p H) H := fun _ _ h => (hide_some h).2
theorem hx_of {p : Addr} {H H' : Hp} (e : Ex H H') : Ex (hide p H) H' := hide_le.trans e
theorem hx_hide {p : Addr} {H H' : Hp} (e : Ex (hide p H) H') : Ex (hide p H) (hide p H') := fun a o h => by
  rw [hide_ne (hide_some h).1]
  exact e a o h
theorem hx_trans {p : Addr} {H H1 H2 : Hp} (a : Ex (hide p H) H1) (b : Ex (hide p H1) H2) : Ex (hide p H) H2 := (hx_hide a).trans b
theorem hx_upd {p : Addr} {H : Hp} {o : HO} : Ex (hide p H) (upd H p o) := fun a u h => by
  rw [upd_ne (hide_some h).1]
  exact (hide_some h).2

structure Kn (G : Hp) (p : Addr) (s : Int × Int) (H : Hp) : Prop where
  ex : Ex G H
  at_ : H p = some (pl s)
  fr : G p = none
theorem Kn.next {G H H' : Hp} {p : Addr} {s s' : Int × Int} (k : Kn G p s H) (e : Ex (hide p H) H') (h : H' p = some (pl s')) : Kn G p s' H' :=
  ⟨fun a o ha => e a o (by
    have ne : a ≠ p := fun z => by
      rw [z, k.fr] at ha
      cases ha
    rw [hide_ne ne]
    exact k.ex a o ha), h, k.fr⟩
theorem Kn.same {G H H' : Hp} {p : Addr} {s : Int × Int} (k : Kn G p s H) (e : Ex H H') : Kn G p s H' := k.next (hx_of e) (e p _ k.at_)
theorem Kn.here {H : Hp} {p : Addr} {s : Int × Int} (h : H p = some (pl s)) : Kn (hide p H) p s H := ⟨hide_le, h, hide_at⟩
/-- what is known besides -/
theorem Kn.more {G G' H : Hp} {p : Addr} {s : Int × Int} (k : Kn G p s H) (e : Ex G' H) (h : G' p = none) : Kn G' p s H := ⟨e, k.at_, h⟩

def EvP (te : TE) (σ : L2.St) (G : Hp) (p : Addr) (s : Int × Int) (v : V) (s' : Int × Int) : Prop := ∀ H, Kn G p s H → ∀ Q : VK, (∀ H', Ex (hide p H) H' → H' p = some (pl s') → Q v H') → te σ H Q
def EvAP (ta : TA) (σ : L2.St) (G : Hp) (p : Addr) (s : Int × Int) (vs : List V) (s' : Int × Int) : Prop := ∀ H, Kn G p s H → ∀ Q : List V → Hp → Prop, (∀ H', Ex (hide p H) H' → H' p = some (pl s') → Q vs H') → ta σ H Q
def EvTP (t : TT) (σ : L2.St) (G : Hp) (p : Addr) (s : Int × Int) (b : Bool) (s' : Int × Int) : Prop := ∀ H, Kn G p s H → ∀ Q : Bool → Hp → Prop, (∀ H', Ex (hide p H) H' → H' p = some (pl s') → Q b H') → t σ H Q
def SpP (sp : Sp) (vs : List V) (G : Hp) (p : Addr) (s : Int × Int) (v : V) (s' : Int × Int) : Prop := ∀ H, Kn G p s H → ∀ Q : VK, (∀ H', Ex (hide p H) H' → H' p = some (pl s') → Q v H') → ∀ E : XK, sp vs H Q E
section
variable {K : PySem.W.Frag} {σ : L2.St} {G H : Hp} {p : Addr} {s s1 s2 s3 : Int × Int} {ta tb te : TE} {t u : TT} {x y z v : V} {r : R2}
theorem EvP.of (h : Ev te σ G v) : EvP te σ G p s v s := fun H k Q q => h H k.ex Q fun H' e => q H' (hx_of e) (e p _ k.at_)
theorem EvTP.of {b : Bool} (h : EvT t σ G b) : EvTP t σ G p s b s := fun H k Q q => h H k.ex Q fun H' e => q H' (hx_of e) (e p _ k.at_)
theorem EvAP.of {ta : TA} {vs : List V} (h : EvA ta σ G vs) : EvAP ta σ G p s vs s := fun H k Q q => h H k.ex Q fun H' e => q H' (hx_of e) (e p _ k.at_)
theorem evp_op (ha : EvP ta σ G p s x s1) (hb : EvP tb σ G p s1 y s2) (hr : RV r x y G z) : EvP (tOp r ta tb) σ G p s z s2 := fun H k Q q =>
  ha H k _ fun H1 e1 h1 => hb H1 (k.next e1 h1) _ fun H2 e2 h2 => hr H2 ((k.next e1 h1).next e2 h2).ex Q fun H3 e3 => q H3 (hx_trans (hx_trans e1 e2) (hx_of e3)) (e3 p _ h2)
theorem evp_is {w : V} (h : EvP te σ G p s v s1) (e : v = w) : EvP te σ G p s w s1 := e ▸ h
theorem eap_cons {tr : TA} {vs : List V} (h : EvP ta σ G p s x s1) (hr : EvAP tr σ G p s1 vs s2) : EvAP (tCons ta tr) σ G p s (x :: vs) s2 := fun H k Q q =>
  h H k _ fun H1 e1 h1 => hr H1 (k.next e1 h1) _ fun H2 e2 h2 => q H2 (hx_trans e1 e2) h2
theorem eap_nil : EvAP tNil σ G p s [] s := EvAP.of ea_nil
theorem evp_call {sp : Sp} {E : XK} {ta : TA} {vs : List V} (h : EvAP ta σ G p s vs s1) (hs : SpP sp (vs ++ []) G p s1 z s2) : EvP (tCall sp [] E ta) σ G p s z s2 := fun H k Q q =>
  h H k _ fun H1 e1 h1 => hs H1 (k.next e1 h1) Q (fun H2 e2 h2 => q H2 (hx_trans e1 e2) h2) E
theorem evtp_test {b : Bool} (h : EvP te σ G p s (.bl b) s1) : EvTP (tTest te) σ G p s b s1 := fun H k Q q => h H k _ fun H1 e1 h1 => ⟨b, rfl, q H1 e1 h1⟩
theorem evtp_B {b : Bool} (h : EvP te σ G p s (.bl b) s1) : EvTP (tB te) σ G p s b s1 := fun H k Q q => h H k _ fun H1 e1 h1 => ⟨b, rfl, q H1 e1 h1⟩
theorem evtp_is {a b : Bool} (h : EvTP t σ G p s a s1) (e : a = b) : EvTP t σ G p s b s1 := e ▸ h
theorem evtp_or {a b : Bool} (h1 : EvTP t σ G p s a s1) (h2 : a = false → EvTP u σ G p s1 b s2) (h3 : a = true → s2 = s1) : EvTP (tOr t u) σ G p s (a || b) s2 := fun H k Q q => h1 H k _ fun H1 e1 g1 => by
  cases a with
  | true =>
    show Q true H1
    rw [h3 rfl] at q
    exact q H1 e1 g1
  | false =>
    show u σ H1 Q
    exact h2 rfl H1 (k.next e1 g1) Q fun H2 e2 g2 => q H2 (hx_trans e1 e2) g2
theorem evtp_and {a b : Bool} (h1 : EvTP t σ G p s a s1) (h2 : a = true → EvTP u σ G p s1 b s2) (h3 : a = false → s2 = s1) : EvTP (tAnd t u) σ G p s (a && b) s2 := fun H k Q q => h1 H k _ fun H1 e1 g1 => by
  cases a with
  | true =>
    show u σ H1 Q
    exact h2 rfl H1 (k.next e1 g1) Q fun H2 e2 g2 => q H2 (hx_trans e1 e2) g2
  | false =>
    show Q false H1
    rw [h3 rfl] at q
    exact q H1 e1 g1
theorem evtp_orI {a b : Bool} (h1 : EvTP t σ G p s a s1) (h2 : a = false → EvTP u σ G p s1 b s2) : EvTP (tOr t u) σ G p s (a || b) (if a = true then s1 else s2) := by
  cases a with
  | true => exact evtp_or h1 (fun z => by cases z) (fun _ => rfl)
  | false => exact evtp_or h1 (fun z => h2 z) (fun z => by cases z)
theorem evtp_andI {a b : Bool} (h1 : EvTP t σ G p s a s1) (h2 : a = true → EvTP u σ G p s1 b s2) : EvTP (tAnd t u) σ G p s (a && b) (if a = true then s2 else s1) := by
  cases a with
  | true => exact evtp_and h1 (fun z => h2 z) (fun z => by cases z)
  | false => exact evtp_and h1 (fun z => by cases z) (fun _ => rfl)
theorem evtp_not {a : Bool} (h1 : EvTP t σ G p s a s1) : EvTP (tNot t) σ G p s (!a) s1 := fun H k Q q => h1 H k _ fun H1 e1 g1 => q H1 e1 g1

/-! statements -/
variable {D : Ends} {tu tw tz : TS} {g : TG}
theorem sp_asg {i : Nat} (k : Kn G p s H) (h : EvP te σ G p s v s1) (nx : ∀ H', Kn G p s1 H' → Ex (hide p H) H' → D.nx (σ.set i (some v)) H') : tAsg te (gName i) D σ H := h H k _ fun H' e g => nx H' (k.next e g) e
theorem qp_asg {i : Nat} (k : Kn G p s H) (h : EvP te σ G p s v s1) (nx : ∀ H', Kn G p s1 H' → Ex (hide p H) H' → tz D (σ.set i (some v)) H') : tSeq (tAsg te (gName i)) tz D σ H := sp_asg (D := { D with nx := tz D }) k h nx
theorem sp_ret (k : Kn G p s H) (h : EvP te σ G p s v s1) (nx : ∀ H', Kn G p s1 H' → Ex (hide p H) H' → D.rt v H') : tRet te D σ H := h H k _ fun H' e g => nx H' (k.next e g) e
theorem sp_if {b : Bool} (k : Kn G p s H) (h : EvTP t σ G p s b s1) (h1 : b = true → ∀ H', Kn G p s1 H' → Ex (hide p H) H' → tu D σ H') (h2 : b = false → ∀ H', Kn G p s1 H' → Ex (hide p H) H' → tw D σ H') : tIfS t tu tw D σ H := h H k _ fun H' e g => by
  cases b with
  | true =>
    show tu D σ H'
    exact h1 rfl H' (k.next e g) e
  | false =>
    show tw D σ H'
    exact h2 rfl H' (k.next e g) e
theorem qp_if {b : Bool} (k : Kn G p s H) (h : EvTP t σ G p s b s1) (h1 : b = true → ∀ H', Kn G p s1 H' → Ex (hide p H) H' → tu { D with nx := tz D } σ H') (h2 : b = false → ∀ H', Kn G p s1 H' → Ex (hide p H) H' → tw { D with nx := tz D } σ H') : tSeq (tIfS t tu tw) tz D σ H :=
  sp_if (D := { D with nx := tz D }) k h h1 h2
theorem qp_when {b : Bool} (k : Kn G p s H) (h : EvTP t σ G p s b s1) (h1 : b = true → ∀ H', Kn G p s1 H' → Ex (hide p H) H' → tu { D with nx := tz D } σ H') (h2 : b = false → ∀ H', Kn G p s1 H' → Ex (hide p H) H' → tz D σ H') : tSeq (tIfS t tu tNext) tz D σ H :=
  sp_if (D := { D with nx := tz D }) k h h1 h2
theorem Kn.mut {l : Addr} {o : HO} (k : Kn G p s H) (h : G l = none) (ne : p ≠ l) : Kn G p s (upd H l o) := ⟨Ex.mut k.ex h, by rw [upd_ne ne]; exact k.at_, k.fr⟩
/-- xs.append(a draw) -/
theorem sp_app {K : PySem.W.Frag} {l : Addr} {i : Nat} {xs : List V} (k : Kn G p s H) (hl : H l = some (.lst xs)) (ne : l ≠ p) (hi : σ[i]? = some (some (.ref l))) (h : EvP te σ G p s v s1) (hz : xs.length < 100000) (nx : ∀ H', Kn G p s1 H' → Ex (hide p H) H' → D.nx σ (upd H' l (.lst (xs ++ [v])))) :
    tDrop (tBM K "list" rAppend (tVar i) (tCons te tNil)) D σ H := ⟨_, hi, Or.inl ⟨rfl, xs, sq_of hl⟩, h H k _ fun H' e g => ⟨l, xs, v, rfl, rfl, e l _ (by rw [hide_ne ne]; exact hl), sz_lt hz, nx H' (k.next e g) e⟩⟩
/-- a new list of draws -/
theorem qp_asgLst {ta : TA} {i : Nat} {vs : List V} (k : Kn G p s H) (h : EvAP ta σ G p s vs s1) (hl : vs.length ≤ 100000) (nx : ∀ l H', Kn G p s1 H' → Ex (hide p H) H' → H' l = some (.lst vs) → tz D (σ.set i (some (.ref l))) H') : tSeq (tAsg (tLst ta) (gName i)) tz D σ H :=
  h H k _ fun H' e g => ⟨sz_of hl, fun l nl => nx l _ ((k.next e g).same (Ex.new nl)) (e.trans (Ex.new nl)) upd_same⟩
theorem sp_forR1 {ta : TA} {j : Nat} {n : Int} (k : Kn G p s H) (h : EvAP ta σ G p s [.int n] s1) (hn : 0 ≤ n ∧ n ≤ 100000) (Pv : Nat → L2.St → Hp → Prop) (h0 : ∀ H1, Kn G p s1 H1 → Ex (hide p H) H1 → Pv 0 σ H1)
    (hs : ∀ (i : Nat) σ' H', (i : Int) < n → Pv i σ' H' → tu { D with nx := Pv (i + 1), ct := Pv (i + 1), bk := D.nx } (σ'.set j (some (.int (i : Int)))) H') (hd : ∀ σ' H', Pv n.toNat σ' H' → D.nx σ' H') : tFor (iRng1 ta) (gName j) tu D σ H :=
  h H k _ fun H1 e g1 => ⟨n, rfl, by omega, by omega, for_range (lo := 0) (n := n.toNat) Pv (h0 H1 (k.next e g1) e) (fun i σ' H' hi q => by
    have e0 : (0 : Int) + (i : Int) = (i : Int) := Int.zero_add _
    show tu { D with nx := Pv (i + 1), ct := Pv (i + 1), bk := D.nx } (σ'.set j (some (.int ((0 : Int) + (i : Int))))) H'
    rw [e0]
    exact hs i σ' H' (by omega) q) hd⟩
theorem qp_forR1 {ta : TA} {j : Nat} {n : Int} (k : Kn G p s H) (h : EvAP ta σ G p s [.int n] s1) (hn : 0 ≤ n ∧ n ≤ 100000) (Pv : Nat → L2.St → Hp → Prop) (h0 : ∀ H1, Kn G p s1 H1 → Ex (hide p H) H1 → Pv 0 σ H1)
    (hs : ∀ (i : Nat) σ' H', (i : Int) < n → Pv i σ' H' → tu { D with nx := Pv (i + 1), ct := Pv (i + 1), bk := tz D } (σ'.set j (some (.int (i : Int)))) H') (hd : ∀ σ' H', Pv n.toNat σ' H' → tz D σ' H') : tSeq (tFor (iRng1 ta) (gName j) tu) tz D σ H :=
  sp_forR1 (D := { D with nx := tz D }) k h hn Pv h0 hs hd
end

/-! ### values by operators -/
section
variable {K : PySem.W.Frag} {σ : L2.St} {G H : Hp} {ta tb te : TE} {t : TT} {x y z v : V} {r : R2}
theorem rv_add {i j : Int} : RV (rI0 fun i j => .int (i + j)) (.int i) (.int j) H (.int (i + j)) := rv_I0
theorem rv_mul {i j : Int} (h : (-(2 ^ 64) < i ∧ i < 2 ^ 64) ∨ (-(2 ^ 64) < j ∧ j < 2 ^ 64)) : RV (rI CMul fun i j => .int (i * j)) (.int i) (.int j) H (.int (i * j)) := rv_I h
theorem ev_neg {i : Int} (h : Ev te σ H (.int i)) : Ev (tUn (rU fun i => .int (-i)) te) σ H (.int (-i)) := ev_un h ru_neg
theorem at_last {xs : List V} (h : xs ≠ []) : atI xs (-1) = xs.getLast? := by
  have hl := List.length_pos_iff.mpr h
  unfold atI ixN
  rw [if_neg (by omega), if_pos (by omega), List.getLast?_eq_getElem?]
  show xs[((-1 : Int) + (xs.length : Int)).toNat]? = _
  congr 1
  omega
theorem rv_mod {i j : Int} (h : 0 < j) : RV (rI (fun _ j => 0 < j) fun i j => .int (i % j)) (.int i) (.int j) H (.int (i % j)) := rv_I h
theorem rv_div {i j : Int} (h : 0 < j) (h2 : j < 2 ^ 64) : RV (rI CDivW fun i j => .int (i / j)) (.int i) (.int j) H (.int (i / j)) := rv_I (wide_div (b := 64) h (by omega) (by decide) (by decide))
theorem rv_cat {a b : Str} (h : a.length + b.length ≤ 100000) : RV (fun x y H Q => ∃ i j, x = .str i ∧ y = .str j ∧ i.length + j.length ≤ sizeLine ∧ Q (.str (i ++ j)) H) (.str a) (.str b) H (.str (a ++ b)) :=
  fun H1 _ _ q => ⟨a, b, rfl, rfl, sz_of h, q H1 (Ex.refl H1)⟩
theorem rv_sgn {c : Nat} {z : Str} : RV (fun x y H Q => ∃ (c : Nat) (z : Str), x = .str ⟨#[c]⟩ ∧ y = .str z ∧ Q (.bl (decide (c ∈ z.cps.toList))) H) (.str ⟨#[c]⟩) (.str z) H (.bl (decide (c ∈ z.cps.toList))) :=
  fun H1 _ _ q => ⟨c, z, rfl, rfl, q H1 (Ex.refl H1)⟩
theorem rv_nsgn {c : Nat} {z : Str} : RV (fun x y H Q => ∃ (c : Nat) (z : Str), x = .str ⟨#[c]⟩ ∧ y = .str z ∧ Q (.bl (!decide (c ∈ z.cps.toList))) H) (.str ⟨#[c]⟩) (.str z) H (.bl (!decide (c ∈ z.cps.toList))) :=
  fun H1 _ _ q => ⟨c, z, rfl, rfl, q H1 (Ex.refl H1)⟩
theorem rv_notB {a b : Bool} : RV rNotB (.bl a) (.bl b) H (.bl (!decide (a = b))) := fun H1 _ _ q => ⟨a, b, rfl, rfl, q H1 (Ex.refl H1)⟩
theorem rv_isB {a b : Bool} : RV rIsB (.bl a) (.bl b) H (.bl (decide (a = b))) := fun H1 _ _ q => ⟨a, b, rfl, rfl, q H1 (Ex.refl H1)⟩
/-- int(n), int(truth) -/
theorem ev_int {i : Int} (h : Ev te σ H (.int i)) : Ev (tCB (fun xs H Q => (∃ i, xs = [.int i] ∧ Q (.int i) H) ∨ ∃ k, xs = [.bl k] ∧ Q (.int (if k then 1 else 0)) H) (tCons te tNil)) σ H (.int i) := fun H1 e Q q =>
  h H1 e _ fun H2 e2 => .inl ⟨i, rfl, q H2 e2⟩
theorem ev_intB {b : Bool} (h : Ev te σ H (.bl b)) : Ev (tCB (fun xs H Q => (∃ i, xs = [.int i] ∧ Q (.int i) H) ∨ ∃ k, xs = [.bl k] ∧ Q (.int (if k then 1 else 0)) H) (tCons te tNil)) σ H (.int (if b then 1 else 0)) := fun H1 e Q q =>
  h H1 e _ fun H2 e2 => .inr ⟨b, rfl, q H2 e2⟩
theorem ev_lenS {z : Str} (h : Ev te σ H (.str z)) (hz : z.length ≤ 100000) : Ev (tCB (fun xs H Q => ∃ z, xs = [.str z] ∧ z.length ≤ sizeLine ∧ Q (.int z.length) H) (tCons te tNil)) σ H (.int z.length) := fun H1 e Q q =>
  h H1 e _ fun H2 e2 => ⟨z, rfl, sz_of hz, q H2 e2⟩
theorem ev_lenL {p : Addr} {xs : List V} (h : Ev te σ H (.ref p)) (hx : SqL K H p xs) : Ev (tCB (fun xs H Q => ∃ p ys, xs = [.ref p] ∧ (SqL K H p ys ∨ SqT K H p ys) ∧ Q (.int ys.length) H) (tCons te tNil)) σ H (.int xs.length) := fun H1 e Q q =>
  h H1 e _ fun H2 e2 => ⟨p, xs, rfl, .inl (ex_l (e.trans e2) hx), q H2 e2⟩
theorem ev_min2 {i j : Int} (ha : Ev ta σ H (.int i)) (hb : Ev tb σ H (.int j)) : Ev (tCB (fun xs H Q => ∃ i j, xs = [.int i, .int j] ∧ Q (.int (if j < i then j else i)) H) (tCons ta (tCons tb tNil))) σ H (.int (if j < i then j else i)) := fun H1 e Q q =>
  ha H1 e _ fun H2 e2 => hb H2 (e.trans e2) _ fun H3 e3 => ⟨i, j, rfl, q H3 (e2.trans e3)⟩
theorem ev_max {i j : Int} (ha : Ev ta σ H (.int i)) (hb : Ev tb σ H (.int j)) : Ev (tCB (fun xs H Q => ∃ i j, xs = [.int i, .int j] ∧ Q (.int (if j > i then j else i)) H) (tCons ta (tCons tb tNil))) σ H (.int (if j > i then j else i)) := fun H1 e Q q =>
  ha H1 e _ fun H2 e2 => hb H2 (e.trans e2) _ fun H3 e3 => ⟨i, j, rfl, q H3 (e2.trans e3)⟩
theorem tyx_mono {H H' : Hp} {x : V} {t : Value} (e : Ex H H') (h : TyX K H x t) : TyX K H' x t := by
  cases h with
  | base b =>
    cases b with
    | non => exact .base .non
    | bl x => exact .base (.bl x)
    | int x => exact .base (.int x)
    | str x => exact .base (.str x)
    | flt x => exact .base (.flt x)
    | lst q => exact .base (.lst (e _ _ q))
    | frz q => exact .base (.frz (e _ _ q))
    | tup q => exact .base (.tup (e _ _ q))
    | dK q => exact .base (.dK (e _ _ q))
    | dT q => exact .base (.dT (e _ _ q))
    | ins q cl ha hn htk hm => exact .base (.ins (e _ _ q) cl ha hn htk hm)
  | byt b => exact .byt b
  | set q => exact .set (e _ _ q)
  | kList q c => exact .kList q c
  | kTuple q c => exact .kTuple q c
  | kDict q c => exact .kDict q c
  | fTuple q => exact .fTuple (e _ _ q)
  | fDict q => exact .fDict (e _ _ q)
/-- isinstance(x, T), T a built-in type -/
theorem ev_isi {a c : String} {b : Bool} (h : Ev te σ H x) (ty : TyX K H x (.type a)) (hk : kitB a c = some b) : Ev (tCB (rIsi K) (tCons te (tCons (tC (.ty c)) tNil))) σ H (.bl b) := fun H1 e Q q =>
  h H1 e _ fun H2 e2 => ⟨x, .ty c, .type a, .type c, b, rfl, .ty c, tyx_mono (e.trans e2) ty, kit_ty hk, q H2 e2⟩
/-- all(a new list of truths) -/
theorem ev_all {bs : List Bool} (h : EvL te σ H (bs.map V.bl)) : Ev (tCB (rAll K) (tCons te tNil)) σ H (.bl (bs.all id)) := fun H1 e Q q =>
  h H1 e _ fun p H2 _ e2 h2 => ⟨p, bs, rfl, sq_of h2, q H2 e2⟩
theorem ev_any {bs : List Bool} (h : EvL te σ H (bs.map V.bl)) : Ev (tCB (rAny K) (tCons te tNil)) σ H (.bl (bs.any id)) := fun H1 e Q q =>
  h H1 e _ fun p H2 _ e2 h2 => ⟨p, bs, rfl, sq_of h2, q H2 e2⟩
theorem et_yes : EvT tYes σ H true := fun H1 _ _ q => q H1 (Ex.refl H1)
/-- a comprehension over a text's signs -/
theorem el_lcS {zt : Str} {tl : TE} {j : Nat} {vs : List Nat} (f : Nat → Bool) (w : Nat → V) (h : Ev tl σ H (.str zt)) (hz : zt.cps.size ≤ 40000) (hw : ∀ x, wipe ((wipe σ vs).set j (some x)) vs = wipe σ vs)
    (ht : ∀ (i : Nat) (c : Nat) H1, Ex H H1 → zt.cps[i]? = some c → EvT t ((wipe σ vs).set j (some (.str ⟨#[c]⟩))) H1 (f i)) (he : ∀ (i : Nat) (c : Nat) H1, Ex H H1 → zt.cps[i]? = some c → f i = true → Ev te ((wipe σ vs).set j (some (.str ⟨#[c]⟩))) H1 (w i)) :
    EvL (tLc (iStr tl) (gName j) t te vs) σ H (given zt.cps.size f w) := fun H0 e Q q => h H0 e _ fun H1 e1 => ⟨zt, rfl, fun Dl hD =>
  lc_it walk_str (Cw H1 f w Dl) ⟨hD, Ex.new hD, upd_same⟩ (fun _ _ _ _ => trivial) (fun i x H' H'' hi pc y => by
    obtain ⟨rfl, c, hc, rfl⟩ := y
    exact ⟨hw _, cw_turn pc (by omega) (ht i c H1 (e.trans e1) hc) (fun hf => he i c H1 (e.trans e1) hc hf)⟩)
    (fun H' pc => q Dl H' (fresh_back e1 pc.1) (e1.trans pc.2.1) pc.2.2)⟩
/-- for c in text -/
theorem s_forS {zt : Str} {tl : TE} {j : Nat} {D : Ends} {tu : TS} (h : Ev tl σ H (.str zt)) (Pv : Nat → L2.St → Hp → Prop) (h0 : ∀ H1, Ex H H1 → Pv 0 σ H1)
    (hs : ∀ (i : Nat) (c : Nat) σ' H', zt.cps[i]? = some c → Pv i σ' H' → tu { D with nx := Pv (i + 1), ct := Pv (i + 1), bk := D.nx } (σ'.set j (some (.str ⟨#[c]⟩))) H') (hd : ∀ σ' H', Pv zt.cps.size σ' H' → D.nx σ' H') : tFor (iStr tl) (gName j) tu D σ H :=
  h H (Ex.refl H) _ fun H1 e => ⟨zt, rfl, for_it walk_str Pv (h0 H1 e) (fun _ _ _ _ _ => trivial) (fun i x σ' H' H'' hi pc y => by
    obtain ⟨rfl, c, hc, rfl⟩ := y
    exact hs i c σ' H'' hc pc) hd⟩
theorem q_forS {zt : Str} {tl : TE} {j : Nat} {D : Ends} {tu tz : TS} (h : Ev tl σ H (.str zt)) (Pv : Nat → L2.St → Hp → Prop) (h0 : ∀ H1, Ex H H1 → Pv 0 σ H1)
    (hs : ∀ (i : Nat) (c : Nat) σ' H', zt.cps[i]? = some c → Pv i σ' H' → tu { D with nx := Pv (i + 1), ct := Pv (i + 1), bk := tz D } (σ'.set j (some (.str ⟨#[c]⟩))) H') (hd : ∀ σ' H', Pv zt.cps.size σ' H' → tz D σ' H') : tSeq (tFor (iStr tl) (gName j) tu) tz D σ H :=
  s_forS (D := { D with nx := tz D }) h Pv h0 hs hd

theorem rv_eqI {i j : Int} : RV rEq (.int i) (.int j) H (.bl (decide (i = j))) := fun H1 e Q q => rv_eq (H := H) (x := .int i) (y := .int j) rfl H1 e Q fun H2 e2 => by
  rw [dec_int, show (i == j) = decide (i = j) from rfl]
  exact q H2 e2
theorem rv_neI {i j : Int} : RV rNe (.int i) (.int j) H (.bl (!decide (i = j))) := fun H1 e Q q => rv_ne (H := H) (x := .int i) (y := .int j) rfl H1 e Q fun H2 e2 => by
  rw [dec_int, show (i == j) = decide (i = j) from rfl]
  exact q H2 e2
theorem rv_eqS {i j : Str} : RV rEq (.str i) (.str j) H (.bl (decide (i = j))) := fun H1 e Q q => rv_eq (H := H) (x := .str i) (y := .str j) rfl H1 e Q fun H2 e2 => by
  rw [show decide (V.str i = V.str j) = decide (i = j) from by by_cases h : i = j <;> simp [h]]
  exact q H2 e2
theorem rv_neS {i j : Str} : RV rNe (.str i) (.str j) H (.bl (!decide (i = j))) := fun H1 e Q q => rv_ne (H := H) (x := .str i) (y := .str j) rfl H1 e Q fun H2 e2 => by
  rw [show decide (V.str i = V.str j) = decide (i = j) from by by_cases h : i = j <;> simp [h]]
  exact q H2 e2
theorem rv_neB {i j : Bool} : RV rNe (.bl i) (.bl j) H (.bl (!decide (i = j))) := fun H1 e Q q => rv_ne (H := H) (x := .bl i) (y := .bl j) rfl H1 e Q fun H2 e2 => by
  rw [show decide (V.bl i = V.bl j) = decide (i = j) from by by_cases h : i = j <;> simp [h]]
  exact q H2 e2
theorem rv_eqB {i j : Bool} : RV rEq (.bl i) (.bl j) H (.bl (decide (i = j))) := fun H1 e Q q => rv_eq (H := H) (x := .bl i) (y := .bl j) rfl H1 e Q fun H2 e2 => by
  rw [show decide (V.bl i = V.bl j) = decide (i = j) from by by_cases h : i = j <;> simp [h]]
  exact q H2 e2
/-- a comprehension's list by places is one by items -/
theorem given_eq {α : Type} (l : List α) (d : α) (F : α → Bool) (W : α → V) : given l.length (fun i => F (l.getD i d)) (fun i => W (l.getD i d)) = (l.filter F).map W := by
  have e : l = (List.range l.length).map fun i => l.getD i d := by
    apply List.ext_getElem
    · simp
    · intro i h1 h2
      simp [h1]
  unfold given
  conv => rhs; rw [e, List.filter_map, List.map_map]
  rfl
theorem codes_at {zt : Str} {i c : Nat} (h : zt.cps[i]? = some c) : zt.cps.toList.getD i 0 = c ∧ c ∈ zt.cps.toList := by
  have h2 : zt.cps.toList[i]? = some c := by
    rw [← h]
    simp
  exact ⟨by rw [List.getD_eq_getElem?_getD, h2]; rfl, List.mem_of_getElem? h2⟩
/-- a comprehension over a text, said sign by sign -/
theorem el_lcT {zt : Str} {tl : TE} {j : Nat} {vs : List Nat} (F : Nat → Bool) (W : Nat → V) (h : Ev tl σ H (.str zt)) (hz : zt.length ≤ 40000) (hw : ∀ x, wipe ((wipe σ vs).set j (some x)) vs = wipe σ vs)
    (ht : ∀ (c : Nat) H1, Ex H H1 → c ∈ zt.cps.toList → EvT t ((wipe σ vs).set j (some (.str ⟨#[c]⟩))) H1 (F c)) (he : ∀ (c : Nat) H1, Ex H H1 → c ∈ zt.cps.toList → F c = true → Ev te ((wipe σ vs).set j (some (.str ⟨#[c]⟩))) H1 (W c)) :
    EvL (tLc (iStr tl) (gName j) t te vs) σ H ((zt.cps.toList.filter F).map W) := by
  have e := el_lcS (σ := σ) (H := H) (te := te) (t := t) (zt := zt) (tl := tl) (j := j) (vs := vs) (fun i => F (zt.cps.toList.getD i 0)) (fun i => W (zt.cps.toList.getD i 0)) h hz hw
    (fun i c H1 e1 hc => by rw [(codes_at hc).1]; exact ht c H1 e1 (codes_at hc).2) (fun i c H1 e1 hc hf => by rw [(codes_at hc).1] at hf ⊢; exact he c H1 e1 (codes_at hc).2 hf)
  have e2 : zt.cps.size = zt.cps.toList.length := by simp
  rw [e2, given_eq] at e
  exact e
/-- a comprehension over a list that stands, its items r of the xs -/
theorem el_lcM {α : Type} {a : Addr} {xs : List α} {r : α → V} {tl : TE} {j : Nat} {vs : List Nat} (d : α) (F : α → Bool) (W : α → V) (h : Ev tl σ H (.ref a)) (hx : SqL K H a (xs.map r)) (hz : xs.length ≤ 40000) (hw : ∀ x, wipe ((wipe σ vs).set j (some x)) vs = wipe σ vs)
    (ht : ∀ (x : α) H1, Ex H H1 → x ∈ xs → EvT t ((wipe σ vs).set j (some (r x))) H1 (F x)) (he : ∀ (x : α) H1, Ex H H1 → x ∈ xs → F x = true → Ev te ((wipe σ vs).set j (some (r x))) H1 (W x)) :
    EvL (tLc (iList K tl) (gName j) t te vs) σ H ((xs.filter F).map W) := by
  have key : ∀ (i : Nat) (x : V), (xs.map r)[i]? = some x → r (xs.getD i d) = x ∧ xs.getD i d ∈ xs := fun i x hi => by
    rw [List.getElem?_map] at hi
    cases hy : xs[i]? with
    | none =>
      rw [hy] at hi
      cases hi
    | some y =>
      rw [hy] at hi
      rw [List.getD_eq_getElem?_getD, hy]
      exact ⟨Option.some.inj hi, List.mem_of_getElem? hy⟩
  have e := el_lcL (K := K) (σ := σ) (H := H) (te := te) (t := t) (a := a) (xs := xs.map r) (tl := tl) (j := j) (vs := vs) (fun i => F (xs.getD i d)) (fun i => W (xs.getD i d)) h hx (by rw [List.length_map]; exact hz) hw
    (fun i x H1 e1 hc => by rw [← (key i x hc).1]; exact ht _ H1 e1 (key i x hc).2) (fun i x H1 e1 hc hf => by rw [← (key i x hc).1]; exact he _ H1 e1 (key i x hc).2 hf)
  rw [List.length_map, given_eq] at e
  exact e
/-- a comprehension over a new list -/
theorem el_lcNM {α : Type} {xs : List α} {r : α → V} {tl : TE} {j : Nat} {vs : List Nat} (d : α) (F : α → Bool) (W : α → V) (h : EvL tl σ H (xs.map r)) (hz : xs.length ≤ 40000) (hw : ∀ x, wipe ((wipe σ vs).set j (some x)) vs = wipe σ vs)
    (ht : ∀ (x : α) H1, Ex H H1 → x ∈ xs → EvT t ((wipe σ vs).set j (some (r x))) H1 (F x)) (he : ∀ (x : α) H1, Ex H H1 → x ∈ xs → F x = true → Ev te ((wipe σ vs).set j (some (r x))) H1 (W x)) :
    EvL (tLc (iList K tl) (gName j) t te vs) σ H ((xs.filter F).map W) := by
  have key : ∀ (i : Nat) (x : V), (xs.map r)[i]? = some x → r (xs.getD i d) = x ∧ xs.getD i d ∈ xs := fun i x hi => by
    rw [List.getElem?_map] at hi
    cases hy : xs[i]? with
    | none =>
      rw [hy] at hi
      cases hi
    | some y =>
      rw [hy] at hi
      rw [List.getD_eq_getElem?_getD, hy]
      exact ⟨Option.some.inj hi, List.mem_of_getElem? hy⟩
  have e := el_lcNL (K := K) (σ := σ) (H := H) (te := te) (t := t) (xs := xs.map r) (tl := tl) (j := j) (vs := vs) (fun i => F (xs.getD i d)) (fun i => W (xs.getD i d)) h (by rw [List.length_map]; exact hz) hw
    (fun i x H1 e1 hc => by rw [← (key i x hc).1]; exact ht _ H1 e1 (key i x hc).2) (fun i x H1 e1 hc hf => by rw [← (key i x hc).1]; exact he _ H1 e1 (key i x hc).2 hf)
  rw [List.length_map, given_eq] at e
  exact e
/-- a comprehension over a tuple that stands -/
theorem el_lcUM {α : Type} {a : Addr} {xs : List α} {r : α → V} {tl : TE} {j : Nat} {vs : List Nat} (d : α) (F : α → Bool) (W : α → V) (h : Ev tl σ H (.ref a)) (hx : SqT K H a (xs.map r)) (hz : xs.length ≤ 40000) (hw : ∀ x, wipe ((wipe σ vs).set j (some x)) vs = wipe σ vs)
    (ht : ∀ (x : α) H1, Ex H H1 → x ∈ xs → EvT t ((wipe σ vs).set j (some (r x))) H1 (F x)) (he : ∀ (x : α) H1, Ex H H1 → x ∈ xs → F x = true → Ev te ((wipe σ vs).set j (some (r x))) H1 (W x)) :
    EvL (tLc (iTup K tl) (gName j) t te vs) σ H ((xs.filter F).map W) := by
  have key : ∀ (i : Nat) (x : V), (xs.map r)[i]? = some x → r (xs.getD i d) = x ∧ xs.getD i d ∈ xs := fun i x hi => by
    rw [List.getElem?_map] at hi
    cases hy : xs[i]? with
    | none =>
      rw [hy] at hi
      cases hi
    | some y =>
      rw [hy] at hi
      rw [List.getD_eq_getElem?_getD, hy]
      exact ⟨Option.some.inj hi, List.mem_of_getElem? hy⟩
  have e : EvL (tLc (iTup K tl) (gName j) t te vs) σ H (given (xs.map r).length (fun i => F (xs.getD i d)) (fun i => W (xs.getD i d))) := fun H0 e Q q => h H0 e _ fun H1 e1 => ⟨a, rfl, ⟨xs.map r, ex_t (e.trans e1) hx⟩, fun Dl hD =>
    lc_it walk_tup (Cw H1 (fun i => F (xs.getD i d)) (fun i => W (xs.getD i d)) Dl) ⟨hD, Ex.new hD, upd_same⟩ (fun i H' _ pc => ex_t ((e.trans e1).trans pc.2.1) hx) (fun i x H' H'' hi pc y => by
      obtain ⟨rfl, hy⟩ := y
      obtain ⟨k1, k2⟩ := key i x hy
      rw [List.length_map] at hi
      exact ⟨hw _, cw_turn pc (by omega) (by rw [← k1]; exact ht _ H1 (e.trans e1) k2) (fun hf => by rw [← k1]; exact he _ H1 (e.trans e1) k2 hf)⟩)
      (fun H' pc => q Dl H' (fresh_back e1 pc.1) (e1.trans pc.2.1) pc.2.2)⟩
  rw [List.length_map, given_eq] at e
  exact e
theorem ex_fresh {p : Addr} {H1 H2 H3 : Hp} (hp : H1 p = none) (e2 : Ex H1 H2) (e3 : Ex (hide p H2) H3) : Ex H1 H3 := fun a o h => e3 a o (by
  rw [hide_ne (ne_of_none h hp)]
  exact e2 a o h)
theorem filter_yes {α : Type} (l : List α) : l.filter (fun _ => true) = l := List.filter_eq_self.mpr fun _ _ => rfl

/-! ### flat lists compared -/
def toD : V → PyData
  | .bl b => .bool b
  | .int i => .int i
  | .str x => .str x
  | _ => .none
/-- None, truths, ints and texts of signs that there are -/
def okV : V → Bool
  | .non => true
  | .bl _ => true
  | .int _ => true
  | .str x => x.cps.all (· < 0x110000)
  | _ => false
theorem dp_toD {v : V} (h : okV v = true) : Dp K H v (toD v) := by
  cases v with
  | non => exact .non
  | bl b => exact .bl b
  | int i => exact .int i
  | str x => exact .str x
  | byt _ => cases h
  | flt _ => cases h
  | ref _ => cases h
  | ty _ => cases h
theorem dpAll_toD : ∀ {vs : List V}, (∀ v ∈ vs, okV v = true) → DpAll K H vs (vs.map toD)
  | [], _ => .nil
  | v :: vs, h => .cons (dp_toD (h v List.mem_cons_self)) (dpAll_toD fun u hu => h u (List.mem_cons_of_mem _ hu))
theorem lay_toD {v : V} (h : okV v = true) : (toD v).canLay0 = true ∧ (toD v).depth = 0 := by
  cases v with
  | non => exact ⟨by simp [toD, PyData.canLay0], by simp [toD, PyData.depth]⟩
  | bl b => exact ⟨by simp [toD, PyData.canLay0], by simp [toD, PyData.depth]⟩
  | int i => exact ⟨by simp [toD, PyData.canLay0], by simp [toD, PyData.depth]⟩
  | str x => exact ⟨by simp only [toD, PyData.canLay0]; exact h, by simp [toD, PyData.depth]⟩
  | byt _ => cases h
  | flt _ => cases h
  | ref _ => cases h
  | ty _ => cases h
theorem layAll_toD : ∀ {vs : List V}, (∀ v ∈ vs, okV v = true) → PyData.canLayAll0 (vs.map toD) = true ∧ PyData.depthAll (vs.map toD) = 0
  | [], _ => ⟨by simp [PyData.canLayAll0], by simp [PyData.depthAll]⟩
  | v :: vs, h => by
    have h1 := lay_toD (h v List.mem_cons_self)
    have h2 := layAll_toD (vs := vs) fun u hu => h u (List.mem_cons_of_mem _ hu)
    exact ⟨by simp [PyData.canLayAll0, h1.1, h2.1], by simp [PyData.depthAll, h1.2, h2.2]⟩
theorem shaped_l {vs : List V} (h : ∀ v ∈ vs, okV v = true) : SeqAt.shaped (.list (vs.map toD)) = true := by
  have h2 := layAll_toD h
  show (PyData.canLay0 (.list (vs.map toD)) && decide (PyData.depth (.list (vs.map toD)) ≤ 64)) = true
  rw [Bool.and_eq_true]
  exact ⟨by simp only [PyData.canLay0]; exact h2.1, decide_eq_true (by simp only [PyData.depth]; omega)⟩
theorem shaped_t {vs : List V} (h : ∀ v ∈ vs, okV v = true) : SeqAt.shaped (.tuple (vs.map toD)) = true := by
  have h2 := layAll_toD h
  show (PyData.canLay0 (.tuple (vs.map toD)) && decide (PyData.depth (.tuple (vs.map toD)) ≤ 64)) = true
  rw [Bool.and_eq_true]
  exact ⟨by simp only [PyData.canLay0]; exact h2.1, decide_eq_true (by simp only [PyData.depth]; omega)⟩
/-- equal, item by item -/
def eqF : List V → List V → Bool
  | [], [] => true
  | x :: xs, y :: ys => PyData.eqv (toD x) (toD y) && eqF xs ys
  | _, _ => false
theorem eqvAll_toD : ∀ xs ys : List V, PyData.eqvAll (xs.map toD) (ys.map toD) = eqF xs ys
  | [], [] => by simp [PyData.eqvAll, eqF]
  | x :: xs, y :: ys => by simp only [List.map_cons, PyData.eqvAll, eqF, eqvAll_toD xs ys]
  | [], _ :: _ => by simp [PyData.eqvAll, eqF]
  | _ :: _, [] => by simp [PyData.eqvAll, eqF]
theorem rv_eqL {p q : Addr} {xs ys : List V} (hx : SqL K H p xs) (hy : SqL K H q ys) (h1 : ∀ v ∈ xs, okV v = true) (h2 : ∀ v ∈ ys, okV v = true) : RV (rEqD K) (.ref p) (.ref q) H (.bl (eqF xs ys)) := fun H1 e Q k =>
  ⟨.list (xs.map toD), .list (ys.map toD), .lst (ex_l e hx) (dpAll_toD h1), .lst (ex_l e hy) (dpAll_toD h2), shaped_l h1, shaped_l h2, by
    rw [show PyData.eqv (.list (xs.map toD)) (.list (ys.map toD)) = eqF xs ys by simp only [PyData.eqv, eqvAll_toD]]
    exact k H1 (Ex.refl H1)⟩
theorem rv_neL {p q : Addr} {xs ys : List V} (hx : SqL K H p xs) (hy : SqL K H q ys) (h1 : ∀ v ∈ xs, okV v = true) (h2 : ∀ v ∈ ys, okV v = true) : RV (rNeD K) (.ref p) (.ref q) H (.bl (!eqF xs ys)) := fun H1 e Q k =>
  ⟨.list (xs.map toD), .list (ys.map toD), .lst (ex_l e hx) (dpAll_toD h1), .lst (ex_l e hy) (dpAll_toD h2), shaped_l h1, shaped_l h2, by
    rw [show PyData.eqv (.list (xs.map toD)) (.list (ys.map toD)) = eqF xs ys by simp only [PyData.eqv, eqvAll_toD]]
    exact k H1 (Ex.refl H1)⟩
theorem rv_eqT {p q : Addr} {xs ys : List V} (hx : SqT K H p xs) (hy : SqT K H q ys) (h1 : ∀ v ∈ xs, okV v = true) (h2 : ∀ v ∈ ys, okV v = true) : RV (rEqD K) (.ref p) (.ref q) H (.bl (eqF xs ys)) := fun H1 e Q k =>
  ⟨.tuple (xs.map toD), .tuple (ys.map toD), .tup (ex_t e hx) (dpAll_toD h1), .tup (ex_t e hy) (dpAll_toD h2), shaped_t h1, shaped_t h2, by
    rw [show PyData.eqv (.tuple (xs.map toD)) (.tuple (ys.map toD)) = eqF xs ys by simp only [PyData.eqv, eqvAll_toD]]
    exact k H1 (Ex.refl H1)⟩
theorem okV_str1 {c : Nat} (h : c < 0x110000) : okV (.str ⟨#[c]⟩) = true := by
  show ((#[c] : Array Nat).all fun x => decide (x < 0x110000)) = true
  simp
  omega
theorem rv_neT {p q : Addr} {xs ys : List V} (hx : SqT K H p xs) (hy : SqT K H q ys) (h1 : ∀ v ∈ xs, okV v = true) (h2 : ∀ v ∈ ys, okV v = true) : RV (rNeD K) (.ref p) (.ref q) H (.bl (!eqF xs ys)) := fun H1 e Q k =>
  ⟨.tuple (xs.map toD), .tuple (ys.map toD), .tup (ex_t e hx) (dpAll_toD h1), .tup (ex_t e hy) (dpAll_toD h2), shaped_t h1, shaped_t h2, by
    rw [show PyData.eqv (.tuple (xs.map toD)) (.tuple (ys.map toD)) = eqF xs ys by simp only [PyData.eqv, eqvAll_toD]]
    exact k H1 (Ex.refl H1)⟩
theorem eqF_nil (xs : List V) : eqF xs [] = xs.isEmpty := by
  cases xs <;> rfl
/-- of texts -/
theorem eqF_strs : ∀ xs ys : List Str, eqF (xs.map V.str) (ys.map V.str) = decide (xs = ys)
  | [], [] => rfl
  | x :: xs, y :: ys => by
    show (PyData.eqv (.str x) (.str y) && eqF (xs.map V.str) (ys.map V.str)) = _
    rw [eqF_strs xs ys, show PyData.eqv (.str x) (.str y) = (x == y) by simp only [PyData.eqv]]
    by_cases h : x = y
    · subst h
      by_cases h2 : xs = ys
      · subst h2
        simp
      · simp [h2]
    · simp [h]
  | [], _ :: _ => rfl
  | _ :: _, [] => rfl
theorem eqF_ints : ∀ xs ys : List Int, eqF (xs.map V.int) (ys.map V.int) = decide (xs = ys)
  | [], [] => rfl
  | x :: xs, y :: ys => by
    show (PyData.eqv (.int x) (.int y) && eqF (xs.map V.int) (ys.map V.int)) = _
    rw [eqF_ints xs ys, show PyData.eqv (.int x) (.int y) = (x == y) by simp only [PyData.eqv]]
    by_cases h : x = y
    · subst h
      by_cases h2 : xs = ys
      · subst h2
        simp
      · simp [h2]
    · simp [h]
  | [], _ :: _ => rfl
  | _ :: _, [] => rfl
theorem okV_ints {ns : List Int} : ∀ v ∈ ns.map V.int, okV v = true := fun v h => by
  obtain ⟨i, _, rfl⟩ := List.mem_map.mp h
  rfl
end

/-! ### drawing -/
/-- what a pool is between two draws -/
def Pk (s : Int × Int) : Prop := 0 ≤ s.2 ∧ s.2 < 2147483647
/-- a draw: its digit, and the pool behind it -/
def take (s : Int × Int) (n : Int) : Int × (Int × Int) :=
  if 0 < s.1 then (s.1 % n, (s.1 / n, s.2))
  else (((s.2 * 48271 + 11) % 2147483647 * ((s.2 * 48271 + 11) % 2147483647)) % 2147483629 / 64 % n, (s.1, (s.2 * 48271 + 11) % 2147483647))
theorem take_pos {s : Int × Int} {n : Int} (h : 0 < s.1) : take s n = (s.1 % n, (s.1 / n, s.2)) := if_pos h
theorem take_neg {s : Int × Int} {n : Int} (h : ¬ 0 < s.1) : take s n = (((s.2 * 48271 + 11) % 2147483647 * ((s.2 * 48271 + 11) % 2147483647)) % 2147483629 / 64 % n, (s.1, (s.2 * 48271 + 11) % 2147483647)) := if_neg h
theorem take_lt {s : Int × Int} {n : Int} (h : 0 < n) : 0 ≤ (take s n).1 ∧ (take s n).1 < n := by
  by_cases c : 0 < s.1
  · rw [take_pos c]
    exact ⟨Int.emod_nonneg _ (by omega), Int.emod_lt_of_pos _ h⟩
  · rw [take_neg c]
    exact ⟨Int.emod_nonneg _ (by omega), Int.emod_lt_of_pos _ h⟩
theorem take_pk {s : Int × Int} {n : Int} (h : Pk s) : Pk (take s n).2 := by
  by_cases c : 0 < s.1
  · rw [take_pos c]
    exact h
  · rw [take_neg c]
    exact ⟨Int.emod_nonneg _ (by omega), Int.emod_lt_of_pos _ (by omega)⟩
/-- the script's cell for k -/
def cellAt (ns : List Int) (k : Int) : Int := if ns = [] then 0 else ns.getD (k % (ns.length : Int)).toNat 0
def pool0 (ns : List Int) (k : Int) : Int × Int :=
  (cellAt ns k * (if decide (10 ^ 18 ≤ cellAt ns k) then 1 else 0), (cellAt ns k % 2147483629 + 104729 * k + 11) * 48271 % 2147483647)
theorem pool0_pk (ns : List Int) (k : Int) : Pk (pool0 ns k) := ⟨Int.emod_nonneg _ (by omega), Int.emod_lt_of_pos _ (by omega)⟩
/-- what a def that draws hands back: v, the pool at p then s' -/
def RetP (p : Addr) (s' : Int × Int) (v : V) (H : Hp) (Q : VK) : Prop := ∀ H', Ex (hide p H) H' → H' p = some (pl s') → Q v H'
def spTake : Sp := fun vs H Q _ => ∃ (p : Addr) (s : Int × Int) (n : Int), vs = [.ref p, .int n] ∧ H p = some (pl s) ∧ Pk s ∧ 0 < n ∧ n < 2 ^ 60 ∧ RetP p (take s n).2 (.int (take s n).1) H Q
theorem sp_take {G : Hp} {p : Addr} {s : Int × Int} {n : Int} (h : Pk s) (h0 : 0 < n) (h1 : n < 2 ^ 60) : SpP spTake [.ref p, .int n] G p s (.int (take s n).1) (take s n).2 := fun H k Q q _ =>
  ⟨p, s, n, rfl, k.at_, h, h0, h1, q⟩
def spPool (K : PySem.W.Frag) : Sp := fun vs H Q _ => ∃ (a : Addr) (ns : List Int) (k : Int), vs = [.ref a, .int k] ∧ SqL K H a (ns.map V.int) ∧ ns.length ≤ 63 ∧ 0 ≤ k ∧ k ≤ 1000 ∧ ∀ p H', H p = none → Ex H H' → H' p = some (pl (pool0 ns k)) → Q (.ref p) H'

/-! ### more rules: a text times a number, list(text) -/
def repS (z : Str) (k : Nat) : Str := ⟨((List.replicate k z.cps.toList).flatten).toArray⟩
theorem rep_fold (a : Array Nat) : ∀ (k : Nat) (acc : Array Nat), (List.replicate k a).foldl (· ++ ·) acc = acc ++ ((List.replicate k a.toList).flatten).toArray
  | 0, acc => by simp
  | k + 1, acc => by
    simp only [List.replicate_succ, List.foldl_cons, List.flatten_cons]
    rw [rep_fold a k]
    apply Array.ext'
    simp
theorem repS_len (z : Str) (k : Nat) : (repS z k).length = k * z.length := by
  show ((List.replicate k z.cps.toList).flatten).toArray.size = _
  rw [List.size_toArray, List.length_flatten, List.map_replicate, List.sum_replicate_nat]
  show k * z.cps.toList.length = k * z.cps.size
  simp
def rMulS : R2 := fun x y H Q => ∃ (z : Str) (n : Int), x = .str z ∧ y = .int n ∧ 0 ≤ n ∧ n ≤ 1000 ∧ z.length ≤ 1000 ∧ Q (.str (repS z n.toNat)) H
theorem op_mulS {X : Cx} : OpR X (binaryOp .Mult) rMulS := by
  intro pins s σ H x y v u Q I rx ry h
  obtain ⟨z, n, rfl, rfl, h0, h1, hz, q⟩ := h
  obtain ⟨t, rfl⟩ := rx
  obtain ⟨t', rfl⟩ := ry
  have hm : z.length * n.toNat ≤ 1000 * 1000 := Nat.mul_le_mul hz (by omega)
  refine PySem.P.mul_str (by rw [decide_eq_false (by omega), decide_eq_false (by omega)]; rfl) (fun _ _ hh => ?_) (fun _ _ => ?_) ?_
  · have h2 : (1000 : Int) ≤ (2 ^ 63 - 1) / n := by
      have hn : 0 < n := by omega
      rw [Int.le_ediv_iff_mul_le hn]
      have : 1000 * n ≤ 1000 * 1000 := by omega
      have e : (1000 : Int) * 1000 ≤ 2 ^ 63 - 1 := by decide
      omega
    omega
  · exact decide_eq_false (by
      have : (1000 * 1000 : Nat) ≤ sizeLine := by decide
      omega)
  · by_cases c : n < 1
    · rw [if_pos c]
      have e : repS z n.toNat = Str.empty := by
        rw [show n.toNat = 0 by omega]
        rfl
      exact ⟨by decide, .str (repS z n.toNat), H, I.tok _, ⟨_, by rw [e]⟩, q⟩
    · rw [if_neg c]
      by_cases d : (n == 1 || z.length == 0) = true
      · rw [if_pos d]
        have e : repS z n.toNat = z := by
          rcases Bool.or_eq_true _ _ ▸ d with d | d
          · have : n = 1 := by simpa using d
            rw [this]
            show (⟨((List.replicate 1 z.cps.toList).flatten).toArray⟩ : Str) = z
            cases z with
            | mk a => simp
          · have hz0 : z.cps.size = 0 := eq_of_beq d
            cases z with
            | mk a =>
              have : a = #[] := Array.eq_empty_of_size_eq_zero hz0
              subst this
              unfold repS
              have : ∀ k : Nat, (List.replicate k ([] : List Nat)).flatten = [] := fun k => by induction k with
                | zero => rfl
                | succ k ih => simpa [List.replicate_succ] using ih
              show (⟨((List.replicate n.toNat ([] : List Nat)).flatten).toArray⟩ : Str) = _
              rw [this]
        exact ⟨.str (repS z n.toNat), H, I, ⟨_, by rw [e]⟩, q⟩
      · rw [if_neg d]
        have e : (⟨(List.replicate n.toNat z.cps).foldl (· ++ ·) #[]⟩ : Str) = repS z n.toNat := by
          rw [rep_fold]
          unfold repS
          simp
        rw [e]
        have hl := repS_len z n.toNat
        refine ⟨?_, .str (repS z n.toNat), H, I.tok _, ⟨_, rfl⟩, q⟩
        rw [hl, Nat.mul_comm]
        have : (1000 * 1000 : Nat) ≤ sizeLine := by decide
        omega
/-- the signs of a text, a text each -/
def chars (z : Str) : List V := z.cps.toList.map fun c => V.str ⟨#[c]⟩
def rListStr : List V → Hp → VK → Prop := fun xs H Q => ∃ z : Str, xs = [.str z] ∧ z.length ≤ sizeLine ∧ ∀ l, H l = none → Q (.ref l) (upd H l (.lst (chars z)))
theorem call_listS {X : Cx} (hc : X.calm = true) : CallR X (.type "list") rListStr := by
  intro pins s σ H xs us Q I r h
  obtain ⟨z, rfl, hz, q⟩ := h
  obtain ⟨u, rfl, rx⟩ := vals1 r
  obtain ⟨t, rfl⟩ := rx
  refine PySem.call_list_str (I.ok.hd hc) z t (fun h' tk acc' c' hk e hi => ?_) (by simpa [Str.length] using hz)
  have hlen : (chars z).length = z.cps.size := by simp [chars]
  refine ⟨.ref s.heap.objs.size, upd H s.heap.objs.size (.lst (chars z)), I.laid hk (Nat.le_refl _) ⟨by rw [hlen]; exact hz, acc'.toList, c', ?_, by rw [Array.toArray_toList]; exact e⟩, rfl, q _ (I.hok.fresh (Nat.le_refl _))⟩
  refine vals_of_idx _ _ (by rw [hlen, Array.length_toList]; exact hi.1) fun j u hj => ?_
  obtain ⟨c, t', hc, rfl⟩ := hi.2 j u (by rw [← Array.getElem?_toList]; exact hj)
  refine ⟨.str ⟨#[c]⟩, ?_, ⟨_, rfl⟩⟩
  unfold chars
  rw [List.getElem?_map, Array.getElem?_toList, hc]
  rfl
section
variable {K : PySem.W.Frag} {σ : L2.St} {G H : Hp} {ta tb te : TE} {t : TT} {x y z v : V} {r : R2} {D : Ends} {tz : TS}
theorem rv_rep {zt : Str} {n : Int} (h0 : 0 ≤ n) (h1 : n ≤ 1000) (hz : zt.length ≤ 1000) : RV rMulS (.str zt) (.int n) H (.str (repS zt n.toNat)) := fun H1 _ _ q => ⟨zt, n, rfl, rfl, h0, h1, hz, q H1 (Ex.refl H1)⟩
theorem el_listS {zt : Str} (h : Ev te σ H (.str zt)) (hz : zt.length ≤ 100000) : EvL (tCB rListStr (tCons te tNil)) σ H (chars zt) := fun H1 e Q q =>
  h H1 e _ fun H2 e2 => ⟨zt, rfl, sz_of hz, fun l hl => q l _ (fresh_back e2 hl) (e2.trans (Ex.new hl)) upd_same⟩
theorem el_listL {a : Addr} {xs : List V} (h : Ev te σ H (.ref a)) (hx : SqL K H a xs) : EvL (tCB (fun xs H Q => ∃ p ys, xs = [.ref p] ∧ (SqL K H p ys ∨ SqT K H p ys) ∧ ∀ l, H l = none → Q (.ref l) (upd H l (.lst ys))) (tCons te tNil)) σ H xs := fun H1 e Q q =>
  h H1 e _ fun H2 e2 => ⟨a, xs, rfl, .inl (ex_l (e.trans e2) hx), fun l hl => q l _ (fresh_back e2 hl) (e2.trans (Ex.new hl)) upd_same⟩
/-- tuple(list) -/
theorem eu_tupL {a : Addr} {xs : List V} (h : Ev te σ H (.ref a)) (hx : SqL K H a xs) : EvU (tCB (fun xs H Q => ∃ p ys, xs = [.ref p] ∧ ((SqL K H p ys ∧ ∀ l, H l = none → Q (.ref l) (upd H l (.tup ys))) ∨ (SqT K H p ys ∧ Q (.ref p) H))) (tCons te tNil)) σ H xs := fun H1 e Q q =>
  h H1 e _ fun H2 e2 => ⟨a, xs, rfl, .inl ⟨ex_l (e.trans e2) hx, fun l hl => q l _ (fresh_back e2 hl) (e2.trans (Ex.new hl)) upd_same⟩⟩
theorem el_listRg {i j : Int} (ha : Ev ta σ H (.int i)) (hb : Ev tb σ H (.int j)) (h0 : 0 ≤ i) (h1 : i ≤ 100000) (h2 : 0 ≤ j) (h3 : j ≤ 100000) : EvL (tLstRg (tRg2 ta tb)) σ H (rgV i j) := fun H1 e Q q =>
  ha H1 e _ fun H2 e2 => hb H2 (e.trans e2) _ fun H3 e3 => ⟨i, j, rfl, rfl, RgOk.of_le h0 (by omega) (by omega) h2, fun l hl => q l _ (fresh_back (e2.trans e3) hl) ((e2.trans e3).trans (Ex.new hl)) upd_same⟩
theorem ev_slS {zt : Str} {tl th : TO} {lo hi : Option Int} (h : Ev te σ H (.str zt)) (h1 : EvO tl σ H lo) (h2 : EvO th σ H hi) (hz : zt.length ≤ 100000) : Ev (tSl rSlS te tl th) σ H (.str (cutS zt lo hi)) := fun H1 e _ q =>
  h H1 e _ fun H2 e2 => h1 H2 (e.trans e2) _ fun H3 e3 => h2 H3 ((e.trans e2).trans e3) _ fun H4 e4 => ⟨zt, rfl, sz_of hz, q H4 ((e2.trans e3).trans e4)⟩
/-- a list that stands and a new one, joined -/
theorem el_cat {a : Addr} {xs ys : List V} (ha : Ev ta σ H (.ref a)) (hx : H a = some (.lst xs)) (hb : EvL tb σ H ys) (hz : xs.length + ys.length ≤ 100000) : EvL (tOp rCat ta tb) σ H (xs ++ ys) := fun H1 e Q q =>
  ha H1 e _ fun H2 e2 => hb H2 (e.trans e2) _ fun b H3 hb3 e3 hy => ⟨a, b, xs, ys, rfl, rfl, e3 _ _ (e2 _ _ (e _ _ hx)), hy, sz_of hz, fun l hl => q l _ (fresh_back (e2.trans e3) hl) ((e2.trans e3).trans (Ex.new hl)) upd_same⟩
theorem el_catN {xs ys : List V} (ha : EvL ta σ H xs) (hb : EvL tb σ H ys) (hz : xs.length + ys.length ≤ 100000) : EvL (tOp rCat ta tb) σ H (xs ++ ys) := fun H1 e Q q =>
  ha H1 e _ fun a H2 ha2 e2 hx => hb H2 (e.trans e2) _ fun b H3 hb3 e3 hy => ⟨a, b, xs, ys, rfl, rfl, e3 _ _ hx, hy, sz_of hz, fun l hl => q l _ (fresh_back (e2.trans e3) hl) ((e2.trans e3).trans (Ex.new hl)) upd_same⟩
/-- xs.extend(a new list) -/
theorem s_extL {l : Addr} {xs ys : List V} (hl : H l = some (.lst xs)) (ha : Ev ta σ H (.ref l)) (h : EvL te σ H ys) (hz : xs.length + ys.length ≤ 100000) (k : ∀ p H1, H p = none → Ex H H1 → D.nx σ (upd H1 l (.lst (xs ++ ys)))) :
    tDrop (tBM K "list" rExtend ta (tCons te tNil)) D σ H := ha H (Ex.refl H) _ fun H1 e1 =>
  ⟨Or.inl ⟨rfl, xs, sq_of (e1 l _ hl)⟩, h H1 e1 _ fun p H2 hp e2 h2 => ⟨l, p, xs, ys, rfl, rfl, e2 l _ (e1 l _ hl), h2, sz_of hz, k p H2 (fresh_back e1 hp) (e1.trans e2)⟩⟩
theorem cut_lt {zt : Str} {b : Nat} : cutS zt none (some (b : Int)) = ⟨(zt.cps.toList.take b).toArray⟩ := by
  unfold cutS
  have e : zt.length = zt.cps.toList.length := by simp [Str.length]
  rw [HT.sIx_none, HT.sIx_nat, e]
  congr 2
  rw [List.drop_zero, Nat.sub_zero]
  by_cases h : b ≤ zt.cps.toList.length
  · rw [Nat.min_eq_left h]
  · rw [Nat.min_eq_right (by omega), List.take_of_length_le (Nat.le_refl _), List.take_of_length_le (by omega)]
theorem cut_ge {zt : Str} {a : Nat} : cutS zt (some (a : Int)) none = ⟨(zt.cps.toList.drop a).toArray⟩ := by
  unfold cutS
  have e : zt.length = zt.cps.toList.length := by simp [Str.length]
  rw [HT.sIx_none, HT.sIx_nat, e]
  congr 1
  by_cases h : a ≤ zt.cps.toList.length
  · rw [Nat.min_eq_left h, List.take_of_length_le (by rw [List.length_drop]; exact Nat.le_refl _)]
  · rw [Nat.min_eq_right (by omega), Nat.sub_self, List.take_zero, List.drop_of_length_le (by omega)]
theorem cut_in {zt : Str} {a b : Nat} : cutS zt (some (a : Int)) (some (b : Int)) = ⟨((zt.cps.toList.drop a).take (b - a)).toArray⟩ := by
  unfold cutS
  have e : zt.length = zt.cps.toList.length := by simp [Str.length]
  rw [HT.sIx_nat, HT.sIx_nat, e]
  congr 1
  by_cases h : a ≤ zt.cps.toList.length
  · rw [Nat.min_eq_left h]
    by_cases h2 : b ≤ zt.cps.toList.length
    · rw [Nat.min_eq_left h2]
    · rw [Nat.min_eq_right (by omega), List.take_of_length_le (by rw [List.length_drop]; exact Nat.le_refl _), List.take_of_length_le (by rw [List.length_drop]; omega)]
  · rw [Nat.min_eq_right (by omega : zt.cps.toList.length ≤ a), List.drop_of_length_le (Nat.le_refl _), List.drop_of_length_le (by omega)]
    simp
/-- a call that hands back a new tuple -/
def SpU (sp : Sp) (vs : List V) (H : Hp) (xs : List V) : Prop := ∀ H1, Ex H H1 → ∀ Q : VK, (∀ p H2, H1 p = none → Ex H1 H2 → H2 p = some (.tup xs) → Q (.ref p) H2) → ∀ E : XK, sp vs H1 Q E
theorem eu_call {sp : Sp} {dvs vs xs : List V} {E : XK} {ta : TA} (h : EvA ta σ H vs) (hs : SpU sp (vs ++ dvs) H xs) : EvU (tCall sp dvs E ta) σ H xs := fun H1 e Q q =>
  h H1 e _ fun H2 e2 => hs H2 (e.trans e2) Q (fun p H3 hp e3 h3 => q p H3 (fresh_back e2 hp) (e2.trans e3) h3) E
/-- a call of a new tuple, of a new list -/
theorem el_call1U {sp : Sp} {E : XK} {xs ys : List V} (h : EvU te σ H xs) (hs : ∀ p H1, H1 p = some (.tup xs) → Ex H H1 → SpL sp [.ref p] H1 ys) : EvL (tCall sp [] E (tCons te tNil)) σ H ys := fun H1 e Q q =>
  h H1 e _ fun p H2 hp e2 h2 => hs p H2 h2 (e.trans e2) H2 (Ex.refl _) Q (fun r H3 hr e3 h3 => q r H3 (fresh_back e2 hr) (e2.trans e3) h3) E
theorem ev_call1L {sp : Sp} {E : XK} {xs : List V} (h : EvL te σ H xs) (hs : ∀ p H1, H1 p = some (.lst xs) → Ex H H1 → SpV sp [.ref p] H1 z) : Ev (tCall sp [] E (tCons te tNil)) σ H z := fun H1 e Q q =>
  h H1 e _ fun p H2 hp e2 h2 => hs p H2 h2 (e.trans e2) H2 (Ex.refl _) Q (fun H3 e3 => q H3 (e2.trans e3)) E
/-- a slice of a drawn text -/
theorem evp_slS {zt : Str} {tl th : TO} {lo hi : Option Int} {p : Addr} {s s1 : Int × Int} (h : EvP te σ G p s (.str zt) s1) (h1 : EvO tl σ G lo) (h2 : EvO th σ G hi) (hz : zt.length ≤ 100000) : EvP (tSl rSlS te tl th) σ G p s (.str (cutS zt lo hi)) s1 := fun H k _ q =>
  h H k _ fun H2 e2 g2 => h1 H2 (k.next e2 g2).ex _ fun H3 e3 => h2 H3 ((k.next e2 g2).ex.trans e3) _ fun H4 e4 => ⟨zt, rfl, sz_of hz, q H4 (hx_trans e2 (hx_of (e3.trans e4))) (e4 _ _ (e3 _ _ g2))⟩
/-- if c: x = e, what x is behind it by a word -/
theorem q_ifAsgM {M : V → Hp → Prop} {b : Bool} {i : Nat} (h : EvT t σ H b) (h1 : b = true → ∀ H1, Ex H H1 → ∀ Q : VK, (∀ v H2, M v H2 → Q v H2) → te σ H1 Q) (h2 : b = false → ∀ H1, Ex H H1 → ∃ v, σ.set i (some v) = σ ∧ M v H1) (k : ∀ v H2, M v H2 → tz D (σ.set i (some v)) H2) :
    tSeq (tIfS t (tAsg te (gName i)) tNext) tz D σ H := q_when h (fun hb H1 e1 => h1 hb H1 e1 _ fun v H2 m => k v H2 m) (fun hb H1 e1 => by
  obtain ⟨v, hv, m⟩ := h2 hb H1 e1
  have := k v H1 m
  rw [hv] at this
  exact this)
theorem qp_ifAsgM {M : V → Hp → Prop} {b : Bool} {i : Nat} {p : Addr} {s s1 : Int × Int} (K0 : Kn G p s H) (h : EvTP t σ G p s b s1) (h1 : b = true → ∀ H1, Kn G p s1 H1 → Ex (hide p H) H1 → ∀ Q : VK, (∀ v H2, M v H2 → Q v H2) → te σ H1 Q) (h2 : b = false → ∀ H1, Kn G p s1 H1 → Ex (hide p H) H1 → ∃ v, σ.set i (some v) = σ ∧ M v H1) (k : ∀ v H2, M v H2 → tz D (σ.set i (some v)) H2) :
    tSeq (tIfS t (tAsg te (gName i)) tNext) tz D σ H := qp_when K0 h (fun hb H1 K1 e1 => h1 hb H1 K1 e1 _ fun v H2 m => k v H2 m) (fun hb H1 K1 e1 => by
  obtain ⟨v, hv, m⟩ := h2 hb H1 K1 e1
  have := k v H1 m
  rw [hv] at this
  exact this)
end

/-! ### own classes -/
/-- x in o, o an instance whose class has its own __contains__ -/
def rInOwn (C : Addr) (sp : Sp) (E : XK) : R2 := fun x y H Q => ∃ a dx fs, y = .ref a ∧ H a = some (.ins C dx fs) ∧ sp [.ref a, x] H (fun v H' => ∃ b, v = .bl b ∧ Q (.bl b) H') E
theorem contains_own {X : Cx} {CX : CXT} {C f : Addr} {fd : FuncData} {ps : List Str} {k : Nat} {sp : Sp} {E : XK} (hs : PySem.W.findIn X.K (.ref C) "__contains__" = some (some (.ref f))) (hf : PySem.W.typeIn X.K (.ref f) = some (.type "function"))
    (F : FnOk X.prog X.w X.K X.mg X.base CX k f fd ps sp) (hr : Room k X.A) (hb : Binds X.K fd ps []) (hx : Passes CX X E) {pins : List (Addr × Obj)} {s : Shared} {σ : L2.St} {H : Hp} {x : V} {v : Value} {a dx : Addr} {fs : List (Str × V)} {Q : Bool → Hp → Prop}
    (I : Inv X pins σ H s) (rx : RelV x v) (ha : H a = some (.ins C dx fs)) (h : sp [.ref a, x] H (fun v H' => ∃ b, v = .bl b ∧ Q b H') E) :
    wpAny (model X.prog X.w) X.A (contains (.ref a) v) (TP X pins σ Q) X.xe s := by
  obtain ⟨mA, J, _⟩ := ins_get I.hok ha
  obtain ⟨od, J, _⟩ := J.look
  unfold contains
  refine wpAny_holding ?_
  show wpAny _ _ (specialOf (.ref a) "__contains__" >>= fun r => _) _ _ s
  have hsp : ∀ {β : Type} {t : Option Value → Sem β} {Q' : β → Shared → Prop}, wpAny (model X.prog X.w) X.A (t (some (.ref f))) Q' X.xe s → wpAny (model X.prog X.w) X.A (specialOf (.ref a) "__contains__" >>= t) Q' X.xe s := fun z =>
    wpAny_bind (wpAny_bind (J.type.here ((PySem.W.looks_findIn I.kIn hs).here z)))
  refine hsp ?_
  show wpAny _ _ (callSpecialUnlessNone? (.ref a) "__contains__" [v] _ >>= fun r => _) _ _ s
  refine wpAny_bind ?_
  unfold callSpecialUnlessNone?
  refine hsp ?_
  show wpAny _ _ (holding [.ref a, v] (bindSpecial (.ref f) (.ref a) >>= fun p => _)) _ _ s
  refine wpAny_holding (wpAny_bind ((PySem.W.bind_fn I.kIn _ hf).here ?_))
  show wpAny _ _ (call (.ref f) [.ref a, v] >>= fun r => pure (some r)) _ _ s
  refine wpAny_bind (wpAny_mono (run_fn (us := [.ref a, v]) F hr hb .nil hx I (.cons (show RelV (.ref a) (Value.ref a) from rfl) (.cons rx .nil)) h) (fun r s' q => ?_) fun _ _ z => z)
  obtain ⟨z, H', I', rz, b, rfl, q⟩ := q
  cases (show r = Value.bool b from rz)
  refine wpAny_pure ?_
  exact wpAny_truthy_bool ⟨H', I', q⟩
theorem op_inOwn {X : Cx} {CX : CXT} {C f : Addr} {fd : FuncData} {ps : List Str} {k : Nat} {sp : Sp} {E : XK} (hs : PySem.W.findIn X.K (.ref C) "__contains__" = some (some (.ref f))) (hf : PySem.W.typeIn X.K (.ref f) = some (.type "function"))
    (F : FnOk X.prog X.w X.K X.mg X.base CX k f fd ps sp) (hr : Room k X.A) (hb : Binds X.K fd ps []) (hx : Passes CX X E) : OpR X (compareOp .In) (rInOwn C sp E) := by
  intro pins s σ H x y v u Q I rx ry h
  obtain ⟨a, dx, fs, rfl, ha, hsp⟩ := h
  cases (show u = Value.ref a from ry)
  show wpAny _ _ (contains (.ref a) v >>= fun b => (pure (Value.bool b) : Sem Value)) _ _ s
  refine wpAny_bind (wpAny_mono (contains_own (Q := fun b H' => Q (.bl b) H') hs hf F hr hb hx I rx ha hsp) (fun b s' q => ?_) fun _ _ z => z)
  obtain ⟨H', I', q⟩ := q
  exact wpAny_pure ⟨.bl b, H', I', rfl, q⟩
/-- a method; a special method; an __init__; an __init__ with a star -/
def DfM (P : Program) (w : World) (K : PySem.W.Frag) (mg : Str → Option Value) (base : Heap) (C : Addr) (m : Str) (ps : List Str) (k : Nat) (sp : Sp) : Prop :=
  ∃ (f : Addr) (fd : FuncData), Meth K C m f ∧ Binds K fd ps [] ∧ FnOk P w K mg base CX0 k f fd ps sp
def DfC (P : Program) (w : World) (K : PySem.W.Frag) (mg : Str → Option Value) (base : Heap) (C : Addr) (m : Str) (ps : List Str) (k : Nat) (sp : Sp) : Prop :=
  ∃ (f : Addr) (fd : FuncData), PySem.W.findIn K (.ref C) m = some (some (.ref f)) ∧ PySem.W.typeIn K (.ref f) = some (.type "function") ∧ Binds K fd ps [] ∧ FnOk P w K mg base CX0 k f fd ps sp
def DfI (P : Program) (w : World) (K : PySem.W.Frag) (mg : Str → Option Value) (base : Heap) (x : Str) (C : Addr) (ps : List Str) (k : Nat) (sp : Sp) : Prop :=
  ∃ (f : Addr) (fd : FuncData), Mk K C f ∧ mg x = some (.ref C) ∧ Binds K fd ps [] ∧ FnOk P w K mg base CX0 k f fd ps sp
def DfS (P : Program) (w : World) (K : PySem.W.Frag) (mg : Str → Option Value) (base : Heap) (x : Str) (C : Addr) (k : Nat) (sp : Sp) : Prop :=
  ∃ f : Addr, Mk K C f ∧ mg x = some (.ref C) ∧ FnR P w K mg base CX0 k f sp
section
variable {X : Cx} {k : Nat} {ps : List Str} {sp : Sp} {C : Addr} {x m : Str} {p pos apos : Pos} {o e : Expr} {es : List Expr} {t : TA} {ta : TE}
theorem pe_mk (D : DfI X.prog X.w X.K X.mg X.base x C ps k sp) (hr : Room (k + 1) X.A) (hg : Gl X x) (ha : PA X (e :: es) t) (hdb : (x == ("__debug__" : Str)) = false := by decide)
    (he : starEach (e :: es) X.env = (false, eval e X.env) :: starEach es X.env := by rfl) (hpl : (backTo pos (starEach es X.env)).any (·.1) = false := by rfl) : PE X (.Call (.Name x p) (e :: es) [] pos) (tMake C sp [] E0 t) := by
  obtain ⟨f, fd, M, hm, hb, F⟩ := D
  exact pe_make M F hr hg hm hb .nil pass0 ha hdb he hpl
theorem pe_mkS (D : DfS X.prog X.w X.K X.mg X.base x C k sp) (hr : Room (k + 1) X.A) (hg : Gl X x) (ha : PA X (e :: es) t) (hdb : (x == ("__debug__" : Str)) = false := by decide)
    (he : starEach (e :: es) X.env = (false, eval e X.env) :: starEach es X.env := by rfl) (hpl : (backTo pos (starEach es X.env)).any (·.1) = false := by rfl) : PE X (.Call (.Name x p) (e :: es) [] pos) (tMakeR C sp E0 t) := by
  obtain ⟨f, M, hm, F⟩ := D
  exact pe_makeR M F hr hg hm pass0 ha hdb he hpl
theorem pe_mth0 {pl : Sem Bool} (c : Cls X.K C) (D : DfM X.prog X.w X.K X.mg X.base C m ps k sp) (hr : Room k X.A) (he : PE X o ta)
    (ht : eval (.Call (.Attribute o m apos) [] [] pos) X.env = (do let ov ← eval o X.env; standAt apos.atName; let (f, first) ← holding [ov] (getMethod ov m pl); callWith pos f first (backTo pos (starEach [] X.env)) (backToKw pos (keywordEach [] X.env))) := by rfl) :
    PE X (.Call (.Attribute o m apos) [] [] pos) (tMeth C m sp [] E0 ta tNil) := by
  obtain ⟨f, fd, hm, hb, F⟩ := D
  exact pe_meth0 he c hm F hr hb .nil pass0 ht
theorem pe_mth {pl : Sem Bool} (c : Cls X.K C) (D : DfM X.prog X.w X.K X.mg X.base C m ps k sp) (hr : Room k X.A) (he : PE X o ta) (ha : PA X (e :: es) t)
    (hst : starEach (e :: es) X.env = (false, eval e X.env) :: starEach es X.env := by rfl) (hpl : (backTo pos (starEach es X.env)).any (·.1) = false := by rfl)
    (ht : eval (.Call (.Attribute o m apos) (e :: es) [] pos) X.env = (do let ov ← eval o X.env; standAt apos.atName; let (f, first) ← holding [ov] (getMethod ov m pl); callWith pos f first (backTo pos (starEach (e :: es) X.env)) (backToKw pos (keywordEach [] X.env))) := by rfl) :
    PE X (.Call (.Attribute o m apos) (e :: es) [] pos) (tMeth C m sp [] E0 ta t) := by
  obtain ⟨f, fd, hm, hb, F⟩ := D
  exact pe_meth he c hm F hr hb .nil pass0 ha hst hpl ht
theorem op_in_df (D : DfC X.prog X.w X.K X.mg X.base C "__contains__" ps k sp) (hr : Room k X.A) : OpR X (compareOp .In) (rInOwn C sp E0) := by
  obtain ⟨f, fd, h1, h2, hb, F⟩ := D
  exact op_inOwn h1 h2 F hr hb pass0
end
end Kz
namespace Kz
open PySem PySem.Spec PyProof.Rows L2 Evl StX
/-! ### own exceptions: made and raised, passed on, caught, asked -/
/-- class C, named x, whose own __init__ keeps sp -/
structure XIn (K : PySem.W.Frag) (C : Addr) : Prop where
  o : OexC K C
  x : XfC K C
  h : (PySem.W.clsIn K C).isSome = true
  a : PySem.W.findIn K (.ref C) "__class__" = some (some (.builtin "object.__class__"))
  n : PySem.W.specialIn K (.builtin "object.__class__") "__get__" = some (some (.builtin "getset_descriptor.__get__"))
  t : PySem.W.takesIn K (.builtin "object.__class__") = some true
  m : PySem.W.mroIn K C (.type "object") = some true
  s : PySem.W.exmOne K (.ref C) (.ref C) = some true
def DfX (P : Program) (w : World) (K : PySem.W.Frag) (mg : Str → Option Value) (base : Heap) (x : Str) (C : Addr) (ps : List Str) (k : Nat) (sp : Sp) : Prop :=
  ∃ (f : Addr) (fd : FuncData), OexC K C ∧ PySem.W.findIn K (.ref C) "__init__" = some (some (.ref f)) ∧ PySem.W.typeIn K (.ref f) = some (.type "function") ∧ mg x = some (.ref C) ∧ Binds K fd ps [] ∧ FnOk P w K mg base CX0 k f fd ps sp
/-- an own class whose starred __init__ may raise -/
def DfSX (P : Program) (w : World) (K : PySem.W.Frag) (mg : Str → Option Value) (base : Heap) (x : Str) (C : Addr) (k : Nat) (sp : Sp) : Prop :=
  ∃ f : Addr, Mk K C f ∧ mg x = some (.ref C) ∧ FnR P w K mg base (L2.CX P w) k f sp
/-- a def that may raise -/
def DfR (P : Program) (w : World) (K : PySem.W.Frag) (mg : Str → Option Value) (base : Heap) (x : Str) (ps : List Str) (k : Nat) (sp : Sp) : Prop :=
  ∃ (f : Addr) (fd : FuncData), mg x = some (.ref f) ∧ PySem.W.keepIn K (.ref f) = true ∧ Binds K fd ps [] ∧ FnOk P w K mg base (L2.CX P w) k f fd ps sp
section
variable {X : Cx} {k : Nat} {ps : List Str} {sp : Sp} {C : Addr} {x : Str} {p pos pos2 : Pos} {e : Expr} {es : List Expr} {t : TA} {W : WX}
theorem ps_raiseX (D : DfX X.prog X.w X.K X.mg X.base x C ps k sp) (hr : Room (k + 1) X.A) (hg : Gl X x) (hc : X.calm = true) (tk : Takes X W) (ha : PA X (e :: es) t) (hdb : (x == ("__debug__" : Str)) = false := by decide)
    (he : starEach (e :: es) X.env = (false, eval e X.env) :: starEach es X.env := by rfl) (hpl : (backTo pos (starEach es X.env)).any (·.1) = false := by rfl) :
    PS X (.Raise (some (.Call (.Name x p) (e :: es) [] pos)) none pos2) (fun _ σ H => tMkO C sp [] t σ H fun cls d H' => W cls d σ H') := by
  obtain ⟨f, fd, h1, h2, h3, h4, h5, F⟩ := D
  exact ps_raise hc tk (pmk_oex h1 h2 h3 F hr h5 .nil pass0 hg h4 ha hdb he hpl)
theorem pe_mkSX {E : XK} (D : DfSX X.prog X.w X.K X.mg X.base x C k sp) (hr : Room (k + 1) X.A) (hg : Gl X x) (tk : Takes X (fun cls d _ H => E cls d H)) (ha : PA X (e :: es) t) (hdb : (x == ("__debug__" : Str)) = false := by decide)
    (he : starEach (e :: es) X.env = (false, eval e X.env) :: starEach es X.env := by rfl) (hpl : (backTo pos (starEach es X.env)).any (·.1) = false := by rfl) : PE X (.Call (.Name x p) (e :: es) [] pos) (tMakeR C sp E t) := by
  obtain ⟨f, M, hm, F⟩ := D
  exact pe_makeR M F hr hg hm (passes_call tk fun _ _ _ _ h => h) ha hdb he hpl
theorem pe_mkSX0 {E : XK} (D : DfSX X.prog X.w X.K X.mg X.base x C k sp) (hr : Room (k + 1) X.A) (hg : Gl X x) (tk : Takes X (fun cls d _ H => E cls d H)) (hdb : (x == ("__debug__" : Str)) = false := by decide) :
    PE X (.Call (.Name x p) [] [] pos) (tMakeR C sp E tNil) := by
  obtain ⟨f, M, hm, F⟩ := D
  refine ⟨fun pins s σ H Q I h => wpAny_Call_Name_kw (ld_glob I hg hm (PySem.W.callWith_K0 I.kIn M.kp (run_makeR (us := []) M F hr (passes_call tk fun _ _ _ _ h => h) I .nil h)) hdb)⟩
theorem pe_dfR (D : DfR X.prog X.w X.K X.mg X.base x ps k sp) (hr : Room k X.A) (hg : Gl X x) (tk : Takes X W) (ha : PA X (e :: es) t) (hdb : (x == ("__debug__" : Str)) = false := by decide)
    (he : starEach (e :: es) X.env = (false, eval e X.env) :: starEach es X.env := by rfl) (hpl : (backTo pos (starEach es X.env)).any (·.1) = false := by rfl) : PE X (.Call (.Name x p) (e :: es) [] pos) (tCallS sp (WE W) t) := by
  obtain ⟨f, fd, hm, hk, hb, F⟩ := D
  exact pe_callS F hr hg hm hk hb (fun σ => passAt tk σ) ha hdb he hpl
end
/-- an __init__ that keeps its one argument at the field f -/
def spXI (C : Addr) (f : Str) : Sp := fun vs H Q _ => ∃ (a : Addr) (v : V), vs = [.ref a, v] ∧ H a = some (exo a C none) ∧ ∀ dx, H dx = none → dx ≠ a → Q .non (upd (upd H dx (exd dx [(f, v)])) a (exo a C (some dx)))
theorem mkX {C : Addr} {f : Str} {σ : L2.St} {H : Hp} {te : TE} {v : V} {Q : XK} (h : Ev te σ H v) (q : ∀ d H1, H d = none → Ex H H1 → H1 d = some (.xd [(f, v)]) → Q (.ref C) (some d) H1) : tMkO C (spXI C f) [] (tCons te tNil) σ H Q :=
  h H (Ex.refl _) _ fun H1 e1 => ⟨by simp, fun a ha => ⟨a, v, rfl, upd_same, fun dx hdx hne => by
    have hd1 : H1 dx = none := by
      rw [upd_ne hne] at hdx
      exact hdx
    refine ⟨rfl, dx, _, upd_same, by rw [upd_ne hne, upd_same], hd1, q dx _ (fresh_back e1 hd1) (e1.trans fun b o hb => ?_) upd_same⟩
    have nb : b ≠ dx := ne_of_none hb hd1
    have na : b ≠ a := ne_of_none hb ha
    rw [upd_ne nb, del_ne na, upd_ne na, upd_ne nb, upd_ne na]
    exact hb⟩⟩

/-! a def that is called with the caught exception -/
open L2H in
structure FnE (P : Program) (w : World) (K : PySem.W.Frag) (mg : Str → Option Value) (base : Heap) (k : Nat) (f : Addr) (fd : FuncData) (ps : List Str) (sp : Addr → Value → Option Addr → Sp) : Prop where
  len : ∀ a c d vs H Q E, sp a c d vs H Q E → vs.length = ps.length
  run : ∀ (a : Addr) (oe : Obj) (c : Value) (d : Option Addr), Zc c d oe → (∃ vs, oe.data = .fields vs) → ∀ (A : Around) (outer : List Env) (s : Shared) (H : Hp), RoomH k A → PinOk outer H s (a, oe) → Env0 P w K mg base A outer s H →
    ∀ (args : Args) (us : List Value) (vs : List V) (Q : VK) (E : XK), BindsTo s fd args (ps.zip us) → Vals vs us → sp a c d vs H Q E → codeAny (model P w) A (.call (.ref f) args) (CR CX0 outer P w H s Q E) s
def DfE (P : Program) (w : World) (K : PySem.W.Frag) (mg : Str → Option Value) (base : Heap) (x : Str) (ps : List Str) (k : Nat) (sp : Addr → Value → Option Addr → Sp) : Prop :=
  ∃ (f : Addr) (fd : FuncData), mg x = some (.ref f) ∧ PySem.W.keepIn K (.ref f) = true ∧ Binds K fd ps [] ∧ FnE P w K mg base k f fd ps sp
open L2H in
theorem Fun.okE {P : Program} {w : World} {K : PySem.W.Frag} {mg : Str → Option Value} {base : Heap} {x qual : Str} {st : Stmt} {f : Addr} {fd : FuncData} {N ps : List Str} {k : Nat} {sp : Addr → Value → Option Addr → Sp}
    (F : Fun K x qual st f fd) (S : FnScope N ps (defScope st)) (len : ∀ a c d vs H Q E, sp a c d vs H Q E → vs.length = ps.length)
    (walk : ∀ (a : Addr) (oe : Obj) (c : Value) (d : Option Addr), Zc c d oe → (∃ vs, oe.data = .fields vs) → ∀ (cdv : Value) (A : Around) (outer : List Env) (s : Shared) (H : Hp) (vs : List V) (Q : VK) (E : XK),
      RoomH k (A.deeper (envOfC qual (defScope st) s.heap.objs.size f cdv)) → sp a c d vs H Q E →
      ∃ t, PSs (cxH CX0 P w K mg base N qual (defScope st) f cdv A outer s H E (a, oe)) (defBody st) t ∧ t { nx := fun _ H' => Q .non H', rt := Q } (L2.start N vs) H) :
    FnE P w K mg base (k + 1) f fd ps sp := by
  obtain ⟨oc, od, kV, doc, pm, an, cdv, ct, osl, rfl, lk, hcd⟩ := F.ex
  refine ⟨len, ?_⟩
  intro a oe c d hz hf A outer s H hr pin e0 args us vs Q E hb r h
  have inn : K.In s.heap := e0.mod.kin.keeps fun b o z => (e0.bs b o z).1
  have nol : s.heap.NoLimit := e0.mod.nolimit.keeps fun b o z => (e0.bs b o z).1
  refine codeAny_call_function hr.depth (inn _ _ lk) rfl S.co S.gen rfl (PySem.W.codeRec_of inn hcd) (hb _ _ _ _ (wpAny_newFunctionEnv_cells S.kind ?_ ?_))
  · rintro ⟨n, v⟩ hy
    exact (S.par n (List.of_mem_zip hy).1).imp id fun q => ⟨q, PySem.W.cellsFrom_some _ _ _ (.inl q)⟩
  · rintro env rfl s1 ic
    refine ⟨nol.keeps ic.toInCall.keep, codeAny_func ?_⟩
    obtain ⟨t, ht, hq⟩ := walk a oe c d hz hf cdv A outer s H vs Q E (hr.deeper _) h
    have J0 := inv_startH (CX := CX0) (P := P) (w := w) (mg := mg) (base := base) (f := f) (E := E) S pin e0 (len _ _ _ _ _ _ _ h) r ic
    refine wpAny_mono (ht.run [] s1 _ H _ J0 hq) (fun fl s' z => ?_) fun er s' z => z
    match fl, z with
    | .ret u, z =>
      obtain ⟨v, σ', H', J, rv, q⟩ := z
      exact ⟨v, H', J.os, J.bare, J.base, J.hok, rv, q⟩
    | .next, z =>
      obtain ⟨σ', H', J, q⟩ := z
      exact ⟨V.non, H', J.os, J.bare, J.base, J.hok, rfl, q⟩
    | .brk, z => exact z.elim fun _ z => z.elim fun _ z => z.2.elim
    | .cont, z => exact z.elim fun _ z => z.elim fun _ z => z.2.elim
open L2H in
theorem pe_dfE {X : Cx} {k : Nat} {ps : List Str} {sp : Addr → Value → Option Addr → Sp} {x : Str} {p pos : Pos} {e : Expr} {es : List Expr} {t : TA} {a : Addr} {oe : Obj} {c : Value} {d : Option Addr} (D : DfE X.prog X.w X.K X.mg X.base x ps k sp) (hr : RoomH k X.A) (hg : Gl X x)
    (hp : (a, oe) ∈ X.pn) (hz : Zc c d oe) (hf : ∃ vs, oe.data = .fields vs) (ha : PA X (e :: es) t) (hdb : (x == ("__debug__" : Str)) = false := by decide)
    (he : starEach (e :: es) X.env = (false, eval e X.env) :: starEach es X.env := by rfl) (hpl : (backTo pos (starEach es X.env)).any (·.1) = false := by rfl) :
    PE X (.Call (.Name x p) (e :: es) [] pos) (tCall (sp a c d) [] E0 t) := by
  obtain ⟨f, fd, hm, hk, hb, F⟩ := D
  refine ⟨fun pins s σ H Q I h => wpAny_Call_Name_kw (ld_glob I hg hm ?_ hdb)⟩
  refine PySem.W.callWith_K (h₀ := X.base) I.ok.mod.kin hk (thn (ha.run pos pins s σ H _ I h) ?_) he hpl
  rintro us s1 ⟨vs, H1, J, r, q⟩
  refine ⟨J.kIn, ?_⟩
  rw [List.append_nil] at q
  have b := hb s1 us J.kIn (by rw [List.append_nil, ← r.length]; exact F.len _ _ _ _ _ _ _ q)
  rw [List.append_nil] at b
  obtain ⟨g1, g2, g3, g4, g5⟩ := J.pin (a, oe) (List.mem_append_left _ hp)
  refine wpAny_call (codeAny_mono (F.run a oe c d hz hf X.A X.stack s1 H1 hr ⟨g1, g2, fun hm => (List.mem_cons.mp (J.stkSub a hm)).elim g3 g4, g5⟩ J.env0 ⟨us, []⟩ us vs Q E0 b r q) fun z s' hq => ?_)
  match z, hq with
  | .error er, hq => exact hq.elim
  | .ok (.ret u), hq => exact J.after hq
  | .ok .next, hq => exact hq.elim
  | .ok .brk, hq => exact hq.elim
  | .ok .cont, hq => exact hq.elim
open L2H in
theorem roomS {X : Cx} {k : Nat} {a : Addr} {pn : List (Addr × Obj)} (hr : Room k X.A) : RoomH k (X.suite a pn).A := ⟨hr.dp, hr.un⟩
/-- isinstance(e, c), isinstance(e, (c1, ..)) of the exception that is held -/
def rXo (K : PySem.W.Frag) (a : Addr) (cls : Value) (d : Option Addr) : List V → Hp → VK → Prop := fun xs H Q => ∃ (D dd : Addr) (fs : List (Str × V)), cls = .ref D ∧ d = some dd ∧ H dd = some (.xd fs) ∧ XIn K D ∧
  ((∃ (c : V) (u : Value) (b : Bool), xs = [.ref a, c] ∧ ClsV c u ∧ PySem.W.kitOne K cls u = some b ∧ Q (.bl b) H) ∨
   (∃ (tp : Addr) (cs : List V) (us : List Value) (b : Bool), xs = [.ref a, .ref tp] ∧ H tp = some (.tup cs) ∧ Paired ClsV cs us ∧ PySem.W.kitAny K cls us = some b ∧ Q (.bl b) H))
theorem call_isX {X : Cx} {a : Addr} {oe : Obj} {c : Value} {d : Option Addr} (hp : (a, oe) ∈ X.pn) (hz : Zc c d oe) (hf : ∃ vs, oe.data = .fields vs) : CallR X (.builtin "isinstance") (rXo X.K a c d) := by
  intro pins s σ H xs us Q I r h
  obtain ⟨D, dd, fs, rfl, rfl, hd, T, h⟩ := h
  obtain ⟨g1, _⟩ := I.pin (a, oe) (List.mem_append_left _ hp)
  obtain ⟨mA, hns, _⟩ := (show ObjOk X.prog X.w H s.heap dd (.xd fs) from I.hok dd _ hd)
  obtain ⟨od, ho, _⟩ := lookIn_ns hns
  have J : PySem.W.InstAt s.heap a oe D (some od) := ⟨g1, hz.1, by
    obtain ⟨vs, e⟩ := hf
    unfold PySem.W.notCls
    rw [e] <;> rfl, by rw [hz.2]; exact ho⟩
  have Z := PySem.W.kitx_exc (x := a) (ox := oe) (od := some od) T.h T.x.ga T.x.gg T.x.exC T.a T.n T.t T.m
  rcases h with ⟨cc, u, b, rfl, k, e, q⟩ | ⟨tp, cs, ws, b, rfl, hT, k, e, q⟩
  · obtain ⟨u1, u2, rfl, r1, r2⟩ := vals2 r
    cases (show u1 = Value.ref a from r1)
    cases k.eq r2
    exact PySem.W.kia_one Z I.kIn J e (fun z => nomatch z) fun tk => ⟨.bl b, H, I.tok tk, rfl, q⟩
  · obtain ⟨u1, u2, rfl, r1, r2⟩ := vals2 r
    cases (show u1 = Value.ref a from r1)
    cases (show u2 = Value.ref tp from r2)
    obtain ⟨_, its, rv, o, h1, h2, n, h3⟩ := (show ObjOk X.prog X.w H s.heap tp (.tup cs) from I.hok tp _ hT)
    cases ClsV.all k rv
    obtain ⟨oc, od2, dt, sl⟩ := o
    simp only at h2 h3
    subst h2 h3
    exact PySem.W.kia_tup Z I.kIn J h1 e (fun z => nomatch z) fun tk => ⟨.bl b, H, I.tok tk, rfl, q⟩
theorem ev_xoT {K : PySem.W.Frag} {σ : L2.St} {H : Hp} {i : Nat} {a D dd : Addr} {fs : List (Str × V)} {cs : List V} {us : List Value} {b : Bool} {tb : TE} (T : XIn K D) (hi : σ[i]? = some (some (.ref a))) (hh : H dd = some (.xd fs)) (hb : EvU tb σ H cs) (hp : Paired ClsV cs us) (hk : PySem.W.kitAny K (.ref D) us = some b) :
    Ev (tCB (rXo K a (.ref D) (some dd)) (tCons (tVar i) (tCons tb tNil))) σ H (.bl b) := fun H1 e Q q =>
  ⟨_, hi, hb H1 e _ fun p H2 hp2 e2 h2 => ⟨D, dd, fs, rfl, rfl, e2 _ _ (e _ _ hh), T, .inr ⟨p, cs, us, b, rfl, h2, hp, hk, q H2 e2⟩⟩⟩
theorem ev_xo1 {K : PySem.W.Frag} {σ : L2.St} {H : Hp} {i : Nat} {a D dd : Addr} {fs : List (Str × V)} {c : V} {u : Value} {b : Bool} {tb : TE} (T : XIn K D) (hi : σ[i]? = some (some (.ref a))) (hh : H dd = some (.xd fs)) (hb : Ev tb σ H c) (hp : ClsV c u) (hk : PySem.W.kitOne K (.ref D) u = some b) :
    Ev (tCB (rXo K a (.ref D) (some dd)) (tCons (tVar i) (tCons tb tNil))) σ H (.bl b) := fun H1 e Q q =>
  ⟨_, hi, hb H1 e _ fun H2 e2 => ⟨D, dd, fs, rfl, rfl, e2 _ _ (e _ _ hh), T, .inl ⟨c, u, b, rfl, hp, hk, q H2 e2⟩⟩⟩
theorem ev_xf {σ : L2.St} {H : Hp} {i : Nat} {a C dd : Addr} {fs : List (Str × V)} {f : Str} {v : V} (hi : σ[i]? = some (some (.ref a))) (hh : H dd = some (.xd fs)) (hl : fs.lookup f = some v) : Ev (tXf a (.ref C) (some dd) C f (tVar i)) σ H v := fun H1 e Q q =>
  ⟨_, hi, rfl, rfl, dd, fs, v, rfl, e _ _ hh, hl, q H1 (Ex.refl _)⟩
end Kz
namespace Kz
open PySem PySem.Spec PyProof.Rows L2 Evl StX

/-- the list a beside the tuple b, turn by turn, in new pairs -/
def ItM (K : PySem.W.Frag) (a b : Addr) : It :=
  ⟨fun i H => ∃ us ws : List V, (SqL K H a us ∧ SqT K H b ws) ∧ i < us.length ∧ i < ws.length,
   fun i H v H' => ∃ m x y, v = .ref m ∧ H m = none ∧ H' = upd H m (.tup [x, y]) ∧ (∀ us, SqL K H a us → us[i]? = some x) ∧ (∀ ws, SqT K H b ws → ws[i]? = some y),
   fun i H => ∃ us ws : List V, (SqL K H a us ∧ SqT K H b ws) ∧ (i = us.length ∨ i = ws.length) ∧ i ≤ us.length ∧ i ≤ ws.length⟩
/-- what such a zip is made of at turn i -/
def atM (a b z c o j k : Addr) (i : Nat) (h : Heap) : Prop :=
  (IsZip h z c o .none ∧ IsTupOf2 h c (.ref j) (.ref k)) ∧ (∃ x y, IsTupOf2 h o x y) ∧ h.IsListIter j a i ∧ h.IsTupleIter k b i
theorem mem5 {z c o j k d : Addr} (h : d ∈ [z, c, o, j, k]) : d = z ∨ d = c ∨ d = o ∨ d = j ∨ d = k := by simpa using h
theorem get_back {xs : List V} {us : List Value} (r : Vals xs us) {i : Nat} {u : Value} (h : us[i]? = some u) : ∃ x, xs[i]? = some x ∧ RelV x u := by
  induction r generalizing i with
  | nil => cases h
  | cons r0 _ ih =>
    cases i with
    | zero =>
      cases h
      exact ⟨_, rfl, r0⟩
    | succ i => exact ih h
theorem turnM {P : Program} {w : World} {K : PySem.W.Frag} {elts : List Expr} {kk : Nat} {tp : Pos} {a b z c o j k : Addr} (S : ZipSep2 z c o j k [j, a] [k, b]) (na : a ≠ j) (nb : b ≠ k) :
    Turn P w K (.Tuple elts kk tp) (ItM K a b) [z, c, o, j, k] z (atM a b z c o j k) where
  mem := List.mem_cons_self
  obj := fun i h st d hd => by
    obtain ⟨⟨g1, g2⟩, ⟨x, y, g3⟩, ⟨p1, r1, _, t1⟩, ⟨p2, r2, _, t2⟩⟩ := st
    rcases mem5 hd with rfl | rfl | rfl | rfl | rfl
    · exact ⟨_, g1, fun v e => nomatch e⟩
    · exact ⟨_, g2, fun v e => nomatch e⟩
    · exact ⟨_, g3, fun v e => nomatch e⟩
    · exact ⟨_, r1, fun v e => by rw [t1] at e; cases e⟩
    · exact ⟨_, r2, fun v e => by rw [t2] at e; cases e⟩
  keep := fun i h h' st kp => by
    obtain ⟨⟨g1, g2⟩, ⟨x, y, g3⟩, g4, g5⟩ := st
    exact ⟨⟨kp z (by simp) _ g1, kp c (by simp) _ g2⟩, ⟨x, y, kp o (by simp) _ g3⟩, g4.at fun u e => kp j (by simp) u e, g5.at fun u e => kp k (by simp) u e⟩
  item := by
    intro X u1 u2 u3 calm i pins s σ H E I free st go
    subst u1 u2 u3
    obtain ⟨⟨g1, g2⟩, ⟨x0, y0, g3⟩, g4, g5⟩ := st
    obtain ⟨us, ws, ⟨q1, q2⟩, n1, n2⟩ := go
    obtain ⟨ts, rv, p, _⟩ := I.list q1
    obtain ⟨ts2, rv2, p2, _⟩ := I.tuple q2
    have m1 := rv.length
    have m2 := rv2.length
    have d1 := Draws.list (prog := X.prog) (w := X.w) (A := X.A.in1) (I.ok.hd calm) j a na ts.toArray
    have d2 := Draws.tuple (prog := X.prog) (w := X.w) (A := X.A.in1) (I.ok.hd calm) k b nb ts2.toArray
    have zl : z < s.heap.objs.size := Heap.lt_size g1
    refine wpAny_pyNext_zipD2_item S d1 d2 g1 g2 g3 ⟨g4, p.isList⟩ ⟨g5, p2⟩ (by simp; omega) (by simp; omega) fun u v h1 tk hu hv e1 e2 e3 e4 nw big kp => ?_
    refine ⟨_, rfl, wpAny_letOwnedTupleGo_zip (s := { s with heap := h1, toks := tk }) e1 fun h2 f1 sb => ?_⟩
    obtain ⟨x, hx, rx⟩ := get_back rv (by simpa using hu)
    obtain ⟨y, hy, ry⟩ := get_back rv2 (by simpa using hv)
    have nw2 : h2.get? s.heap.objs.size = some { cls := .type "tuple", data := .seq #[u, v] } := (sb.2 _ (Nat.ne_of_gt zl)).trans nw
    have ok : ObjOk X.prog X.w (upd H s.heap.objs.size (.tup [x, y])) h2 s.heap.objs.size (.tup [x, y]) :=
      ⟨sz_of (by simp), [u, v], .cons rx (.cons ry .nil), ⟨_, nw2, rfl, _, rfl⟩⟩
    have J : Inv X pins σ (upd H s.heap.objs.size (.tup [x, y])) { s with heap := h2, toks := tk } :=
      I.turnedNew (t' := tk) (ch := [z, c, o, j, k]) (fun d od hd e => (sb.2 d fun w => hd (by simp [w])).trans (kp d od (fun w => hd (by simp [w])) (fun w => hd (by simp [w])) (fun w => hd (by simp [w])) (fun w => hd (by simp [w])) e)) free (Nat.le_refl _) ok
    refine ⟨.ref s.heap.objs.size, _, J, rfl, ⟨_, x, y, rfl, I.hok.fresh (Nat.le_refl _), rfl, fun l hl => by rw [I.list_inj hl q1]; exact hx, fun l hl => by rw [I.tuple_inj hl q2]; exact hy⟩, ⟨⟨f1, ?_⟩, ⟨u, v, ?_⟩, ?_, ?_⟩, fun d hd => ?_⟩
    · exact (sb.2 _ S.TIz).trans (kp _ _ S.TIz S.TITO S.TIi1 S.TIi2 g2)
    · exact (sb.2 _ S.TOz).trans e2
    · exact e3.1.at fun q e => (sb.2 _ S.zi1.symm).trans e
    · exact e4.1.at fun q e => (sb.2 _ S.zi2.symm).trans e
    · have lt : d < s.heap.objs.size := by
        obtain ⟨p1, r1, _⟩ := id g4
        obtain ⟨p2, r2, _⟩ := id g5
        rcases mem5 hd with rfl | rfl | rfl | rfl | rfl
        · exact zl
        · exact Heap.lt_size g2
        · exact Heap.lt_size g3
        · exact Heap.lt_size r1
        · exact Heap.lt_size r2
      rw [upd_ne (Nat.ne_of_lt lt)]
      exact (free d hd).1
  done := by
    intro X u1 u2 u3 calm i pins s σ H E I free st stop
    subst u1 u2 u3
    obtain ⟨⟨g1, g2⟩, ⟨x0, y0, g3⟩, g4, g5⟩ := st
    obtain ⟨us, ws, ⟨q1, q2⟩, n0, n1, n2⟩ := stop
    obtain ⟨ts, rv, p, _⟩ := I.list q1
    obtain ⟨ts2, rv2, p2, _⟩ := I.tuple q2
    have m1 := rv.length
    have m2 := rv2.length
    have d1 := Draws.list (prog := X.prog) (w := X.w) (A := X.A.in1) (I.ok.hd calm) j a na ts.toArray
    have d2 := Draws.tuple (prog := X.prog) (w := X.w) (A := X.A.in1) (I.ok.hd calm) k b nb ts2.toArray
    refine wpAny_pyNext_zipD2_end S d1 d2 g1 g2 g3 ⟨g4, p.isList⟩ ⟨g5, p2⟩ (by simp; omega) (by simp; omega) (by simp; omega) fun h1 tk kp => ⟨rfl, ?_⟩
    exact I.turnedL (t' := tk) (ch := [z, c, o, j, k]) (fun d od hd e => kp d od (fun w => hd (by simp [w])) (fun w => hd (by simp [w])) (fun w => hd (by simp [w])) (fun w => hd (by simp [w])) e) free
  self := fun A i s Q E st h => wpAny_pyIter_zip st.1.1 h
def iZipM (K : PySem.W.Frag) (ta : TA) : TI := fun σ H R => ta σ H fun vs H1 => ∃ (a b : Addr) (us ws : List V), vs = [.ref a, .ref b] ∧ (SqL K H1 a us ∧ SqT K H1 b ws) ∧ R (ItM K a b) H1
theorem pi_zipM {X : Cx} {e1 e2 : Expr} {ta : TA} {p pos tp : Pos} {elts : List Expr} {kk : Nat} (hg : Gl X "zip") (hm : X.mg "zip" = none) (ha : PA X [e1, e2] ta)
    (h1 : starEach [e1, e2] X.env = (false, eval e1 X.env) :: starEach [e2] X.env := by rfl) (h2 : (backTo pos (starEach [e2] X.env)).any (·.1) = false := by rfl) :
    PI X (.Tuple elts kk tp) (.Call (.Name "zip" p) [e1, e2] [] pos) (iZipM X.K ta) := by
  refine ⟨fun pins s σ H R I h => ?_⟩
  refine Call_ (ld_blt I hg hm PyProof.Rows.boot_zip (PyProof.Rows.callWith_type1 (thn (ha.run pos pins s σ H _ I h) fun vs s1 ⟨xs, H1, J, rr, q⟩ => ?_) h1 h2))
  obtain ⟨a, b, us, ws, rfl, ⟨q1, q2⟩, r⟩ := q
  cases rr with
  | cons r1 rr =>
  cases rr with
  | cons r2 rr =>
  cases rr
  cases r1
  cases r2
  obtain ⟨ts, rv, p1, _⟩ := J.list q1
  obtain ⟨ts2, rv2, p2, _⟩ := J.tuple q2
  obtain ⟨o1, l1, _⟩ := id p1.isList
  obtain ⟨o2, l2, _⟩ := id p2
  have lt1 := Heap.lt_size l1
  have lt2 := Heap.lt_size l2
  have sep : ZipSep2 (s1.heap.objs.size + 4) (s1.heap.objs.size + 2) (s1.heap.objs.size + 3) s1.heap.objs.size (s1.heap.objs.size + 1) [s1.heap.objs.size, a] [s1.heap.objs.size + 1, b] :=
    zip_sep2 (fun d hd => by rw [List.mem_singleton.mp hd]; exact lt1) (fun d hd => by rw [List.mem_singleton.mp hd]; exact lt2)
  refine zip_begins2 (begins_list a ts.toArray) (begins_tuple b ts2.toArray) p1.isList p2 fun h' f1 f2 f3 f4 f5 big kp => wpAny_pyIter_zip f1 ?_
  have J2 : Inv X pins σ H1 { s1 with heap := h' } := J.kept (t' := s1.toks) kp
  refine ⟨s1.heap.objs.size + 4, _, _, _, H1, rfl, J2, turnM sep (Nat.ne_of_lt lt1) (show b ≠ s1.heap.objs.size + 1 from Nat.ne_of_lt (Nat.lt_succ_of_lt lt2)), ⟨⟨f1, f2⟩, ⟨_, _, f3⟩, ⟨_, f4, rfl, rfl⟩, ⟨_, f5, rfl, rfl⟩⟩, fun d hd => ?_, r⟩
  have ge : s1.heap.objs.size ≤ d := by
    rcases mem5 hd with e | e | e | e | e
    · rw [e]; exact Nat.le_add_right _ _
    · rw [e]; exact Nat.le_add_right _ _
    · rw [e]; exact Nat.le_add_right _ _
    · rw [e]; exact Nat.le_refl _
    · rw [e]; exact Nat.le_add_right _ _
  exact J.fpOk ge (J.hok.fresh ge)
theorem pi_zipMK {X : Cx} {e1 e2 : Expr} {ta : TA} {p pos tp : Pos} {elts : List Expr} {kk : Nat} (K : PySem.W.Frag) (eK : X.K = K) (hg : Gl X "zip") (hm : X.mg "zip" = none) (ha : PA X [e1, e2] ta)
    (h1 : starEach [e1, e2] X.env = (false, eval e1 X.env) :: starEach [e2] X.env := by rfl) (h2 : (backTo pos (starEach [e2] X.env)).any (·.1) = false := by rfl) :
    PI X (.Tuple elts kk tp) (.Call (.Name "zip" p) [e1, e2] [] pos) (iZipM K ta) := eK ▸ pi_zipM hg hm ha h1 h2
/-- the walk of it -/
theorem walkM {K : PySem.W.Frag} {a b : Addr} {us ws : List V} (hn : us.length = ws.length) : Walk (ItM K a b) us.length (fun H => SqL K H a us ∧ SqT K H b ws) (YPair (fun i => us[i]?) (fun i => ws[i]?)) := by
  refine ⟨fun i H hi q => ⟨us, ws, q, hi, by omega⟩, fun H q => ⟨us, ws, q, .inl rfl, Nat.le_refl _, by omega⟩, fun i H v H' _ q y => ?_⟩
  obtain ⟨m, x, y, h1, h2, h3, h4, h5⟩ := y
  exact ⟨m, x, y, h1, h2, h3, h4 us q.1, h5 ws q.2⟩

/-! ### lists whose items are objects told one by one -/
inductive Rs {α : Type} (R : α → Addr → Hp → Prop) (H : Hp) : List V → List α → Prop
  | nil : Rs R H [] []
  | cons {x : α} {p : Addr} {xs : List α} {vs : List V} : R x p H → Rs R H vs xs → Rs R H (.ref p :: vs) (x :: xs)
section
variable {α β : Type} {R : α → Addr → Hp → Prop} {H H' : Hp} {vs : List V} {xs : List α}
theorem Rs.len (h : Rs R H vs xs) : vs.length = xs.length := by
  induction h with
  | nil => rfl
  | cons _ _ ih => rw [List.length_cons, List.length_cons, ih]
theorem Rs.imp {S : α → Addr → Hp → Prop} (h : Rs R H vs xs) (m : ∀ x p, x ∈ xs → R x p H → S x p H') : Rs S H' vs xs := by
  induction h with
  | nil => exact .nil
  | cons r _ ih => exact .cons (m _ _ List.mem_cons_self r) (ih fun x p hx => m x p (List.mem_cons_of_mem _ hx))
theorem Rs.snoc {x : α} {p : Addr} (h : Rs R H vs xs) (r : R x p H) : Rs R H (vs ++ [.ref p]) (xs ++ [x]) := by
  induction h with
  | nil => exact .cons r .nil
  | cons r0 _ ih => exact .cons r0 ih
theorem Rs.get (h : Rs R H vs xs) {i : Nat} {v : V} (hi : vs[i]? = some v) : ∃ p x, v = .ref p ∧ xs[i]? = some x ∧ R x p H := by
  induction h generalizing i with
  | nil => cases hi
  | cons r0 _ ih =>
    cases i with
    | zero =>
      cases hi
      exact ⟨_, _, rfl, rfl, r0⟩
    | succ i => exact ih hi
theorem Rs.refs (h : Rs R H vs xs) : ∀ v ∈ vs, ∃ r : Addr, v = .ref r := by
  induction h with
  | nil => intro v hv; cases hv
  | cons r0 _ ih =>
    intro v hv
    rcases List.mem_cons.mp hv with rfl | hv
    · exact ⟨_, rfl⟩
    · exact ih v hv
theorem Rs.take (h : Rs R H vs xs) : ∀ n, Rs R H (vs.take n) (xs.take n) := by
  induction h with
  | nil => intro n; rw [List.take_nil, List.take_nil]; exact .nil
  | cons r0 _ ih =>
    intro n
    cases n with
    | zero => exact .nil
    | succ n => exact .cons r0 (ih n)
/-- R stands however the heap grows -/
def Up {α : Type} (R : α → Addr → Hp → Prop) : Prop := ∀ x p H H', Ex H H' → R x p H → R x p H'
/-- R asks nothing of a list of objects elsewhere -/
def Off {α : Type} (R : α → Addr → Hp → Prop) : Prop := ∀ x p H D acc, R x p H → H D = some (.lst acc) → (∀ v ∈ acc, ∃ r : Addr, v = .ref r) → p ≠ D → R x p (hide D H)
theorem Rs.ex (up : Up R) (h : Rs R H vs xs) (e : Ex H H') : Rs R H' vs xs := h.imp fun x p _ r => up x p H H' e r
/-- a new list of such objects, a new such object -/
def EvRs (te : TE) (σ : L2.St) (H : Hp) (R : α → Addr → Hp → Prop) (xs : List α) : Prop := ∀ H1, Ex H H1 → ∀ Q : VK, (∀ l vs H2, H1 l = none → Ex H1 H2 → H2 l = some (.lst vs) → Rs R H2 vs xs → Q (.ref l) H2) → te σ H1 Q
def EvN (te : TE) (σ : L2.St) (H : Hp) (r : Addr → Hp → Prop) : Prop := ∀ H1, Ex H H1 → ∀ Q : VK, (∀ p H2, H1 p = none → Ex H1 H2 → r p H2 → Q (.ref p) H2) → te σ H1 Q
theorem hide_upd {D : Addr} {H : Hp} {o : HO} : hide D (upd H D o) = hide D H := by
  funext a
  by_cases e : a = D
  · rw [e, hide_at, hide_at]
  · rw [hide_ne e, hide_ne e, upd_ne e]
theorem hide_none {D : Addr} {H : Hp} (h : H D = none) : hide D H = H := by
  funext a
  by_cases e : a = D
  · rw [e, hide_at, h]
  · rw [hide_ne e]
/-- Ex past what is hidden -/
theorem ex_hide {D : Addr} {H H' : Hp} (e : Ex H H') : Ex (hide D H) (hide D H') := fun a o h => by
  rw [hide_ne (hide_some h).1]
  exact e a o (hide_some h).2
theorem ex_to_hide {D : Addr} {H H' : Hp} (h : H D = none) (e : Ex H H') : Ex H (hide D H') := by
  have := ex_hide (D := D) e
  rw [hide_none h] at this
  exact this
/-- an iterator that has come -/
def iHere (J : It) (H : Hp) : TI := fun _ _ R => R J H
theorem lcRs {J : It} {n : Nat} {G : Hp → Prop} {Y : Nat → Hp → V → Hp → Prop} (w : Walk J n G Y) {g : TG} {te : TE} {us : List Nat} {σ : L2.St} {H1 H0 : Hp} {Q : VK} (up : Up R) (off : Off R) (hn : n ≤ 100000) (hl : xs.length = n) (hG : ∀ H, Ex H1 H → G H)
    (hs : ∀ i y x H H', xs[i]? = some y → Ex H1 H → Y i H x H' → ∀ k : L2.St → Hp → Prop, (∀ σ2 H2, Ex H H2 → wipe σ2 us = wipe σ us → EvN te σ2 H2 (R y) → k σ2 H2) → g x (wipe σ us) H' k)
    (hq : ∀ l vs H2, H1 l = none → Ex H1 H2 → H2 l = some (.lst vs) → Rs R H2 vs xs → Q (.ref l) H2) : tLc (iHere J H1) g tYes te us σ H0 Q := fun D hD => by
  refine lc_it w (fun i H => ∃ vs, H D = some (.lst vs) ∧ Ex H1 (hide D H) ∧ Rs R (hide D H) vs (xs.take i)) ⟨[], upd_same, ?_, ?_⟩ ?_ ?_ ?_
  · rw [hide_upd, hide_none hD]
    exact Ex.refl _
  · exact .nil
  · rintro i H _ ⟨vs, _, e, _⟩
    exact hG H (e.trans hide_le)
  · rintro i x H H' hi ⟨vs, hv, e, r⟩ y
    obtain ⟨z, hz⟩ : ∃ z, xs[i]? = some z := ⟨xs[i]'(by omega), List.getElem?_eq_getElem (by omega)⟩
    refine hs i z x H H' hz (e.trans hide_le) y _ fun σ2 H2 e2 hw ev => ⟨hw, ?_⟩
    show te σ2 H2 fun y H4 => ∃ acc, H4 D = some (.lst acc) ∧ acc.length < sizeLine ∧ _
    refine ev H2 (Ex.refl _) _ fun p H3 hp e3 rp => ?_
    have hv2 := e2 _ _ hv
    have hv3 := e3 _ _ hv2
    have ne : p ≠ D := fun q => by
      rw [q, hv2] at hp
      cases hp
    have el : vs.length = (xs.take i).length := r.len
    rw [List.length_take] at el
    refine ⟨vs, hv3, sz_lt (by omega), vs ++ [.ref p], upd_same, ?_, ?_⟩
    · rw [hide_upd]
      exact e.trans (ex_hide (e2.trans e3))
    · rw [hide_upd, List.take_add_one, hz]
      exact (r.ex up (ex_hide (e2.trans e3))).snoc (off _ _ _ _ _ rp hv3 r.refs ne)
  · rintro H ⟨vs, hv, e, r⟩
    rw [← hl, List.take_length] at r
    exact hq D vs H hD (e.trans hide_le) hv (r.ex up hide_le)
variable {K : PySem.W.Frag} {σ : L2.St} {te tl : TE}
/-- over a list that stands -/
theorem ers_lc {a : Addr} {us : List V} {j : Nat} {ws : List Nat} (up : Up R) (off : Off R) (h : Ev tl σ H (.ref a)) (hx : SqL K H a us) (hn : us.length ≤ 40000) (hl : xs.length = us.length) (hw : ∀ x, wipe ((wipe σ ws).set j (some x)) ws = wipe σ ws)
    (he : ∀ (i : Nat) (u : V) (y : α) (H1 : Hp), Ex H H1 → us[i]? = some u → xs[i]? = some y → EvN te ((wipe σ ws).set j (some u)) H1 (R y)) : EvRs (tLc (iList K tl) (gName j) tYes te ws) σ H R xs := fun H0 e Q q => h H0 e _ fun H1 e1 => ⟨a, rfl, ⟨us, ex_l (e.trans e1) hx⟩,
  lcRs (H0 := H1) (walk_list (K := K) (a := a) (xs := us)) up off (by omega) hl (fun H2 e2 => ex_l ((e.trans e1).trans e2) hx) (fun i y x H2 H3 hy e2 yy k hk => by
    obtain ⟨rfl, hu⟩ := yy
    exact hk _ _ (Ex.refl _) (hw _) (he i x y _ ((e.trans e1).trans e2) hu hy)) fun l vs H2 hl0 e2 h2 r => q l vs H2 (fresh_back e1 hl0) (e1.trans e2) h2 r⟩
/-- over zip of a list and a tuple -/
theorem ers_zip {ta : TA} {a b : Addr} {us vs : List V} {j k : Nat} {ws : List Nat} (up : Up R) (off : Off R) (h : EvA ta σ H [.ref a, .ref b]) (hx : SqL K H a us) (hy : SqT K H b vs) (hn : us.length ≤ 40000) (hl : xs.length = us.length) (h2 : us.length = vs.length)
    (hw : ∀ x y, wipe (((wipe σ ws).set j (some x)).set k (some y)) ws = wipe σ ws)
    (he : ∀ (i : Nat) (u v : V) (y : α) (H1 : Hp), Ex H H1 → us[i]? = some u → vs[i]? = some v → xs[i]? = some y → EvN te (((wipe σ ws).set j (some u)).set k (some v)) H1 (R y)) : EvRs (tLc (iZipM K ta) (gTup K 2 (gCons (gName j) (gCons (gName k) gNil))) tYes te ws) σ H R xs := fun H0 e Q q => h H0 e _ fun H1 e1 => ⟨a, b, us, vs, rfl, ⟨ex_l (e.trans e1) hx, ex_t (e.trans e1) hy⟩,
  lcRs (H0 := H1) (walkM (K := K) (a := a) (b := b) h2) up off (by omega) hl (fun H2 e2 => ⟨ex_l ((e.trans e1).trans e2) hx, ex_t ((e.trans e1).trans e2) hy⟩) (fun i y x H2 H3 hyi e2 yy kk hk => by
    obtain ⟨m, u, v, rfl, hm, rfl, hu, hv⟩ := yy
    refine ⟨m, [u, v], rfl, st_of upd_same, rfl, u, [v], rfl, v, [], rfl, rfl, ?_⟩
    exact hk _ _ (Ex.new hm) (hw _ _) (he i u v y _ (((e.trans e1).trans e2).trans (Ex.new hm)) hu hv hyi)) fun l vs' H2 hl0 e2 h2 r => q l vs' H2 (fresh_back e1 hl0) (e1.trans e2) h2 r⟩
end

/-! ### xs[::-1] -/
theorem fm_self {α : Type} : ∀ l : List α, (List.range l.length).filterMap (fun k => l[k]?) = l := fun l => by
  have h : (List.range l.length).filterMap (fun k => l[k]?) = (List.range l.length).filterMap fun k => (l.map some).getD k none := by
    congr 1
    funext k
    rw [List.getD_eq_getElem?_getD, List.getElem?_map]
    cases l[k]? <;> rfl
  have g : (List.range l.length).map (fun k => (l.map some).getD k none) = l.map some := by
    apply List.ext_getElem
    · simp
    · intro i h1 h2
      simp at h1 ⊢
      simp [h1]
  have f : (List.range l.length).filterMap (fun k => (l.map some).getD k none) = ((List.range l.length).map fun k => (l.map some).getD k none).filterMap id := by
    rw [List.filterMap_map]
    rfl
  rw [h, f, g, List.filterMap_map]
  show l.filterMap some = l
  exact List.filterMap_some
theorem fm_congr {α β : Type} {f g : α → Option β} : ∀ l : List α, (∀ x ∈ l, f x = g x) → l.filterMap f = l.filterMap g
  | [], _ => rfl
  | x :: l, h => by
    rw [List.filterMap_cons, List.filterMap_cons, h x List.mem_cons_self, fm_congr l fun y hy => h y (List.mem_cons_of_mem _ hy)]
theorem pick_rev (us : List Value) : slicePick us.toArray none none (some (-1)) = us.reverse.toArray := by
  unfold slicePick sliceBounds sliceRange
  have n0 : ¬ ((-1 : Int) > 0) := by decide
  simp only [Option.getD_some, n0, if_false, List.size_toArray]
  have c : (if ((us.length : Int) - 1 > -1) then ((us.length : Int) - 1 - -1 - -1 - 1) / (- -1) else 0) = (us.length : Int) := by
    split
    · rw [show (- -1 : Int) = 1 from rfl, Int.ediv_one]
      omega
    · omega
  rw [c, Int.toNat_natCast, List.filterMap_map]
  congr 1
  have e : us.length = us.reverse.length := (List.length_reverse).symm
  conv => rhs; rw [← fm_self us.reverse]
  rw [← e]
  refine fm_congr _ fun k hk => ?_
  have hk' : k < us.length := List.mem_range.mp hk
  show us.toArray[((us.length : Int) - 1 + -1 * (k : Int)).toNat]? = _
  rw [List.getElem?_reverse hk', show ((us.length : Int) - 1 + -1 * (k : Int)).toNat = us.length - 1 - k by omega]
  simp
def tRev (K : PySem.W.Frag) (te : TE) (ts : TO) : TE := fun σ H Q => te σ H fun x H1 => ts σ H1 fun l H2 => l = some (-1) ∧ ∃ a xs, x = .ref a ∧ SqL K H2 a xs ∧ ∀ p, H2 p = none → Q (.ref p) (upd H2 p (.lst xs.reverse))
theorem vals_rev {xs : List V} {us : List Value} (r : Vals xs us) : Vals xs.reverse us.reverse := by
  refine vals_of_idx _ _ (by rw [List.length_reverse, List.length_reverse, r.length]) fun i u hi => ?_
  have lt := (List.getElem?_eq_some_iff.mp hi).1
  rw [List.length_reverse] at lt
  rw [List.getElem?_reverse lt] at hi
  have n := r.length
  obtain ⟨x, hx, rx⟩ := get_back r hi
  exact ⟨x, by rw [List.getElem?_reverse (by omega), n]; exact hx, rx⟩
theorem pe_rev {X : Cx} {e st : Expr} {te : TE} {ts : TO} {pos p2 : Pos} (he : PE X e te) (hs : PO X (some st) ts) : PE X (.Subscript e (.Slice none none (some st) p2) pos) (tRev X.K te ts) := by
  refine ⟨fun pins s σ H Q I0 h0 => ?_⟩
  refine Subscript_ (thn (he.run pins s σ H _ I0 h0) fun v s1 ⟨x, H1, I1, r1, q1⟩ => wpAny_Slice ?_)
  rw [evalPart_none]
  refine wpAny_pure (wpAny_pure (thn (hs.run pins s1 σ H1 _ I1 q1) fun vs s2 ⟨l, H2, I2, pl, el, a, xs, e1, hx, q⟩ => ?_))
  subst el e1
  cases r1
  have I3 : Inv X pins σ H2 { s2 with heap := s2.heap.push { cls := .type "slice", data := .fields #[.none, .none, vs] } } := I2.kept (t' := s2.toks) fun b ob z => Heap.get?_push_of_some _ z
  obtain ⟨ts', rv, pl2, hz⟩ := I3.list hx
  have n := rv.length
  refine tail_any (ops := [.ref a, .ref s2.heap.objs.size]) pl2.isList.typeIs slot_list_getitem.lookup ?_ (by with_unfolding_all rfl)
  refine wpAny_getItem_list_slice pl2.isList (Heap.IsSliceOf.new ..) .none .none pl (by decide) ?_ (by rw [List.size_toArray]; omega)
  rw [pick_rev]
  refine ⟨.ref _, _, I3.laid (t' := s2.toks) (o := .lst xs.reverse) (fun b ob z => Heap.get?_push_of_some _ z) (Nat.le_refl _) ?_, rfl, q _ (I3.hok.fresh (Nat.le_refl _))⟩
  exact ⟨by rw [List.length_reverse]; exact hz, _, 0, vals_rev rv, Heap.get?_push_size _ rfl⟩
section
variable {K : PySem.W.Frag} {σ : L2.St} {H : Hp} {te : TE} {ts : TO}
theorem el_rev {a : Addr} {xs : List V} (h : Ev te σ H (.ref a)) (hx : SqL K H a xs) (hs : EvO ts σ H (some (-1))) : EvL (tRev K te ts) σ H xs.reverse := fun H0 e0 Q q =>
  h H0 e0 _ fun H1 e1 => hs H1 (e0.trans e1) _ fun H2 e2 => ⟨rfl, a, xs, rfl, ex_l ((e0.trans e1).trans e2) hx, fun l hl => q l _ (fresh_back (e1.trans e2) hl) ((e1.trans e2).trans (Ex.new hl)) upd_same⟩
end

/-! ### items that are fixed values -/
theorem lcVs {J : It} {n : Nat} {G : Hp → Prop} {Y : Nat → Hp → V → Hp → Prop} (w : Walk J n G Y) {g : TG} {te : TE} {us : List Nat} {σ : L2.St} {H1 H0 : Hp} {Q : VK} {xs : List V} (hn : n ≤ 100000) (hl : xs.length = n) (hG : ∀ H, Ex H1 H → G H)
    (hs : ∀ (i : Nat) (y x : V) (H H' : Hp), xs[i]? = some y → Ex H1 H → Y i H x H' → ∀ k : L2.St → Hp → Prop, (∀ σ2 H2, Ex H H2 → wipe σ2 us = wipe σ us → Ev te σ2 H2 y → k σ2 H2) → g x (wipe σ us) H' k)
    (hq : ∀ l H2, H1 l = none → Ex H1 H2 → H2 l = some (.lst xs) → Q (.ref l) H2) : tLc (iHere J H1) g tYes te us σ H0 Q := fun D hD => by
  refine lc_it w (fun i H => H D = some (.lst (xs.take i)) ∧ Ex H1 (hide D H)) ⟨upd_same, ?_⟩ ?_ ?_ ?_
  · rw [hide_upd, hide_none hD]
    exact Ex.refl _
  · rintro i H _ ⟨_, e⟩
    exact hG H (e.trans hide_le)
  · rintro i x H H' hi ⟨hv, e⟩ y
    obtain ⟨z, hz⟩ : ∃ z, xs[i]? = some z := ⟨xs[i]'(by omega), List.getElem?_eq_getElem (by omega)⟩
    refine hs i z x H H' hz (e.trans hide_le) y _ fun σ2 H2 e2 hw ev => ⟨hw, ?_⟩
    show te σ2 H2 fun y H4 => ∃ acc, H4 D = some (.lst acc) ∧ acc.length < sizeLine ∧ _
    refine ev H2 (Ex.refl _) _ fun H3 e3 => ⟨_, e3 _ _ (e2 _ _ hv), sz_lt (by rw [List.length_take]; omega), ?_, ?_⟩
    · rw [upd_same, List.take_add_one, hz]
      rfl
    · rw [hide_upd]
      exact e.trans (ex_hide (e2.trans e3))
  · rintro H ⟨hv, e⟩
    rw [← hl, List.take_length] at hv
    exact hq D H hD (e.trans hide_le) hv
section
variable {K : PySem.W.Frag} {σ : L2.St} {H : Hp} {te tl : TE}
theorem elv_zip {ta : TA} {a b : Addr} {us vs xs : List V} {j k : Nat} {ws : List Nat} (h : EvA ta σ H [.ref a, .ref b]) (hx : SqL K H a us) (hy : SqT K H b vs) (hn : us.length ≤ 40000) (hl : xs.length = us.length) (h2 : us.length = vs.length)
    (hw : ∀ x y, wipe (((wipe σ ws).set j (some x)).set k (some y)) ws = wipe σ ws)
    (he : ∀ (i : Nat) (u v y : V) (H1 : Hp), Ex H H1 → us[i]? = some u → vs[i]? = some v → xs[i]? = some y → Ev te (((wipe σ ws).set j (some u)).set k (some v)) H1 y) : EvL (tLc (iZipM K ta) (gTup K 2 (gCons (gName j) (gCons (gName k) gNil))) tYes te ws) σ H xs := fun H0 e Q q => h H0 e _ fun H1 e1 => ⟨a, b, us, vs, rfl, ⟨ex_l (e.trans e1) hx, ex_t (e.trans e1) hy⟩,
  lcVs (H0 := H1) (walkM (K := K) (a := a) (b := b) h2) (by omega) hl (fun H2 e2 => ⟨ex_l ((e.trans e1).trans e2) hx, ex_t ((e.trans e1).trans e2) hy⟩) (fun i y x H2 H3 hyi e2 yy kk hk => by
    obtain ⟨m, u, v, rfl, hm, rfl, hu, hv⟩ := yy
    refine ⟨m, [u, v], rfl, st_of upd_same, rfl, u, [v], rfl, v, [], rfl, rfl, ?_⟩
    exact hk _ _ (Ex.new hm) (hw _ _) (he i u v y _ (((e.trans e1).trans e2).trans (Ex.new hm)) hu hv hyi)) fun l H2 hl0 e2 h2 => q l H2 (fresh_back e1 hl0) (e1.trans e2) h2⟩
/-- over a list of pairs -/
theorem elv_pairs {a : Addr} {us xs : List V} {j k : Nat} {ws : List Nat} (h : Ev tl σ H (.ref a)) (hx : SqL K H a us) (hn : us.length ≤ 40000) (hl : xs.length = us.length)
    (hw : ∀ x y, wipe (((wipe σ ws).set j (some x)).set k (some y)) ws = wipe σ ws)
    (he : ∀ (i : Nat) (u y : V), us[i]? = some u → xs[i]? = some y → ∃ (p : Addr) (x1 x2 : V), u = .ref p ∧ H p = some (.tup [x1, x2]) ∧ ∀ H1, Ex H H1 → Ev te (((wipe σ ws).set j (some x1)).set k (some x2)) H1 y) : EvL (tLc (iList K tl) (gTup K 2 (gCons (gName j) (gCons (gName k) gNil))) tYes te ws) σ H xs := fun H0 e Q q => h H0 e _ fun H1 e1 => ⟨a, rfl, ⟨us, ex_l (e.trans e1) hx⟩,
  lcVs (H0 := H1) (walk_list (K := K) (a := a) (xs := us)) (by omega) hl (fun H2 e2 => ex_l ((e.trans e1).trans e2) hx) (fun i y x H2 H3 hyi e2 yy kk hk => by
    obtain ⟨rfl, hu⟩ := yy
    obtain ⟨p, x1, x2, rfl, hp, hv⟩ := he i x y hu hyi
    have e3 := (e.trans e1).trans e2
    refine ⟨p, [x1, x2], rfl, st_of (e3 _ _ hp), rfl, x1, [x2], rfl, x2, [], rfl, rfl, ?_⟩
    exact hk _ _ (Ex.refl _) (hw _ _) (hv _ e3)) fun l H2 hl0 e2 h2 => q l H2 (fresh_back e1 hl0) (e1.trans e2) h2⟩
/-- two fors, the inner list new each time -/
theorem elv_lc2 {β : Type} {te1 : TE} {t1 : TT} {a : Addr} {us : List V} {ys : List (List β)} {r W : β → V} {F : β → Bool} {j k m : Nat} {ws ws1 : List Nat} (h : Ev tl σ H (.ref a)) (hx : SqL K H a us) (hl : ys.length = us.length) (hm : (ys.flatMap fun y => (y.filter F).map W).length ≤ 40000)
    (hw : ∀ x, wipe ((wipe σ ws).set j (some x)) ws = wipe σ ws) (hw1 : ∀ x y, wipe ((wipe ((wipe σ ws).set j (some x)) ws1).set k (some y)) ws1 = wipe ((wipe σ ws).set j (some x)) ws1)
    (hi : ∀ (i : Nat) (u : V) (y : List β) (H1 : Hp), Ex H H1 → us[i]? = some u → ys[i]? = some y → EvL te1 ((wipe σ ws).set j (some u)) H1 (y.map r))
    (ht : ∀ (u : V) (x : β) (H1 : Hp), Ex H H1 → (∃ y ∈ ys, x ∈ y) → EvT t1 ((wipe ((wipe σ ws).set j (some u)) ws1).set k (some (r x))) H1 (F x))
    (he : ∀ (u : V) (x : β) (H1 : Hp), Ex H H1 → (∃ y ∈ ys, x ∈ y) → Ev te ((wipe ((wipe σ ws).set j (some u)) ws1).set k (some (r x))) H1 (W x)) :
    EvL (tLc2 (iList K tl) (gName j) tYes (iList K te1) (gName k) t1 te ws ws1) σ H (ys.flatMap fun y => (y.filter F).map W) := fun H0 e Q q => h H0 e _ fun H1 e1 => ⟨a, rfl, ⟨us, ex_l (e.trans e1) hx⟩, fun D hD => by
  have w := walk_list (K := K) (a := a) (xs := us)
  have cut : ∀ i, ((ys.take i).flatMap fun y => (y.filter F).map W).length ≤ (ys.flatMap fun y => (y.filter F).map W).length := fun i => by
    conv => rhs; rw [← List.take_append_drop i ys, List.flatMap_append, List.length_append]
    omega
  refine ⟨fun i c H2 => c = us.length - i ∧ i ≤ us.length ∧ H2 D = some (.lst ((ys.take i).flatMap fun y => (y.filter F).map W)) ∧ Ex H1 (hide D H2), ⟨us.length, rfl, Nat.zero_le _, upd_same, ?_⟩, ?_⟩
  · rw [hide_upd, hide_none hD]
    exact Ex.refl _
  rintro i c H2 ⟨rfl, hi0, hv, e2⟩
  have e12 := (e.trans e1).trans (e2.trans hide_le)
  by_cases lt : i < us.length
  · refine .inr ⟨w.goes i H2 lt (ex_l e12 hx), fun H' => H' D = some (.lst ((ys.take (i + 1)).flatMap fun y => (y.filter F).map W)) ∧ Ex H1 (hide D H'), fun H' z => ⟨_, by omega, rfl, lt, z.1, z.2⟩, fun x H' yy => ?_⟩
    obtain ⟨rfl, hu⟩ := w.yields i H2 x H' lt (ex_l e12 hx) yy
    obtain ⟨y, hy⟩ : ∃ y, ys[i]? = some y := ⟨ys[i]'(by omega), List.getElem?_eq_getElem (by omega)⟩
    refine ⟨hw _, ?_⟩
    show te1 _ H' _
    refine hi i x y H' e12 hu hy H' (Ex.refl _) _ fun l H3 hl0 e3 h3 => ⟨l, rfl, ⟨_, sq_of h3⟩, ?_⟩
    have hv3 := e3 _ _ hv
    have nl : l ≠ D := fun z => by
      rw [z, hv] at hl0
      cases hl0
    have h3' : hide D H3 l = some (.lst (y.map r)) := by rw [hide_ne nl]; exact h3
    have w2 := walk_list (K := K) (a := l) (xs := y.map r)
    have e23 : Ex H1 (hide D H3) := e2.trans (ex_hide e3)
    have tk : (ys.take (i + 1)).flatMap (fun y => (y.filter F).map W) = ((ys.take i).flatMap fun y => (y.filter F).map W) ++ (y.filter F).map W := by
      rw [List.take_add_one, hy, List.flatMap_append]
      simp
    refine ⟨fun i2 c2 H4 => c2 = y.length - i2 ∧ i2 ≤ y.length ∧ H4 D = some (.lst (((ys.take i).flatMap fun y => (y.filter F).map W) ++ ((y.take i2).filter F).map W)) ∧ Ex (hide D H3) (hide D H4), ⟨y.length, rfl, Nat.zero_le _, ?_, Ex.refl _⟩, ?_⟩
    · rw [hv3]
      simp
    rintro i2 c2 H4 ⟨rfl, hi2, hv4, e4⟩
    have q4 : SqL K H4 l (y.map r) := sq_of (hide_le _ _ (e4 _ _ h3'))
    have ee : Ex H H4 := (e.trans e1).trans ((e23.trans e4).trans hide_le)
    by_cases lt2 : i2 < y.length
    · refine .inr ⟨w2.goes i2 H4 (by rw [List.length_map]; exact lt2) q4, fun H' => H' D = some (.lst (((ys.take i).flatMap fun y => (y.filter F).map W) ++ ((y.take (i2 + 1)).filter F).map W)) ∧ Ex (hide D H3) (hide D H'), fun H' z => ⟨_, by omega, rfl, lt2, z.1, z.2⟩, fun x2 H' yy => ?_⟩
      obtain ⟨rfl, hx2⟩ := w2.yields i2 H4 x2 H' (by rw [List.length_map]; exact lt2) q4 yy
      rw [List.getElem?_map, List.getElem?_eq_getElem lt2] at hx2
      have hx3 : r (y[i2]) = x2 := Option.some.inj hx2
      subst hx3
      have tk2 : ((y.take (i2 + 1)).filter F).map W = ((y.take i2).filter F).map W ++ (if F y[i2] = true then [W y[i2]] else []) := by
        rw [List.take_add_one, List.getElem?_eq_getElem lt2, List.filter_append, List.map_append]
        congr 1
        by_cases hf : F y[i2] = true <;> simp [hf]
      have inn : ∃ y' ∈ ys, y[i2] ∈ y' := ⟨y, List.mem_of_getElem? hy, List.getElem_mem lt2⟩
      refine ⟨hw1 _ _, ht _ _ H' ee inn H' (Ex.refl _) _ fun H5 e5 => ?_⟩
      by_cases hf : F y[i2] = true
      · rw [if_pos hf]
        refine he _ _ H5 (ee.trans e5) inn H5 (Ex.refl _) _ fun H6 e6 => ⟨_, e6 _ _ (e5 _ _ hv4), sz_lt ?_, ?_, ?_⟩
        · have h1 := cut (i + 1)
          rw [tk, List.length_append] at h1
          have h2 : ((y.take i2).filter F).length ≤ (y.filter F).length := by
            conv => rhs; rw [← List.take_append_drop i2 y, List.filter_append, List.length_append]
            omega
          rw [List.length_map] at h1
          rw [List.length_append, List.length_map]
          omega
        · rw [upd_same, tk2, if_pos hf, List.append_assoc]
        · rw [hide_upd]
          exact e4.trans (ex_hide (e5.trans e6))
      · rw [if_neg hf]
        refine ⟨?_, e4.trans (ex_hide e5)⟩
        rw [tk2, if_neg hf, List.append_nil]
        exact e5 _ _ hv4
    · have ei : i2 = y.length := by omega
      subst ei
      rw [List.take_length] at hv4
      have st := w2.stops H4 q4
      rw [List.length_map] at st
      exact .inl ⟨st, by rw [tk]; exact hv4, e23.trans e4⟩
  · have ei : i = us.length := by omega
    subst ei
    rw [← hl, List.take_length] at hv
    exact .inl ⟨w.stops H2 (ex_l e12 hx), q D H2 (fresh_back e1 hD) (e1.trans (e2.trans hide_le)) hv⟩⟩
/-- tuple(a new list of objects) -/
def EvRt {α : Type} (te : TE) (σ : L2.St) (H : Hp) (R : α → Addr → Hp → Prop) (xs : List α) : Prop := ∀ H1, Ex H H1 → ∀ Q : VK, (∀ l vs H2, H1 l = none → Ex H1 H2 → H2 l = some (.tup vs) → Rs R H2 vs xs → Q (.ref l) H2) → te σ H1 Q
theorem ers_tup {α : Type} {R : α → Addr → Hp → Prop} {xs : List α} (up : Up R) (h : EvRs te σ H R xs) : EvRt (tCB (fun xs H Q => ∃ p ys, xs = [.ref p] ∧ ((SqL K H p ys ∧ ∀ l, H l = none → Q (.ref l) (upd H l (.tup ys))) ∨ (SqT K H p ys ∧ Q (.ref p) H))) (tCons te tNil)) σ H R xs := fun H1 e Q q =>
  h H1 e _ fun l vs H2 hl e2 h2 r => ⟨l, vs, rfl, .inl ⟨sq_of h2, fun m hm => q m vs _ (fresh_back e2 hm) (e2.trans (Ex.new hm)) upd_same (r.ex up (Ex.new hm))⟩⟩
theorem eu_tupE {xs : List V} (h : EvL te σ H xs) : EvU (tCB (fun xs H Q => ∃ p ys, xs = [.ref p] ∧ ((SqL K H p ys ∧ ∀ l, H l = none → Q (.ref l) (upd H l (.tup ys))) ∨ (SqT K H p ys ∧ Q (.ref p) H))) (tCons te tNil)) σ H xs := fun H1 e Q q =>
  h H1 e _ fun l H2 hl e2 h2 => ⟨l, xs, rfl, .inl ⟨sq_of h2, fun m hm => q m _ (fresh_back e2 hm) (e2.trans (Ex.new hm)) upd_same⟩⟩
/-- a tuple that stands or is new -/
def EvTp (te : TE) (σ : L2.St) (H : Hp) (xs : List V) : Prop := ∀ H1, Ex H H1 → ∀ Q : VK, (∀ p H2, Ex H1 H2 → H2 p = some (.tup xs) → Q (.ref p) H2) → te σ H1 Q
end

/-! ### data of data compared -/
theorem layAll_of {n : Nat} : ∀ {ds : List PyData}, (∀ d ∈ ds, d.canLay0 = true ∧ d.depth ≤ n) → PyData.canLayAll0 ds = true ∧ PyData.depthAll ds ≤ n
  | [], _ => ⟨by simp [PyData.canLayAll0], by simp [PyData.depthAll]⟩
  | d :: ds, h => by
    have h1 := h d List.mem_cons_self
    have h2 := layAll_of (ds := ds) fun e he => h e (List.mem_cons_of_mem _ he)
    exact ⟨by simp [PyData.canLayAll0, h1.1, h2.1], by simp only [PyData.depthAll]; omega⟩
theorem shaped_tt {n : Nat} {ds : List PyData} (h : ∀ d ∈ ds, d.canLay0 = true ∧ d.depth ≤ n) (hn : n ≤ 60) : SeqAt.shaped (.tuple ds) = true := by
  have h2 := layAll_of h
  show (PyData.canLay0 (.tuple ds) && decide (PyData.depth (.tuple ds) ≤ 64)) = true
  rw [Bool.and_eq_true]
  exact ⟨by simp only [PyData.canLay0]; exact h2.1, decide_eq_true (by simp only [PyData.depth]; omega)⟩
theorem shaped_ll {n : Nat} {ds : List PyData} (h : ∀ d ∈ ds, d.canLay0 = true ∧ d.depth ≤ n) (hn : n ≤ 60) : SeqAt.shaped (.list ds) = true := by
  have h2 := layAll_of h
  show (PyData.canLay0 (.list ds) && decide (PyData.depth (.list ds) ≤ 64)) = true
  rw [Bool.and_eq_true]
  exact ⟨by simp only [PyData.canLay0]; exact h2.1, decide_eq_true (by simp only [PyData.depth]; omega)⟩
theorem lay_tup {vs : List V} (h : ∀ v ∈ vs, okV v = true) : (PyData.tuple (vs.map toD)).canLay0 = true ∧ (PyData.tuple (vs.map toD)).depth ≤ 1 := by
  have h2 := layAll_toD h
  exact ⟨by simp only [PyData.canLay0]; exact h2.1, by simp only [PyData.depth]; omega⟩
theorem lay_lst {vs : List V} (h : ∀ v ∈ vs, okV v = true) : (PyData.list (vs.map toD)).canLay0 = true ∧ (PyData.list (vs.map toD)).depth ≤ 1 := by
  have h2 := layAll_toD h
  exact ⟨by simp only [PyData.canLay0]; exact h2.1, by simp only [PyData.depth]; omega⟩
theorem eqF_same : ∀ xs : List V, (∀ v ∈ xs, PyData.eqv (toD v) (toD v) = true) → eqF xs xs = true
  | [], _ => rfl
  | x :: xs, h => by
    show (PyData.eqv (toD x) (toD x) && eqF xs xs) = true
    rw [h x List.mem_cons_self, eqF_same xs fun v hv => h v (List.mem_cons_of_mem _ hv)]
    rfl
theorem eqvAll_same : ∀ ds : List PyData, (∀ d ∈ ds, PyData.eqv d d = true) → PyData.eqvAll ds ds = true
  | [], _ => by simp [PyData.eqvAll]
  | d :: ds, h => by
    simp only [PyData.eqvAll]
    rw [h d List.mem_cons_self, eqvAll_same ds fun v hv => h v (List.mem_cons_of_mem _ hv)]
    rfl
section
variable {K : PySem.W.Frag} {σ : L2.St} {H : Hp} {te : TE} {tz : TS} {D : Ends} {α : Type} {R : α → Addr → Hp → Prop} {xs : List α}
/-- data of such objects -/
theorem Rs.dp {d : α → PyData} {vs : List V} (r : Rs R H vs xs) (h : ∀ x p, x ∈ xs → R x p H → Dp K H (.ref p) (d x)) : DpAll K H vs (xs.map d) := by
  induction r with
  | nil => exact .nil
  | cons r0 _ ih => exact .cons (h _ _ List.mem_cons_self r0) (ih fun x p hx => h x p (List.mem_cons_of_mem _ hx))
theorem q_asgRs {i : Nat} (h : EvRs te σ H R xs) (k : ∀ l vs H1, H l = none → Ex H H1 → H1 l = some (.lst vs) → Rs R H1 vs xs → tz D (σ.set i (some (.ref l))) H1) : tSeq (tAsg te (gName i)) tz D σ H := h H (Ex.refl H) _ k
theorem q_asgRt {i : Nat} (h : EvRt te σ H R xs) (k : ∀ l vs H1, H l = none → Ex H H1 → H1 l = some (.tup vs) → Rs R H1 vs xs → tz D (σ.set i (some (.ref l))) H1) : tSeq (tAsg te (gName i)) tz D σ H := h H (Ex.refl H) _ k
theorem s_asgRt {i : Nat} (h : EvRt te σ H R xs) (k : ∀ l vs H1, H l = none → Ex H H1 → H1 l = some (.tup vs) → Rs R H1 vs xs → D.nx (σ.set i (some (.ref l))) H1) : tAsg te (gName i) D σ H := h H (Ex.refl H) _ k
end

/-! ### a comprehension over range(n) whose items are drawn -/
def drawN {α : Type} (f : Int × Int → α × (Int × Int)) : Nat → Int × Int → List α × (Int × Int)
  | 0, s => ([], s)
  | i + 1, s => ((drawN f i s).1 ++ [(f (drawN f i s).2).1], (f (drawN f i s).2).2)
theorem drawN_len {α : Type} (f : Int × Int → α × (Int × Int)) (s : Int × Int) : ∀ n, (drawN f n s).1.length = n
  | 0 => rfl
  | n + 1 => by
    show ((drawN f n s).1 ++ [_]).length = _
    rw [List.length_append, drawN_len f s n]
    rfl
theorem drawN_pk {α : Type} {f : Int × Int → α × (Int × Int)} (hf : ∀ s, Pk s → Pk (f s).2) {s : Int × Int} (h : Pk s) : ∀ n, Pk (drawN f n s).2
  | 0 => h
  | n + 1 => hf _ (drawN_pk hf h n)
theorem drawN_all {α : Type} {f : Int × Int → α × (Int × Int)} {G : α → Prop} (hf : ∀ s, Pk s → Pk (f s).2 ∧ G (f s).1) {s : Int × Int} (h : Pk s) : ∀ n, ∀ x ∈ (drawN f n s).1, G x
  | 0 => fun x hx => by cases hx
  | n + 1 => fun x hx => by
    rcases List.mem_append.mp hx with hx | hx
    · exact drawN_all hf h n x hx
    · rw [List.mem_singleton.mp hx]
      exact (hf _ (drawN_pk (fun s hs => (hf s hs).1) h n)).2
/-- R speaks of its own object alone -/
def One {α : Type} (R : α → Addr → Hp → Prop) : Prop := ∀ x p H a, R x p H → p ≠ a → R x p (hide a H)
theorem ex_hide2 {p D : Addr} {H H' : Hp} (e : Ex (hide p H) H') : Ex (hide p (hide D H)) (hide p (hide D H')) := fun a o h => by
  obtain ⟨n1, h⟩ := hide_some h
  obtain ⟨n2, h⟩ := hide_some h
  rw [hide_ne n1, hide_ne n2]
  exact e a o (by rw [hide_ne n1]; exact h)
theorem lc_draw {α : Type} {R : α → Addr → Hp → Prop} (up : Up R) (one : One R) {f : Int × Int → α × (Int × Int)} (hf : ∀ s, Pk s → Pk (f s).2) {te : TE} {σ : L2.St} {us : List Nat} {j : Nat} {p : Addr} {s : Int × Int} {H0 H1 : Hp} {n : Nat} {Q : VK} (hk : Pk s) (hp : H1 p = some (pl s)) (hn : n ≤ 1000)
    (hw : ∀ x, wipe ((wipe σ us).set j (some x)) us = wipe σ us)
    (he : ∀ (i : Nat) (H : Hp) (s : Int × Int), Pk s → H p = some (pl s) → ∀ Q : VK, (∀ l H', H l = none → Ex (hide p H) H' → H' p = some (pl (f s).2) → R (f s).1 l H' → Q (.ref l) H') → te ((wipe σ us).set j (some (.int (i : Int)))) H Q)
    (hq : ∀ l vs H', H1 l = none → Ex (hide p H1) H' → H' p = some (pl (drawN f n s).2) → H' l = some (.lst vs) → Rs R (hide p H') vs (drawN f n s).1 → Q (.ref l) H') : tLc (iHere (Itr 0 n) H1) (gName j) tYes te us σ H0 Q := fun D hD => by
  have npD : p ≠ D := fun z => by
    rw [z, hD] at hp
    cases hp
  refine lc_it (walk_range (lo := 0) (n := n)) (fun i H => ∃ vs, H D = some (.lst vs) ∧ H p = some (pl (drawN f i s).2) ∧ Ex (hide p H1) (hide p (hide D H)) ∧ Rs R (hide p (hide D H)) vs (drawN f i s).1) ⟨[], upd_same, ?_, ?_, .nil⟩ (fun _ _ _ _ => trivial) ?_ ?_
  · rw [upd_ne npD]
    exact hp
  · rw [hide_upd, hide_none hD]
    exact Ex.refl _
  · rintro i x H H' hi ⟨vs, hv, hp2, e, r⟩ ⟨rfl, rfl⟩
    have ez : (0 : Int) + (i : Int) = (i : Int) := Int.zero_add _
    show wipe ((wipe σ us).set j (some (.int ((0 : Int) + (i : Int))))) us = wipe σ us ∧ te ((wipe σ us).set j (some (.int ((0 : Int) + (i : Int))))) H' _
    rw [ez]
    refine ⟨hw _, he i H' _ (drawN_pk hf hk i) hp2 _ fun l H4 hl e4 hp4 rl => ?_⟩
    have nlD : l ≠ D := fun z => by
      rw [z, hv] at hl
      cases hl
    have nlp : l ≠ p := fun z => by
      rw [z, hp2] at hl
      cases hl
    have hv4 : H4 D = some (.lst vs) := e4 _ _ (by rw [hide_ne npD.symm]; exact hv)
    have el := r.len
    rw [drawN_len] at el
    refine ⟨vs, hv4, sz_lt (by omega), vs ++ [.ref l], upd_same, ?_, ?_, ?_⟩
    · rw [upd_ne npD]
      exact hp4
    · rw [hide_upd]
      exact e.trans (ex_hide2 e4)
    · rw [hide_upd]
      exact (r.ex up (ex_hide2 e4)).snoc (one _ _ _ _ (one _ _ _ _ rl nlD) nlp)
  · rintro H ⟨vs, hv, hp2, e, r⟩
    have e2 : Ex (hide p (hide D H)) (hide p H) := ex_hide hide_le
    exact hq D vs H hD ((e.trans e2).trans hide_le) hp2 hv (r.ex up e2)
theorem qp_asgDraw {α : Type} {R : α → Addr → Hp → Prop} (up : Up R) (one : One R) {f : Int × Int → α × (Int × Int)} (hf : ∀ s, Pk s → Pk (f s).2) {ta : TA} {te : TE} {tz : TS} {E : Ends} {σ : L2.St} {us : List Nat} {i j : Nat} {p : Addr} {s s1 : Int × Int} {G H : Hp} {n : Int} (K0 : Kn G p s H) (h : EvAP ta σ G p s [.int n] s1) (hk : Pk s1) (hn : 0 ≤ n ∧ n ≤ 1000)
    (hw : ∀ x, wipe ((wipe σ us).set j (some x)) us = wipe σ us)
    (he : ∀ (i : Nat) (H : Hp) (s : Int × Int), Pk s → H p = some (pl s) → ∀ Q : VK, (∀ l H', H l = none → Ex (hide p H) H' → H' p = some (pl (f s).2) → R (f s).1 l H' → Q (.ref l) H') → te ((wipe σ us).set j (some (.int (i : Int)))) H Q)
    (k : ∀ l vs H', l ≠ p → Ex (hide p H) H' → H' p = some (pl (drawN f n.toNat s1).2) → H' l = some (.lst vs) → Rs R (hide p H') vs (drawN f n.toNat s1).1 → tz E (σ.set i (some (.ref l))) H') : tSeq (tAsg (tLc (iRng1 ta) (gName j) tYes te us) (gName i)) tz E σ H :=
  h H K0 _ fun H1 e1 g1 => ⟨n, rfl, by omega, by omega, lc_draw (H0 := H1) (Q := fun v H' => tz E (σ.set i (some v)) H') up one hf hk g1 (by omega) hw he fun l vs H' hl e' hp' hl' r' => k l vs H' (fun z => by
    rw [z, g1] at hl
    cases hl) (hx_trans e1 e') hp' hl' r'⟩
section
variable {K : PySem.W.Frag} {σ : L2.St} {H : Hp} {te tl : TE}
/-- over a list that stands, the items fixed values -/
theorem elv_lc {a : Addr} {us xs : List V} {j : Nat} {ws : List Nat} (h : Ev tl σ H (.ref a)) (hx : SqL K H a us) (hn : us.length ≤ 40000) (hl : xs.length = us.length) (hw : ∀ x, wipe ((wipe σ ws).set j (some x)) ws = wipe σ ws)
    (he : ∀ (i : Nat) (u y : V) (H1 : Hp), Ex H H1 → us[i]? = some u → xs[i]? = some y → Ev te ((wipe σ ws).set j (some u)) H1 y) : EvL (tLc (iList K tl) (gName j) tYes te ws) σ H xs := fun H0 e Q q => h H0 e _ fun H1 e1 => ⟨a, rfl, ⟨us, ex_l (e.trans e1) hx⟩,
  lcVs (H0 := H1) (walk_list (K := K) (a := a) (xs := us)) (by omega) hl (fun H2 e2 => ex_l ((e.trans e1).trans e2) hx) (fun i y x H2 H3 hy e2 yy k hk => by
    obtain ⟨rfl, hu⟩ := yy
    exact hk _ _ (Ex.refl _) (hw _) (he i x y _ ((e.trans e1).trans e2) hu hy)) fun l H2 hl0 e2 h2 => q l H2 (fresh_back e1 hl0) (e1.trans e2) h2⟩
end
end Kz
namespace Kz
open PySem PySem.Spec PyProof.Rows L2 Evl StX
/-- an own def called somewhere below -/
theorem call_at {X : Cx} {CX : CXT} {f : Addr} {fd : FuncData} {ps : List Str} {n : Nat} {sp : Sp} {E : XK} (F : FnOk X.prog X.w X.K X.mg X.base CX n f fd ps sp) (hb : Binds X.K fd ps []) (hx : Passes CX X E) {A : Around} (sb : Sub X n A)
    {pins : List (Addr × Obj)} {s : Shared} {σ : L2.St} {H : Hp} {vs : List V} {us : List Value} {Q : VK} (I : Inv X pins σ H s) (r : Vals vs us) (h : sp vs H Q E) : wpAny (model X.prog X.w) A (call (.ref f) us) (EP X pins σ Q) X.xe s := by
  have e0 : Env0 X.prog X.w X.K X.mg X.base A X.stack s H := by
    have e := I.env0
    exact ⟨by rw [sb.fr]; exact e.frames, e.mod, e.bs, e.bsz, e.funs, e.frf, e.hok, e.bare⟩
  have b := hb s us I.kIn (by rw [List.append_nil, ← r.length]; exact F.len _ _ _ _ h)
  rw [List.append_nil] at b
  refine wpAny_call (codeAny_mono (F.run A X.stack s H ⟨us, []⟩ us vs Q E sb.room e0 b r h) fun z s' hq => ?_)
  match z, hq with
  | .error er, hq => exact hx pins σ H s er s' I hq
  | .ok (.ret u), hq => exact I.after hq
  | .ok .next, hq => exact hq.elim
  | .ok .brk, hq => exact hq.elim
  | .ok .cont, hq => exact hq.elim
theorem sub_here {X : Cx} {n : Nat} (hr : Room n X.A) : Sub X n X.A := ⟨hr, rfl⟩
/-! ### x & y, x | y by the own method of x -/
structure OpC (K : PySem.W.Frag) (nm : String) (C f : Addr) : Prop where
  fst : PySem.W.selfFirst K C = true
  find : PySem.W.findIn K (.ref C) (PySem.dunder nm) = some (some (.ref f))
  isf : PySem.W.isFn K (.ref f) = true
  rev : PySem.W.findIn K (.ref C) (dunderR nm) = some none
def rBinOwn (C C2 : Addr) (sp : Sp) (E : XK) : R2 := fun x y H Q => ∃ a b dx dy fs gs, x = .ref a ∧ y = .ref b ∧ H a = some (.ins C dx fs) ∧ H b = some (.ins C2 dy gs) ∧ sp [.ref a, .ref b] H (fun v H' => ∃ r, v = .ref r ∧ Q (.ref r) H') E
theorem back_ref {X : Cx} {pins : List (Addr × Obj)} {σ : L2.St} {Q : VK} {v : Value} {s : Shared} (h : EP X pins σ (fun v H' => ∃ r, v = .ref r ∧ Q (.ref r) H') v s) : PySem.W.CmpBack (EP X pins σ Q) v s := by
  obtain ⟨x, H', I, r, p, rfl, q⟩ := h
  cases (show v = Value.ref p from r)
  exact ⟨.ref p, H', I, rfl, q⟩
theorem bin_two {prog : Program} {w : World} {A : Around} {E : Value → Shared → Prop} {s : Shared} {K : PySem.W.Frag} {a b C C2 f f2 : Addr} {oa ob : Obj} {da db : Option Obj} {op : Operator} {Q : Value → Shared → Prop} (Z : K.In s.heap) (J : PySem.W.InstAt s.heap a oa C da) (J2 : PySem.W.InstAt s.heap b ob C2 db)
    (h1 : OpC K op.info.2 C f) (h2 : OpC K op.info.2 C2 f2) (ne : C ≠ C2) (hs : PySem.W.subIn K (.ref C2) (.ref C) = some false) (h : wpAny (model prog w) A (call (.ref f) [.ref a, .ref b]) (PySem.W.CmpBack Q) E s) : wpAny (model prog w) A (binaryOp op (.ref a) (.ref b)) Q E s := by
  obtain ⟨c1, t1, k1, m1⟩ := PySem.W.ksp_first h1.fst
  obtain ⟨c2, t2, k2, m2⟩ := PySem.W.ksp_first h2.fst
  obtain ⟨_, g1, g2, g3⟩ := h1
  obtain ⟨_, u1, u2, u3⟩ := h2
  rcases hi : op.info with ⟨sym, nm⟩
  rw [hi] at g1 g3 u1 u3
  dsimp only at g1 g3 u1 u3
  have one := PySem.W.ksp_try Z J g1 g2 h
  obtain ⟨hh, g, d, tt, os⟩ := s
  have L1 : PySem.W.Looks (model prog w) hh (typeOf (.ref a)) (.ref C) := J.type
  have L2 : PySem.W.Looks (model prog w) hh (typeOf (.ref b)) (.ref C2) := J2.type
  have L3 : PySem.W.Looks (model prog w) hh (fillsNumberSlot (.ref C) nm) true := PySem.W.fills_K Z k1 m1 g1
  have L4 : PySem.W.Looks (model prog w) hh (fillsNumberSlot (.ref C2) nm) true := PySem.W.fills_K Z k2 m2 u1
  have L5 : PySem.W.Looks (model prog w) hh (isSubtype (.ref C2) (.ref C)) false := PySem.W.looks_subIn Z hs
  have L6 : PySem.W.Looks (model prog w) hh (numberSlotInPython (.ref C) nm) true := PySem.W.ksp_inPy Z g1 g3 (.inl rfl)
  have L7 : PySem.W.Looks (model prog w) hh (numberSlotInPython (.ref C2) nm) true := PySem.W.ksp_inPy Z u1 u3 (.inl rfl)
  have hne : (Value.ref C == Value.ref C2) = false := Bool.eq_false_iff.mpr fun q => ne (by cases beq_iff_eq.mp q; rfl)
  simp only [binaryOp, hi]
  refine wpAny_holding (wpAny_bind ?_)
  unfold binaryOp1
  refine wpAny_bind (L1.at (wpAny_bind (L2.at (wpAny_bind (L3.at ?_)))))
  simp only [hne, Bool.false_eq_true, if_false]
  ksp_lk
  refine wpAny_mono one (fun r s' z => ?_) fun _ _ e => e
  obtain ⟨v, rfl, hq⟩ := z
  ksp_lk
  exact hq
theorem op_binOwn {X : Cx} {CX : CXT} {op : Operator} {C C2 f f2 : Addr} {fd : FuncData} {ps : List Str} {k : Nat} {sp : Sp} {E : XK} (h1 : OpC X.K op.info.2 C f) (h2 : OpC X.K op.info.2 C2 f2) (hs : C = C2 ∨ PySem.W.subIn X.K (.ref C2) (.ref C) = some false)
    (F : FnOk X.prog X.w X.K X.mg X.base CX k f fd ps sp) (hr : Room k X.A) (hb : Binds X.K fd ps []) (hx : Passes CX X E) : OpR X (binaryOp op) (rBinOwn C C2 sp E) := by
  intro pins s σ H x y v u Q I rx ry h
  obtain ⟨a, b, dx, dy, fs, gs, rfl, rfl, ha, hb2, hsp⟩ := h
  cases (show v = Value.ref a from rx)
  cases (show u = Value.ref b from ry)
  obtain ⟨mA, J, _⟩ := ins_get I.hok ha
  obtain ⟨oa, J, _⟩ := J.look
  obtain ⟨mB, J2, _⟩ := ins_get I.hok hb2
  obtain ⟨ob, J2, _⟩ := J2.look
  have one := wpAny_mono (call_at F hb hx (sub_here hr) I (us := [.ref a, .ref b]) (.cons (show RelV (.ref a) (Value.ref a) from rfl) (.cons (show RelV (.ref b) (Value.ref b) from rfl) .nil)) hsp) (fun _ _ z => back_ref z) fun _ _ z => z
  by_cases ne : C = C2
  · subst ne
    obtain ⟨m, fr⟩ := I.fr
    exact PySem.W.binop_K fr I.ok.mod.kin J J2.type h1.fst h1.find h1.isf one
  · exact bin_two I.kIn J J2 h1 h2 ne (hs.resolve_left ne) one
/-! ### x == y by the own __eq__ of x -/
structure EqC (K : PySem.W.Frag) (C f : Addr) : Prop where
  find : PySem.W.findIn K (.ref C) "__eq__" = some (some (.ref f))
  isf : PySem.W.isFn K (.ref f) = true
def rEqOwn (K : PySem.W.Frag) (C : Addr) (sp : Sp) (E : XK) : R2 := fun x y H Q => ∃ a dx fs, x = .ref a ∧ H a = some (.ins C dx fs) ∧
  ((∃ b C2 dy gs, y = .ref b ∧ H b = some (.ins C2 dy gs) ∧ PySem.W.notFirst K C (.ref C2) = true) ∨ ∃ z, y = .str z ∧ PySem.W.notFirst K C (.type "str") = true) ∧ sp [.ref a, y] H (fun v H' => ∃ b, v = .bl b ∧ Q (.bl b) H') E
theorem back_bl {X : Cx} {pins : List (Addr × Obj)} {σ : L2.St} {Q : VK} {v : Value} {s : Shared} (h : EP X pins σ (fun v H' => ∃ b, v = .bl b ∧ Q (.bl b) H') v s) : PySem.W.CmpBack (EP X pins σ Q) v s := by
  obtain ⟨x, H', I, r, p, rfl, q⟩ := h
  cases (show v = Value.bool p from r)
  exact ⟨.bl p, H', I, rfl, q⟩
theorem op_eqOwn {X : Cx} {CX : CXT} {C f : Addr} {fd : FuncData} {ps : List Str} {k : Nat} {sp : Sp} {E : XK} (h1 : EqC X.K C f) (F : FnOk X.prog X.w X.K X.mg X.base CX k f fd ps sp) (hr : Room k X.A) (hb : Binds X.K fd ps []) (hx : Passes CX X E) : OpR X (compareOp .Eq) (rEqOwn X.K C sp E) := by
  intro pins s σ H x y v u Q I rx ry h
  obtain ⟨a, dx, fs, rfl, ha, hy, hsp⟩ := h
  cases (show v = Value.ref a from rx)
  obtain ⟨mA, J, _⟩ := ins_get I.hok ha
  obtain ⟨oa, J, _⟩ := J.look
  obtain ⟨m, fr⟩ := I.fr
  have one := wpAny_mono (call_at F hb hx (sub_here hr) I (us := [.ref a, u]) (.cons (show RelV (.ref a) (Value.ref a) from rfl) (.cons ry .nil)) hsp) (fun _ _ z => back_bl z) fun _ _ z => z
  show wpAny _ _ (richCompare .Eq (.ref a) u) _ _ s
  rcases hy with ⟨b, C2, dy, gs, rfl, hb2, nf⟩ | ⟨z, rfl, nf⟩
  · cases (show u = Value.ref b from ry)
    obtain ⟨mB, J2, _⟩ := ins_get I.hok hb2
    obtain ⟨ob, J2, _⟩ := J2.look
    exact PySem.W.cmp_K (op := .Eq) hr.units0 fr I.ok.mod.kin J J2.type nf h1.find h1.isf one
  · obtain ⟨t, rfl⟩ := ry
    exact PySem.W.cmp_K (op := .Eq) (tb := .type "str") hr.units0 fr I.ok.mod.kin J (PySem.W.Looks.of_pure rfl) nf h1.find h1.isf one
/-! ### str(x) and {x} by the own __str__ of x -/
structure StC (K : PySem.W.Frag) (C f : Addr) : Prop where
  find : PySem.W.findIn K (.ref C) "__str__" = some (some (.ref f))
  isf : PySem.W.isFn K (.ref f) = true
def rStrOwn (C : Addr) (sp : Sp) (E : XK) : List V → Hp → VK → Prop := fun xs H Q => ∃ a dx fs, xs = [.ref a] ∧ H a = some (.ins C dx fs) ∧ sp [.ref a] H (fun v H' => ∃ z, v = .str z ∧ Q (.str z) H') E
theorem back_str {X : Cx} {pins : List (Addr × Obj)} {σ : L2.St} {Q : VK} {v : Value} {s : Shared} (h : EP X pins σ (fun v H' => ∃ z, v = .str z ∧ Q (.str z) H') v s) : PySem.W.StrBack (EP X pins σ Q) v s := by
  obtain ⟨x, H', I, r, p, rfl, q⟩ := h
  obtain ⟨t, rfl⟩ := r
  exact ⟨.str p, H', I, ⟨t, rfl⟩, q⟩
theorem call_strOwn {X : Cx} {CX : CXT} {C f : Addr} {fd : FuncData} {ps : List Str} {k : Nat} {sp : Sp} {E : XK} (h1 : StC X.K C f) (F : FnOk X.prog X.w X.K X.mg X.base CX k f fd ps sp) (hr : Room (k + 2) X.A) (hb : Binds X.K fd ps []) (hx : Passes CX X E) : CallR X (.type "str") (rStrOwn C sp E) := by
  intro pins s σ H xs us Q I r h
  obtain ⟨a, dx, fs, rfl, ha, hsp⟩ := h
  obtain ⟨u, rfl, rx⟩ := vals1 r
  cases (show u = Value.ref a from rx)
  obtain ⟨mA, J, _⟩ := ins_get I.hok ha
  obtain ⟨oa, J, _⟩ := J.look
  have sb : Sub X k X.A.in1.in1 := (sub_here hr).in1.in1
  exact PySem.W.kso_call sb.room.units0 I.kIn J h1.find h1.isf (wpAny_mono (call_at F hb hx sb I (us := [.ref a]) (.cons (show RelV (.ref a) (Value.ref a) from rfl) .nil) hsp) (fun _ _ z => back_str z) fun _ _ z => z)
def tFmtOwn (C : Addr) (sp : Sp) (E : XK) (te : TE) : TE := fun σ H Q => te σ H fun x H1 => rStrOwn C sp E [x] H1 Q
structure FmC (K : PySem.W.Frag) (C f : Addr) : Prop where
  str : StC K C f
  fmt : PySem.W.findIn K (.ref C) "__format__" = some (some (.builtin "object.__format__"))
  obj : PySem.W.mroIn K C (.type "object") = some true
theorem pe_fmtOwn {X : Cx} {CX : CXT} {C f : Addr} {fd : FuncData} {ps : List Str} {k : Nat} {sp : Sp} {E : XK} {e : Expr} {te : TE} {pos : Pos} (h1 : FmC X.K C f) (F : FnOk X.prog X.w X.K X.mg X.base CX k f fd ps sp) (hr : Room (k + 1) X.A) (hb : Binds X.K fd ps []) (hx : Passes CX X E) (he : PE X e te) :
    PE X (.FormattedValue e (-1) none pos) (tFmtOwn C sp E te) := by
  refine ⟨fun pins s σ H Q I0 h0 => ?_⟩
  refine wpAny_FormattedValue_plain (thn (he.run pins s σ H _ I0 h0) fun v s1 hv => ?_)
  obtain ⟨x, H1, I, r1, a, dx, fs, hxs, ha, hsp⟩ := hv
  cases hxs
  cases (show v = Value.ref a from r1)
  have I2 : Inv X pins σ H1 { s1 with toks := s1.toks + 1 } := I.tok _
  obtain ⟨mA, J, _⟩ := ins_get I.hok ha
  obtain ⟨oa, J, _⟩ := J.look
  have sb : Sub X k X.A.in1 := (sub_here hr).in1
  exact PySem.W.kfo_fieldS sb.room.units0 I.kIn J h1.fmt h1.obj h1.str.find h1.str.isf (wpAny_mono (call_at F hb hx sb I2 (us := [.ref a]) (.cons (show RelV (.ref a) (Value.ref a) from rfl) .nil) hsp) (fun _ _ z => back_str z) fun _ _ z => z)
/-- one of two rules, by what stands there -/
def tAlt (t u : TE) : TE := fun σ H Q => t σ H Q ∨ u σ H Q
theorem pe_alt {X : Cx} {e : Expr} {t u : TE} (h1 : PE X e t) (h2 : PE X e u) : PE X e (tAlt t u) := ⟨fun pins s σ H Q I h => h.elim (h1.run pins s σ H Q I) (h2.run pins s σ H Q I)⟩
def tAltT (t u : TT) : TT := fun σ H Q => t σ H Q ∨ u σ H Q
theorem pt_alt {X : Cx} {e : Expr} {t u : TT} (h1 : PT X e t) (h2 : PT X e u) : PT X e (tAltT t u) := ⟨fun pins s σ H Q I h => h.elim (h1.run pins s σ H Q I) (h2.run pins s σ H Q I)⟩
theorem et_alt3 {a b c : TE} {σ : L2.St} {H : Hp} {k : Bool} (h : Ev (tAlt a (tAlt b c)) σ H (.bl k)) : EvT (tAltT (tTest a) (tAltT (tTest b) (tTest c))) σ H k := fun H1 e Q q =>
  h H1 e (fun v H2 => ∃ k, v = .bl k ∧ Q k H2) fun H2 e2 => ⟨k, rfl, q H2 e2⟩
/-- s.join(e) within a comprehension -/
theorem pe_joinK {X : Cx} {o e : Expr} {to te : TE} (K : PySem.W.Frag) (eK : X.K = K) {apos pos : Pos} (ho : PE X o to) (he : PE X e te) (hs : starEach [e] X.env = [(false, eval e X.env)] := by rfl) (hbase : attributeBase o "join" X.env (eval o X.env) = eval o X.env := by rfl) (hline : (apos.endLine == pos.line) = true := by rfl) :
    PE X (.Call (.Attribute o "join" apos) [e] [] pos) (tM1 (fun x xs H Q => ∃ a p, ∃ ys : List Str, x = .str a ∧ xs = [.ref p] ∧ (SqL K H p (ys.map V.str) ∨ SqT K H p (ys.map V.str)) ∧
      (ys.map (·.length)).sum + ys.length * a.length ≤ 16777216 ∧ Q (.str (Txt.join a ys)) H) to te) := eK ▸ pe_join ho he hs hbase hline
/-! ### the defs of such classes, as the terms name them -/
section
variable (P : Program) (w : World) (K : PySem.W.Frag) (mg : Str → Option Value) (base : Heap)
def DfO (nm : String) (C : Addr) (ps : List Str) (k : Nat) (sp : Sp) : Prop := ∃ (f : Addr) (fd : FuncData), OpC K nm C f ∧ Binds K fd ps [] ∧ FnOk P w K mg base (L2.CX P w) k f fd ps sp
def DfEq (C : Addr) (ps : List Str) (k : Nat) (sp : Sp) : Prop := ∃ (f : Addr) (fd : FuncData), EqC K C f ∧ Binds K fd ps [] ∧ FnOk P w K mg base CX0 k f fd ps sp
def DfSt (C : Addr) (ps : List Str) (k : Nat) (sp : Sp) : Prop := ∃ (f : Addr) (fd : FuncData), FmC K C f ∧ Binds K fd ps [] ∧ FnOk P w K mg base CX0 k f fd ps sp
/-- an own class whose __init__ may raise -/
def DfIX (x : Str) (C : Addr) (ps : List Str) (k : Nat) (sp : Sp) : Prop := ∃ (f : Addr) (fd : FuncData), Mk K C f ∧ mg x = some (.ref C) ∧ Binds K fd ps [] ∧ FnOk P w K mg base (L2.CX P w) k f fd ps sp
end
section
variable {X : Cx} {C C2 : Addr} {ps ps2 : List Str} {k k2 : Nat} {sp sp2 : Sp} {E : XK}
theorem op_dfO {op : Operator} {nm : String} (D : DfO X.prog X.w X.K X.mg X.base nm C ps k sp) (D2 : DfO X.prog X.w X.K X.mg X.base nm C2 ps2 k2 sp2) (hs : C = C2 ∨ PySem.W.subIn X.K (.ref C2) (.ref C) = some false) (hr : Room k X.A) (tk : Takes X (fun cls d _ H => E cls d H)) (he : op.info.2 = nm := by rfl) :
    OpR X (binaryOp op) (rBinOwn C C2 sp E) := by
  subst he
  obtain ⟨f, fd, h1, hb, F⟩ := D
  obtain ⟨f2, fd2, h2, _, _⟩ := D2
  exact op_binOwn h1 h2 hs F hr hb (passes_call tk fun _ _ _ _ h => h)
theorem op_eq_df (D : DfEq X.prog X.w X.K X.mg X.base C ps k sp) (hr : Room k X.A) : OpR X (compareOp .Eq) (rEqOwn X.K C sp E0) := by
  obtain ⟨f, fd, h1, hb, F⟩ := D
  exact op_eqOwn h1 F hr hb pass0
theorem call_str_df (D : DfSt X.prog X.w X.K X.mg X.base C ps k sp) (hr : Room (k + 2) X.A) : CallR X (.type "str") (rStrOwn C sp E0) := by
  obtain ⟨f, fd, h1, hb, F⟩ := D
  exact call_strOwn h1.str F hr hb pass0
theorem pe_fmt_df {e : Expr} {te : TE} {pos : Pos} (D : DfSt X.prog X.w X.K X.mg X.base C ps k sp) (hr : Room (k + 1) X.A) (he : PE X e te) : PE X (.FormattedValue e (-1) none pos) (tFmtOwn C sp E0 te) := by
  obtain ⟨f, fd, h1, hb, F⟩ := D
  exact pe_fmtOwn h1 F hr hb pass0 he
theorem pe_mkIX {x : Str} {p pos : Pos} {e : Expr} {es : List Expr} {t : TA} (D : DfIX X.prog X.w X.K X.mg X.base x C ps k sp) (hr : Room (k + 1) X.A) (hg : Gl X x) (tk : Takes X (fun cls d _ H => E cls d H)) (ha : PA X (e :: es) t) (hdb : (x == ("__debug__" : Str)) = false := by decide)
    (he : starEach (e :: es) X.env = (false, eval e X.env) :: starEach es X.env := by rfl) (hpl : (backTo pos (starEach es X.env)).any (·.1) = false := by rfl) : PE X (.Call (.Name x p) (e :: es) [] pos) (tMake C sp [] E t) := by
  obtain ⟨f, fd, M, hm, hb, F⟩ := D
  exact pe_make M F hr hg hm hb .nil (passes_call tk fun _ _ _ _ h => h) ha hdb he hpl
end
end Kz
namespace Kz
open PySem PySem.Spec PyProof.Rows L2 Evl StX
def IteT (x : Str) : It :=
  ⟨fun i _ => i < x.cps.size, fun i H v H' => ∃ T c, v = .ref T ∧ H T = none ∧ H' = upd H T (.tup [.int (i : Nat), .str ⟨#[c]⟩]) ∧ x.cps[i]? = some c, fun i _ => i = x.cps.size⟩
theorem turn_enumT {P : Program} {w : World} {K : PySem.W.Frag} {elts : List Expr} {kk : Nat} {tpos : Pos} (x : Str) (t : Tok) (e it : Addr) :
    Turn P w K (.Tuple elts kk tpos) (IteT x) [e, it] e (fun i h => (∃ old, IsEnum h e it ((i : Nat) : Int) old) ∧ h.IsStrIter it (strIterType x) x t i ∧ e ≠ it) where
  mem := by simp
  obj := fun i h st b hb => by
    obtain ⟨⟨old, he⟩, ⟨o, ho, hc, hd⟩, _⟩ := st
    have e' : b = e ∨ b = it := by simpa using hb
    rcases e' with z | z
    · rw [z]; exact ⟨_, he, fun v q => nomatch q⟩
    · rw [z]; exact ⟨o, ho, fun v q => by rw [hd] at q; cases q⟩
  keep := fun i h h' st k => let ⟨⟨old, he⟩, ⟨o, ho, r⟩, hne⟩ := st; ⟨⟨old, k e (by simp) _ he⟩, ⟨o, k it (by simp) o ho, r⟩, hne⟩
  item := by
    intro X hP hw hK hc i pins s σ H E I hf st hg
    subst hP hw hK
    obtain ⟨⟨old, he⟩, hit, hne⟩ := st
    have hlt : i < x.cps.size := hg
    have hel : e < s.heap.objs.size := Heap.lt_size he
    have hil : it < s.heap.objs.size := by obtain ⟨_, q, _⟩ := hit; exact Heap.lt_size q
    have D := Draws.text (prog := X.prog) (w := X.w) (A := X.A.in1) (I.ok.hd hc) it x t
    refine wpAny_pyNext_enum_itemC D he hit hlt hne (by simpa using hne) fun u h' tk hu ho hit' hT hsz hk => ?_
    obtain ⟨c, tu, hx, rfl⟩ := hu
    refine ⟨_, rfl, wpAny_letOwnedTupleGo_enum (s := { s with heap := h', toks := tk + 1 }) ho fun h'' he' sb => ?_⟩
    have hT2 : h''.get? s.heap.objs.size = some { cls := .type "tuple", data := .seq #[.int i tk, .str ⟨#[c]⟩ tu] } := (sb.2 _ (Nat.ne_of_gt hel)).trans hT
    have new : ObjOk X.prog X.w (upd H s.heap.objs.size (.tup [.int (i : Nat), .str ⟨#[c]⟩])) h'' s.heap.objs.size (.tup [.int (i : Nat), .str ⟨#[c]⟩]) :=
      ⟨by show 2 ≤ sizeLine; decide, [.int i tk, .str ⟨#[c]⟩ tu], .cons ⟨_, rfl⟩ (.cons ⟨_, rfl⟩ .nil), ⟨_, hT2, rfl, _, rfl⟩⟩
    have I1 : Inv X pins σ (upd H s.heap.objs.size (.tup [.int (i : Nat), .str ⟨#[c]⟩])) { s with heap := h'', toks := tk + 1 } :=
      I.turnedNew (t' := tk + 1) (ch := [e, it]) (fun b ob hb q => (sb.2 b (fun z => hb (by simp [z]))).trans (hk b ob (fun z => hb (by simp [z])) (fun z => hb (by simp [z])) q)) hf (Nat.le_refl _) new
    refine ⟨.ref s.heap.objs.size, _, I1, rfl, ⟨_, c, rfl, I.hok.fresh (Nat.le_refl _), rfl, hx⟩, ⟨⟨.str ⟨#[c]⟩ tu, ?_⟩, ?_, hne⟩, fun b hb => ?_⟩
    · have e1 : ((i + 1 : Nat) : Int) = (i : Int) + 1 := by omega
      rw [e1]; exact he'
    · obtain ⟨o, ho2, r⟩ := hit'
      exact ⟨o, (sb.2 it (Ne.symm hne)).trans ho2, r⟩
    · have hb' : b < s.heap.objs.size := by
        have e' : b = e ∨ b = it := by simpa using hb
        rcases e' with z | z
        · rw [z]; exact hel
        · rw [z]; exact hil
      rw [upd_ne (Nat.ne_of_lt hb')]
      exact (hf b hb).1
  done := by
    intro X hP hw hK hc i pins s σ H E I hf st hg
    subst hP hw hK
    obtain ⟨⟨old, he⟩, hit, hne⟩ := st
    have hge : i = x.cps.size := hg
    subst hge
    obtain ⟨f0, f1, f2, f3, f4, f5⟩ := hf it (by simp)
    have D := Draws.text (prog := X.prog) (w := X.w) (A := X.A.in1) (I.ok.hd hc) it x t
    exact wpAny_pyNext_enum_endD D he hit fun h' eb => ⟨rfl, I.turned (t' := s.toks) (fun b o hb q => eb b o hb q) f0 f1 f3 f4 f5⟩
  self := fun A i s Q E st h => let ⟨⟨_, he⟩, _⟩ := st; wpAny_pyIter_enum he h
def iEnumT (ta : TA) : TI := fun σ H R => ta σ H fun vs H1 => ∃ x, vs = [.str x] ∧ R (IteT x) H1
theorem pi_enumT {X : Cx} {e : Expr} {ta : TA} {p pos tpos : Pos} {elts : List Expr} {kk : Nat} (hg : Gl X "enumerate") (hm : X.mg "enumerate" = none) (ha : PA X [e] ta) (hs : starEach [e] X.env = [(false, eval e X.env)] := by rfl) :
    PI X (.Tuple elts kk tpos) (.Call (.Name "enumerate" p) [e] [] pos) (iEnumT ta) := by
  refine ⟨fun pins s σ H R I h => ?_⟩
  refine Call_ (ld_blt I hg hm boot_enumerate (PyProof.Rows.callWith_type1 (thn (ha.run pos pins s σ H _ I h) fun us s1 ⟨vs, H1, I1, r1, q1⟩ => ?_) hs rfl))
  obtain ⟨x, ex, q⟩ := q1
  subst ex
  cases r1 with
  | cons r rr =>
    cases rr
    obtain ⟨t, rfl⟩ := r
    refine call_enumerate_str fun h' he hit hsz hk => wpAny_pyIter_enum he ?_
    have I2 : Inv X pins σ H1 { s1 with heap := h' } := I1.kept (t' := s1.toks) hk
    refine ⟨s1.heap.objs.size + 1, [s1.heap.objs.size + 1, s1.heap.objs.size], _, _, H1, rfl, I2, turn_enumT x t (s1.heap.objs.size + 1) s1.heap.objs.size, ⟨⟨.none, he⟩, hit, Nat.succ_ne_self _⟩, fun b hb => ?_, q⟩
    have e' : b = s1.heap.objs.size + 1 ∨ b = s1.heap.objs.size := by simpa using hb
    have hle : s1.heap.objs.size ≤ b := by
      rcases e' with z | z
      · rw [z]; exact Nat.le_add_right _ _
      · rw [z]; exact Nat.le_refl _
    exact I1.fpOk hle (I1.hok.fresh hle)
theorem walkET {x : Str} {G : Hp → Prop} (up : ∀ H T o, G H → H T = none → G (upd H T o)) : Walk (IteT x) x.cps.size G (fun i H v H' => ∃ T c, v = .ref T ∧ H T = none ∧ H' = upd H T (.tup [.int (i : Nat), .str ⟨#[c]⟩]) ∧ x.cps[i]? = some c) :=
  ⟨fun i H hi q => hi, fun H q => rfl, fun i H v H' hi q y => y⟩
section
variable {σ : L2.St} {H : Hp} {te : TE} {D : Ends} {tu tz : TS} {K : PySem.W.Frag}
/-- for i, c in enumerate(text) -/
theorem q_forET {z : Str} {j k : Nat} (h : Ev te σ H (.str z)) (Pv : Nat → L2.St → Hp → Prop) (h0 : ∀ H1, Ex H H1 → Pv 0 σ H1)
    (hs : ∀ i c σ' H' T, z.cps[i]? = some c → Pv i σ' H' → H' T = none → tu { D with nx := Pv (i + 1), ct := Pv (i + 1), bk := tz D } ((σ'.set j (some (.int (i : Int)))).set k (some (.str ⟨#[c]⟩))) (upd H' T (.tup [.int (i : Int), .str ⟨#[c]⟩])))
    (hd : ∀ σ' H', Pv z.cps.size σ' H' → tz D σ' H') : tSeq (tFor (iEnumT (tCons te tNil)) (gTup K 2 (gCons (gName j) (gCons (gName k) gNil))) tu) tz D σ H :=
  h H (Ex.refl H) _ fun H1 e => ⟨z, rfl, for_it (D := { D with nx := tz D }) (walkET (x := z) (G := fun _ => True) fun _ _ _ _ _ => trivial) Pv (h0 H1 e) (fun _ _ _ _ _ => trivial) (fun i x σ' H' H'' hi pc y => by
    obtain ⟨T, c, rfl, hT, rfl, hc⟩ := y
    exact ⟨T, [_, _], rfl, st_of upd_same, rfl, _, _, rfl, _, _, rfl, rfl, hs i c σ' H' T hc pc hT⟩) hd⟩
end
theorem pe_startswith {X : Cx} {o e : Expr} {to te : TE} {apos pos : Pos} (ho : PE X o to) (he : PE X e te) (hs : starEach [e] X.env = [(false, eval e X.env)] := by rfl) (hbase : attributeBase o "startswith" X.env (eval o X.env) = eval o X.env := by rfl) (hline : (apos.endLine == pos.line) = true := by rfl) :
    PE X (.Call (.Attribute o "startswith" apos) [e] [] pos) (tM1 (fun x xs H Q => ∃ a b, x = .str a ∧ xs = [.str b] ∧ Q (.bl (Txt.startswith a b)) H) to te) := pe_m1 F.slot_str_startswith F.type_str_startswith mt_startswith ho he hs hbase hline
theorem pe_endswith {X : Cx} {o e : Expr} {to te : TE} {apos pos : Pos} (ho : PE X o to) (he : PE X e te) (hs : starEach [e] X.env = [(false, eval e X.env)] := by rfl) (hbase : attributeBase o "endswith" X.env (eval o X.env) = eval o X.env := by rfl) (hline : (apos.endLine == pos.line) = true := by rfl) :
    PE X (.Call (.Attribute o "endswith" apos) [e] [] pos) (tM1 (fun x xs H Q => ∃ a b, x = .str a ∧ xs = [.str b] ∧ Q (.bl (Txt.endswith a b)) H) to te) := pe_m1 F.slot_str_endswith F.type_str_endswith mt_endswith ho he hs hbase hline
theorem call_tuple_ofK {X : Cx} (K : PySem.W.Frag) (e : X.K = K) : CallR X (.type "tuple") (fun xs H Q => ∃ p ys, xs = [.ref p] ∧ ((SqL K H p ys ∧ ∀ l, H l = none → Q (.ref l) (upd H l (.tup ys))) ∨ (SqT K H p ys ∧ Q (.ref p) H))) := e ▸ call_tuple_of
/-- x(*xs), x a class with a starred __init__ -/
theorem pe_mkS1 {X : Cx} {C : Addr} {k : Nat} {sp : Sp} {x : Str} {e : Expr} {te : TE} {p sp_ pos : Pos} (D : DfS X.prog X.w X.K X.mg X.base x C k sp) (hr : Room (k + 1) X.A) (hg : Gl X x) (he : PE X e te) (hdb : (x == ("__debug__" : Str)) = false := by decide)
    (hst : starEach [.Starred e sp_] X.env = [(true, eval e X.env)] := by rfl) : PE X (.Call (.Name x p) [.Starred e sp_] [] pos) (tMakeR C sp E0 (tStar X.K te tNil)) := by
  obtain ⟨f, M, hm, F⟩ := D
  refine ⟨fun pins s σ H Q I h => ?_⟩
  refine wpAny_Call_Name_kw (ld_glob I hg hm ?_ hdb)
  refine PySem.W.callWith_S (h₀ := X.base) I.ok.mod.kin M.kp (thn (he.run pins s σ H _ I h) fun v s1 ⟨y, H1, I1, ry, a, xs, ey, hxs, q⟩ => ?_) hst
  subst ey
  obtain rfl : v = Value.ref a := ry
  exact star_any I1 hxs fun us s2 I2 rv => ⟨I2.kIn, run_makeR M F hr pass0 I2 rv (by
    simp only [tNil, List.append_nil] at q
    exact q)⟩
end Kz
namespace Kz
open PySem PySem.Spec PyProof.Rows L2 StX
/-! ### C(e, ..), its context None -/
theorem pmkN {X : Cx} {CX : CXT} {ds : List Value} {dvs : List V} {x : Str} {C fI : Addr} {k : Nat} {fd : FuncData} {ps : List Str} {sp : Sp} {e : Expr} {es : List Expr} {ta : TA} {p pos : Pos} (T : OexC X.K C) (iC : PySem.W.findIn X.K (.ref C) "__init__" = some (some (.ref fI))) (tI : PySem.W.typeIn X.K (.ref fI) = some (.type "function"))
    (F1 : FnOk X.prog X.w X.K X.mg X.base CX k fI fd ps sp) (hr : Room (k + 1) X.A) (hb : Binds X.K fd ps ds) (hd : Vals dvs ds) (hx : Passes CX X (fun _ _ _ => False)) (hg : Gl X x) (hm : X.mg x = some (.ref C)) (ha : PA X (e :: es) ta)
    (hdb : (x == ("__debug__" : Str)) = false := by decide) (he : starEach (e :: es) X.env = (false, eval e X.env) :: starEach es X.env := by rfl) (hpl : (backTo pos (starEach es X.env)).any (·.1) = false := by rfl) :
    L2N.PMk X (.Call (.Name x p) (e :: es) [] pos) (tMkO C sp dvs ta) := by
  intro pn st sl Hp0 QX I hh
  obtain ⟨nm, qn, Nn, bb, bm, sn, su, ab, co, dd, m0, m1, m2, m3, m5, hC, hbm⟩ := T.cls
  refine wpAny_Call_Name_kw (ld_glob I hg hm ?_ hdb)
  refine PySem.W.callWith_K (h₀ := X.base) I.ok.mod.kin T.kC (thn (ha.run pos pn st sl Hp0 _ I hh) fun us s1 hv => ?_) he hpl
  obtain ⟨vs, H1, I1, r1, hz, q1⟩ := hv
  refine ⟨I1.kIn, ?_⟩
  show wpAny _ _ (call (.ref C) us) _ _ _
  obtain ⟨hp, gg, dr, tk, os⟩ := s1
  have z1 : hp.objs.size ≤ hp.objs.size + 1 := Nat.le_succ _
  have hn : H1 (hp.objs.size + 1) = none := I1.hok.fresh z1
  have hq := q1 (hp.objs.size + 1) hn
  have keep : ∀ b o, hp.get? b = some o → ((hp.push (PySem.W.kdv_tup us)).push (PySem.HandSPX.excO C hp.objs.size)).get? b = some o := fun b o z => Heap.get?_push_of_some _ (Heap.get?_push_of_some _ z)
  have there : ((hp.push (PySem.W.kdv_tup us)).push (PySem.HandSPX.excO C hp.objs.size)).get? (hp.objs.size + 1) = some (PySem.HandSPX.excO C hp.objs.size) := by heap_get
  have J := I1.laid (t' := tk) (a := hp.objs.size + 1) (o := exo (hp.objs.size + 1) C none) (h' := (hp.push (PySem.W.kdv_tup us)).push (PySem.HandSPX.excO C hp.objs.size)) keep z1 (exo_ok there)
  have rr : Vals (V.ref (hp.objs.size + 1) :: (vs ++ dvs)) (Value.ref (hp.objs.size + 1) :: (us ++ ds)) := .cons rfl (r1.append hd)
  have ll : (Value.ref (hp.objs.size + 1) :: us ++ ds).length = ps.length := by
    have z := rr.length
    rw [F1.len _ _ _ _ hq] at z
    exact z.symm
  refine wpAny_call (PySem.HandSPX.call_own F.excBase_ValueError (fun Y => PySem.HandSPX.refsVE_contains Y bm hbm) (I1.kIn _ _ hC) (PySem.W.looks_findIn I1.kIn iC) (fun self => PySem.W.bind_fn I1.kIn self tI) (by rw [← Paired.length r1, sizeLine_eq]; omega)
    (codeAny_mono (F1.run _ X.stack _ _ ⟨Value.ref (hp.objs.size + 1) :: us, []⟩ (Value.ref (hp.objs.size + 1) :: (us ++ ds)) _ _ (fun _ _ _ => False) (hr.make C us []) (J.env0.make C us []) (hb _ (Value.ref (hp.objs.size + 1) :: us) J.kIn ll) rr hq) fun z s' hz' => ?_))
  match z, hz' with
  | .error er, w' => exact hx pn sl _ _ er s' J w'
  | .ok .next, w' => exact False.elim w'
  | .ok .brk, w' => exact False.elim w'
  | .ok .cont, w' => exact False.elim w'
  | .ok (.ret u), w' =>
    obtain ⟨v, H2, os2, bare2, un2, hok2, rv, ev, d, fs, ea, ed, hd1, q2⟩ := w'
    subst ev
    obtain ⟨h2, g2, d2, t2, os'⟩ := s'
    obtain ⟨t0, G, J2, kG, ge, hoe, na⟩ := mk_end0 (d2 := d2) (t2 := t2) I1 z1 keep un2 hok2 os2 bare2 ea ed hd1
    exact ⟨rv, hp.objs.size + 1, _, _, ⟨G, g2, d2, t2, os'⟩, _, .ref C, some d, rfl, J2, kG, ge, hoe, ⟨rfl, rfl, fun ws hw => by cases hw; rfl⟩, rfl, rfl, na, rfl, bare2, raises_own T.exC T.tyC, q2⟩
/-- a caller's word of such an exception, over a heap with more in it -/
theorem cxUpN {P : Program} {w : World} : CXUp (L2N.CX P w) := by
  intro out s H s2 H2 E e s' un kp ho hc
  obtain ⟨a, B, H', c, d, ea, fl, hok, ub, na, os, ag, he⟩ := hc
  have nx : ∀ b : Addr, b ∉ ([] : List Addr) := by simp
  refine ⟨a, B, H', c, d, ea, fl, hok, ?_, na, os.trans ho, ag, he⟩
  constructor
  case keep => exact fun b o q n hb => ub.keep b o (kp b o q) (un.free b o q n (nx b)) hb
  case slot => exact fun b o q hb => ub.slot b o (kp b o q) hb
  case free => exact fun b o q n => ub.free b o (kp b o q) (un.free b o q n (nx b))
  case there => exact fun b o q hb => ub.there b o (kp b o q) hb
  case tups => exact fun b xs q => ub.tups b xs (un.tups b xs q)
  case frzs => exact fun b o xs q => ub.frzs b o xs (un.frzs b o xs q)
  case tbls =>
    intro b ps q
    obtain ⟨more1, e1⟩ := un.tbls b ps q
    obtain ⟨more2, e2⟩ := ub.tbls b _ e1
    exact ⟨more1 ++ more2, by rw [e2, Array.append_assoc]⟩
theorem takesN {X : Cx} {W : WX} (tk : L2.Takes X W) : L2N.Takes X W := fun u s' ⟨a, B, sI, pins, σ, H, cls, d, e, I, nb, up, sky, na, os, ag, w⟩ =>
  tk u s' ⟨a, B, sI, pins, σ, H, cls, d, e, I, nb, up, by
    rcases sky with ⟨k1, k2, k3, oe, vs, k4, k5, k6, k7⟩ | fl | ⟨k1, k2, k3, k4⟩
    · exact .inl ⟨k1, k2, k3, oe, vs, k4, k5.zc, k6, k7⟩
    · exact .inr (.inl (L2H.flyingZ_imp (fun o z => z.zc) fl))
    · exact .inr (.inr ⟨k1, k2, k3, L2H.tracedZ_imp (fun o z => z.zc) k4⟩), na, os, ag, w⟩
/-! ### an object made, the wish told at the slots -/
theorem run_makeS {X : Cx} {CX : CXT} {k : Nat} {f C : Addr} {sp : Sp} {E : XK} {pins : List (Addr × Obj)} {σ : L2.St} {H : Hp} {s : Shared} {Q : VK} {us : List Value} {vs : List V} (M : Mk X.K C f) (F : FnR X.prog X.w X.K X.mg X.base CX k f sp) (hr : Room (k + 1) X.A) (hx : PassesAt CX X σ E) (I : Inv X pins σ H s) (r : Vals vs us)
    (h : ∀ x dx, H x = none → H dx = none → dx ≠ x → sp (V.ref x :: vs) (upd (upd H dx (.own x)) x (.ins C dx [])) (fun v H2 => v = .non ∧ Q (.ref x) H2) E) : wpAny (model X.prog X.w) X.A (call (.ref C) us) (EP X pins σ Q) X.xe s := by
  have J := Inv.made (C := C) I
  have rr : Vals (V.ref (s.heap.objs.size + 1) :: vs) (Value.ref (s.heap.objs.size + 1) :: us) := .cons rfl r
  have hh := h (s.heap.objs.size + 1) s.heap.objs.size (I.hok.fresh (Nat.le_succ _)) (I.hok.fresh (Nat.le_refl _)) (Nat.ne_of_lt (Nat.lt_succ_self _))
  refine wpAny_call (make_map (f := f) I.kIn M.makes M.init (beq_iff_eq.mp M.fn) (codeAny_mono (F _ X.stack _ _ (Value.ref (s.heap.objs.size + 1) :: us) _ _ E (hr.make C us []) (J.env0.make C us []) rr hh) fun z s' hz => ?_))
  match z, hz with
  | .error er, hz => exact hx pins _ _ er s' J hz
  | .ok .next, hz => exact hz.elim
  | .ok .brk, hz => exact hz.elim
  | .ok .cont, hz => exact hz.elim
  | .ok (.ret u), hz =>
    obtain ⟨v, H', I3, rv, ev, q3⟩ := J.after hz
    subst ev
    exact ⟨rv, ⟨V.ref (s.heap.objs.size + 1), H', I3, rfl, q3⟩⟩
def tMakeS (C : Addr) (sp : Sp) (W : WX) (t : TA) : TE := fun σ H Q => tMakeR C sp (WE W σ) t σ H Q
section
variable {X : Cx} {CX : CXT} {k : Nat} {f C : Addr} {sp : Sp} {W : WX} {x : Str} {e : Expr} {es : List Expr} {te : TE} {t : TA} {p sp_ pos : Pos}
theorem pe_makeS (M : Mk X.K C f) (F : FnR X.prog X.w X.K X.mg X.base CX k f sp) (hr : Room (k + 1) X.A) (hg : Gl X x) (hm : X.mg x = some (.ref C)) (hx : ∀ σ, PassesAt CX X σ (WE W σ)) (ha : PA X (e :: es) t) (hdb : (x == ("__debug__" : Str)) = false := by decide)
    (he : starEach (e :: es) X.env = (false, eval e X.env) :: starEach es X.env := by rfl) (hpl : (backTo pos (starEach es X.env)).any (·.1) = false := by rfl) : PE X (.Call (.Name x p) (e :: es) [] pos) (tMakeS C sp W t) := by
  constructor
  intro pins s σ H Q I h
  refine wpAny_Call_Name_kw (ld_glob I hg hm ?_ hdb)
  refine PySem.W.callWith_K (h₀ := X.base) I.ok.mod.kin M.kp (thn (ha.run pos pins s σ H _ I h) fun us s1 hv => ?_) he hpl
  obtain ⟨vs, H1, I1, r, q⟩ := hv
  exact ⟨I1.kIn, run_makeS M F hr (hx σ) I1 r q⟩
theorem pe_makeS1 (M : Mk X.K C f) (F : FnR X.prog X.w X.K X.mg X.base CX k f sp) (hr : Room (k + 1) X.A) (hg : Gl X x) (hm : X.mg x = some (.ref C)) (hx : ∀ σ, PassesAt CX X σ (WE W σ)) (he : PE X e te) (hdb : (x == ("__debug__" : Str)) = false := by decide)
    (hst : starEach [.Starred e sp_] X.env = [(true, eval e X.env)] := by rfl) : PE X (.Call (.Name x p) [.Starred e sp_] [] pos) (tMakeS C sp W (tStar X.K te tNil)) := by
  constructor
  intro pins s σ H Q I h
  refine wpAny_Call_Name_kw (ld_glob I hg hm ?_ hdb)
  refine PySem.W.callWith_S (h₀ := X.base) I.ok.mod.kin M.kp (thn (he.run pins s σ H _ I h) fun v s1 hv => ?_) hst
  obtain ⟨y, H1, I1, ry, a, xs, ey, hxs, q⟩ := hv
  subst ey
  obtain rfl : v = Value.ref a := ry
  refine star_any I1 hxs fun us s2 I2 rv => ⟨I2.kIn, run_makeS M F hr (hx σ) I2 rv ?_⟩
  simp only [tNil, List.append_nil] at q
  exact q
end
/-! ### raise Y(..) from e, e the exception that is handled -/
/-- the heap behind «from c»: field 3 is c, field 4 is True -/
def fromH (h : Heap) (a c : Addr) : Heap := (h.update a (Obj.mapFields (·.setIfInBounds 3 (.ref c)))).update a (Obj.mapFields (·.setIfInBounds 4 (.bool true)))
theorem fromH_at {h : Heap} {a c : Addr} {oe : Obj} {vs : Array Value} (ha : h.get? a = some oe) (hd : oe.data = .fields vs) :
    (fromH h a c).get? a = some ((oe.mapFields (·.setIfInBounds 3 (.ref c))).mapFields (·.setIfInBounds 4 (.bool true))) ∧ ((oe.mapFields (·.setIfInBounds 3 (.ref c))).mapFields (·.setIfInBounds 4 (.bool true))).data = .fields ((vs.setIfInBounds 3 (.ref c)).setIfInBounds 4 (.bool true)) := by
  have d1 := Obj.data_mapFields hd (·.setIfInBounds 3 (.ref c))
  have d2 := Obj.data_mapFields d1 (·.setIfInBounds 4 (.bool true))
  refine ⟨?_, d2⟩
  unfold fromH
  exact Heap.get?_update_self _ (Heap.get?_update_self _ ha (Obj.isFreed_of_fields d1)) (Obj.isFreed_of_fields d2)
theorem fromH_ne {h : Heap} {a b c : Addr} (ne : a ≠ b) : (fromH h a c).get? b = h.get? b := (Heap.get?_update_other _ _ ne).trans (Heap.get?_update_other _ _ ne)
open L2H HotX in
theorem raise_made_from {prog : Program} {w : World} {A : Around} {E : Value → Shared → Prop} {env : Env} {s : Shared} {x c : Sem Value} {Q : Flow → Shared → Prop} {x1 : Addr}
    (h : wpAny (model prog w) A x (fun v s₁ => (∀ Q' : Value → Shared → Prop, Q' (.ref x1) s₁ → wpAny (model prog w) A c Q' E s₁) ∧ ∃ a oe vs cls o1 v1 cls1, v = .ref a ∧ s₁.heap.get? a = some oe ∧ oe.cls = cls ∧ oe.data = .fields vs ∧ vs[1]? = some .none ∧ 4 < vs.size ∧ x1 ≠ a ∧ HotAt A x1 s₁.heap ∧
      s₁.heap.get? x1 = some o1 ∧ o1.cls = cls1 ∧ o1.data = .fields v1 ∧ PySem.W.Looks (model prog w) s₁.heap (isSubtype cls1 (.type "BaseException")) true ∧
      PySem.W.Looks (model prog w) s₁.heap (isSubtype cls (.type "BaseException")) true ∧ PySem.W.Looks (model prog w) (fromH s₁.heap a x1) (typeOf cls) (.type "type") ∧
      E (.ref a) { s₁ with heap := (fromH s₁.heap a x1).update a (Obj.mapFields (·.setIfInBounds 2 (.ref x1))) }) E s) : wpAny (model prog w) A (raiseStmt env (some x) (some c)) Q E s := by
  unfold raiseStmt
  refine wpAny_bind (wpAny_mono h (fun v s1 hv => ?_) fun _ _ z => z)
  obtain ⟨hcs, a, oe, vs, cls, o1, v1, cls1, rfl, ha, hcl, hd, hv1, hi, ne, hot, hx1, hc1, hd1, B1, L1, L3, fin⟩ := hv
  have notype : ∀ {b : Addr} {o : Obj} {ws : Array Value} {t : Shared} {Q' : Bool → Shared → Prop}, t.heap.get? b = some o → o.data = .fields ws → Q' false t → wpAny (model prog w) A (isType (.ref b)) Q' E t := by
    intro b o ws t Q' hb hw hq
    simp only [isType, loadHead]
    refine wpAny_bind (wpAny_loadPart hb ?_)
    rw [hw]
    exact wpAny_pure hq
  have TA : PySem.W.Looks (model prog w) s1.heap (typeOf (.ref a)) cls := fun A Q E s k q => wpAny_typeOf_ref (k _ _ ha) (by rw [hcl]; exact q)
  have TX : PySem.W.Looks (model prog w) s1.heap (typeOf (.ref x1)) cls1 := fun A Q E s k q => wpAny_typeOf_ref (k _ _ hx1) (by rw [hc1]; exact q)
  have IA : PySem.W.Looks (model prog w) s1.heap (isInstance (.ref a) (.type "BaseException")) true := TA.andThen L1
  have IX : PySem.W.Looks (model prog w) s1.heap (isInstance (.ref x1) (.type "BaseException")) true := TX.andThen B1
  -- excFromValue of an exception
  have exv : ∀ {b : Addr} {o : Obj} {ws : Array Value} {m : String} {Q' : Value → Shared → Prop}, s1.heap.get? b = some o → o.data = .fields ws → PySem.W.Looks (model prog w) s1.heap (isInstance (.ref b) (.type "BaseException")) true → Q' (.ref b) s1 → wpAny (model prog w) A (excFromValue (.ref b) m) Q' E s1 := by
    intro b o ws m Q' hb hw L q
    unfold excFromValue isExcClass
    refine wpAny_bind (wpAny_bind (notype hb hw ?_))
    simp only [Bool.false_eq_true, if_false]
    refine wpAny_pure ?_
    simp only [Bool.false_eq_true, if_false]
    refine wpAny_bind (L.here ?_)
    simp only [if_true]
    exact wpAny_pure q
  obtain ⟨ha4, hd4⟩ := fromH_at (c := x1) ha hd
  have k3 := Obj.data_mapFields hd (·.setIfInBounds 3 (.ref x1))
  have ha3 := Heap.get?_update_self (Obj.mapFields (·.setIfInBounds 3 (.ref x1))) ha (Obj.isFreed_of_fields k3)
  have z3 : 3 < vs.size := by omega
  have z4 : 4 < (vs.setIfInBounds 3 (.ref x1)).size := by rw [set_size]; exact hi
  have z2 : 2 < ((vs.setIfInBounds 3 (.ref x1)).setIfInBounds 4 (.bool true)).size := by rw [set_size, set_size]; omega
  have one : ((vs.setIfInBounds 3 (.ref x1)).setIfInBounds 4 (.bool true))[1]? = some Value.none := set_other (by decide) (set_other (by decide) hv1)
  have cl4 : ((oe.mapFields (·.setIfInBounds 3 (.ref x1))).mapFields (·.setIfInBounds 4 (.bool true))).cls = cls := by rw [Obj.cls_mapFields, Obj.cls_mapFields]; exact hcl
  have TA4 : PySem.W.Looks (model prog w) (fromH s1.heap a x1) (typeOf (.ref a)) cls := fun A Q E s k q => wpAny_typeOf_ref (k _ _ ha4) (by rw [cl4]; exact q)
  have hot4 : HotAt A x1 (fromH s1.heap a x1) := by
    obtain ⟨q1, o, ws, q2, q3, q4⟩ := hot
    exact ⟨q1, o, ws, by rw [fromH_ne (Ne.symm ne)]; exact q2, q3, q4⟩
  have rest : wpAny (model prog w) A (do
      let b ← isType (.ref a)
      if b = true then do
        let e ← holding [.ref a] (raisedFor (.ref a) (.ref a))
        setFlight e none
        raiseNew e
      else do
        let e ← raisedInstance (.ref a)
        setFlight e none
        raiseNew e : Sem Flow) Q E { s1 with heap := fromH s1.heap a x1 } := by
    refine wpAny_bind (notype (t := { s1 with heap := fromH s1.heap a x1 }) ha4 hd4 ?_)
    simp only [Bool.false_eq_true, if_false]
    unfold raisedInstance
    refine wpAny_bind (wpAny_bind (TA4.here (wpAny_bind (L3.here ?_))))
    rw [if_pos (beq_self_eq_true _)]
    refine wpAny_pure ?_
    unfold setFlight
    refine wpAny_bind (wpAny_bind (wpAny_field ha4 hd4 one ?_))
    rw [if_neg (by decide)]
    exact wpAny_pure (raiseNew_hot hot4 ne ha4 hd4 z2 fin)
  refine wpAny_bind (wpAny_holding (hcs _ (wpAny_bind (wpAny_pure ?_))))
  dsimp only
  refine wpAny_bind (wpAny_holding (exv ha hd IA ?_))
  first
  | rw [if_neg (show ¬ ((Value.ref x1 == Value.none) = true) from by simp)]
  | simp only [show (Value.ref x1 == Value.none) = false from rfl, Bool.false_eq_true, if_false]
  first
  | refine wpAny_bind (wpAny_holding (exv hx1 hd1 IX (wpAny_bind (wpAny_setField ha hd z3 (wpAny_bind (wpAny_setField ha3 k3 z4 ?_))))))
  | refine wpAny_bind (wpAny_bind (wpAny_holding (exv hx1 hd1 IX (wpAny_bind (wpAny_setField ha hd z3 (wpAny_setField ha3 k3 z4 ?_))))))
  | refine wpAny_bind (wpAny_holding (exv hx1 hd1 IX (wpAny_bind (wpAny_bind (wpAny_setField ha hd z3 (wpAny_bind (wpAny_setField ha3 k3 z4 ?_)))))))
  first
  | exact rest
  | (dsimp only; exact rest)
  | (refine wpAny_pure ?_; exact rest)
  | (simp only [bind_pure_comp] ; exact rest)
/-- a local's value, the state as it is -/
def Here (X : Cx) (e : Expr) (i : Nat) : Prop := ∀ (pins : List (Addr × Obj)) (s : Shared) (σ : L2.St) (H : Hp) (a : Addr), Inv X pins σ H s → σ[i]? = some (some (.ref a)) → ∀ (Q : Value → Shared → Prop) (E : Value → Shared → Prop), Q (.ref a) s → wpAny (model X.prog X.w) X.A (eval e X.env) Q E s
theorem here_name {X : Cx} {i : Nat} {x : Str} {pos : Pos} (hN : X.N[i]? = some x) (hk : X.env.kindOf x = some .local) (hd : (x == ("__debug__" : Str)) = false := by decide) : Here X (.Name x pos) i := by
  intro pins s σ H a I hi Q E q
  obtain ⟨m, hn, hl⟩ := I.loc
  obtain ⟨u, r, l⟩ := hl i x _ hN hi (.inl hk)
  cases (show u = Value.ref a from r)
  rcases l with ⟨h1, hm⟩ | ⟨h1, _⟩
  · exact wpAny_Name (wpAny_loadName_local I.ok.kind h1 hn hm q) hd
  · rw [hk] at h1
    rcases h1 with h1 | h1 <;> cases h1
open L2H HotX in
theorem ps_raiseHF {X : Cx} {W : WX} {e ce : Expr} {t : L2.St → Hp → XK → Prop} {i : Nat} {p : Addr × Obj} {pos : Pos} {c1 : Value} (hot : Hot1 X.A p) (hp : p ∈ X.pn) (hc1 : p.2.cls = c1) (hr1 : Raises X c1) (tk : L2.Takes X W) (he : PMk5 X e t) (hce : Here X ce i) :
    PS X (.Raise (some e) (some ce) pos) (fun _ σ H => σ[i]? = some (some (.ref p.1)) ∧ t σ H fun cls d H' => W cls d σ H') := by
  refine ⟨fun pins s σ H D I h => ?_⟩
  obtain ⟨hi, h⟩ := h
  obtain ⟨hh, v1, e1, cc⟩ := hot
  show wpAny _ _ (do standAt pos; raiseStmt X.env (some (do let v ← eval e X.env; standAt pos; pure v)) (some (do let v ← eval ce X.env; standAt pos; pure v))) _ _ _
  refine wpAny_bind (wpAny_standAt (raise_made_from (x1 := p.1) (wpAny_bind (wpAny_mono (he pins s σ H _ I h) (fun u s1 hu => wpAny_bind (wpAny_standAt (wpAny_pure ?_))) fun _ _ z => z))))
  obtain ⟨⟨a, oe, vs, sI, H', cls, d, rfl, J, k, hne, ha, hz, hd, h1, na, os, ag, r, q⟩, h5⟩ := hu
  have h4 : 4 < vs.size := h5 a oe vs rfl ha hd
  have P1 := (J.pin p (List.mem_append_left _ hp)).1
  have nap : p.1 ≠ a := fun z => by
    rw [z, hne] at P1
    cases P1
  have k4 : ∀ b u, sI.heap.get? b = some u → (fromH s1.heap a p.1).get? b = some u := fun b u z => by
    rw [fromH_ne (fun y => by rw [← y, hne] at z; cases z)]
    exact k b u z
  obtain ⟨r1, _⟩ := r (model X.prog X.w) s1.heap (J.kIn.keeps k)
  obtain ⟨_, r2⟩ := r (model X.prog X.w) (fromH s1.heap a p.1) (J.kIn.keeps k4)
  obtain ⟨r3, _⟩ := hr1 (model X.prog X.w) s1.heap (J.kIn.keeps k)
  obtain ⟨ha4, hd4⟩ := fromH_at (c := p.1) ha hd
  have hd5 := Obj.data_mapFields hd4 (·.setIfInBounds 2 (Value.ref p.1))
  have g12 : (((vs.setIfInBounds 3 (.ref p.1)).setIfInBounds 4 (.bool true)).setIfInBounds 2 (Value.ref p.1))[1]? = some Value.none := set_other (by decide) (set_other (by decide) (set_other (by decide) h1))
  -- the local is read over the heap with the new exception in it
  have J1 : Inv X pins σ H' s1 := J.call' (ch := []) os (Un.kept k) (J.hok.kept k) ag (fun b z => absurd z (by simp))
  refine ⟨fun Q' q' => wpAny_bind (hce pins s1 σ H' p.1 J1 hi _ _ (wpAny_bind (wpAny_standAt (wpAny_pure q')))), a, oe, vs, cls, p.2, v1, c1, rfl, ha, hz.1, hd, h1, h4, nap, ⟨hh, p.2, v1, k _ _ P1, e1, cc⟩, k _ _ P1, hc1, e1, r3, r1, r2, tk _ _ (XE.new J (fun b u z => ?_) hne (Heap.get?_update_self _ ha4 (Obj.isFreed_of_fields hd5)) ⟨?_, ?_⟩ hd5 g12 na os ag q)⟩
  · show ((fromH s1.heap a p.1).update a (Obj.mapFields (·.setIfInBounds 2 (.ref p.1)))).get? b = some u
    rw [Heap.get?_update_other _ _ (fun y => by rw [← y, hne] at z; cases z)]
    exact k4 b u z
  · rw [Obj.cls_mapFields, Obj.cls_mapFields, Obj.cls_mapFields]
    exact hz.1
  · rw [HandSPX.dict_mapFields, HandSPX.dict_mapFields, HandSPX.dict_mapFields]
    exact hz.2.1
/-! ### except x as n, a suite that raises: n goes, the new exception leaves the def -/
theorem frames_any {h h' B : Heap} (k : ∀ b o, h.get? b = some o → (∀ ws, o.data ≠ .fields ws) → ∃ o', h'.get? b = some o' ∧ ∀ ws, o'.data ≠ .fields ws) : ∀ {l : List Env}, h.FunFrames B l → h'.FunFrames B l
  | [], _ => trivial
  | env :: l, z => by
    obtain ⟨z1, ⟨L, o, z2, z3, z4, z5⟩, z6⟩ := z
    obtain ⟨o', w1, w2⟩ := k L o z4 z5
    exact ⟨z1, ⟨L, o', z2, z3, w1, w2⟩, frames_any k z6⟩
theorem held_same {B h h' : Heap} {env : Env} {out : List Env} {a L : Addr} {Z : Obj → Prop} {m : Str → Option Value} (hf : env.frame = some L) (hh : HandSPX.HeldZ B (env :: out) a Z L h) (sb : Heap.SameBut L h h') (hn : h'.Ns L m) : HandSPX.HeldZ B (env :: out) a Z L h' := by
  obtain ⟨k1, k2, k3, oe, vs, T, oT, ts, t1, t2, t3, t4, t5, t6, t7, t8, t9⟩ := hh
  obtain ⟨nB, oL, gL, dL⟩ := k3.mem (b := L) (List.mem_filterMap.mpr ⟨env, List.mem_cons_self, hf⟩)
  have nrec : ∀ {b : Addr} {o : Obj} {ws : Array Value}, h.get? b = some o → o.data = .fields ws → b ≠ L := fun {b o ws} g d z => by
    rw [z, gL] at g
    cases g
    exact dL ws d
  refine ⟨fun b o g => ?_, k2, frames_any (fun b o g d => ?_) k3, oe, vs, T, oT, ts, (sb.2 a (nrec t1 t3)).trans t1, t2, t3, t4, t5, t6, (sb.2 T (nrec t7 t8)).trans t7, t8, t9⟩
  · have nb : b ≠ L := fun z => by
      rw [z, nB] at g
      cases g
    exact (sb.2 b nb).trans (k1 b o g)
  · by_cases hb : b = L
    · subst hb
      obtain ⟨o', es, ep, g', d', _⟩ := hn
      exact ⟨o', g', fun ws z => by rw [d'] at z; cases z⟩
    · exact ⟨o, (sb.2 b hb).trans g, d⟩
theorem sky_note {M : Model} {A : Around} {E₁ : Value → Shared → Prop} {env : Env} {out : List Env} {B : Heap} {L a : Addr} {cls : Value} {d : Option Addr} {s : Shared} {Q : Unit → Shared → Prop} (hfr : A.frames = some (env :: out)) (hf : env.frame = some L) (x : L2.Sky B (env :: out) a (Zc cls d) L s.heap)
    (hQ : ∀ h', HandSPX.HeldZ B (env :: out) a (Zc cls d) L h' → s.heap.UpToSlots h' → Q () { s with heap := h' }) : wpAny M A (noteFrame (.ref a) env) Q E₁ s := by
  rcases x with ⟨x1, x2, x3, oe, vs, x4, x5, x6, x7⟩ | fl | hh
  · exact HandSPX.look_newZ Zc.steady hfr x3 hf x4 x1 x2 x6 x7 x5 hQ
  · exact HandSPX.looks_onZ Zc.steady hfr hf fl hQ
  · exact HandSPX.againZ hf hh.2.2.2 (hQ s.heap hh (Heap.UpToSlots.refl _))
theorem held_on {M : Model} {A : Around} {E₁ : Value → Shared → Prop} {B : Heap} {l : List Env} {L a : Addr} {Z : Obj → Prop} {s : Shared} {Q : Unit → Shared → Prop} (hh : HandSPX.HeldZ B l a Z L s.heap) (hQ : ∀ h', HandSPX.HeldZ B l a Z L h' → s.heap.UpToSlots h' → Q () { s with heap := h' }) :
    wpAny M A (setFlight (.ref a) (some L)) Q E₁ s := HandSPX.setFlight_onZ hh hQ
theorem as_leaves {X : Cx} {E : XK} {E₁ : Value → Shared → Prop} {a0 : Addr} {pn : List (Addr × Obj)} {xe1 : Value → Shared → Prop} {n : Str} {pos : Pos} {E2 : Value → Shared → Prop} {u : Value} {s3 : Shared} (hs : X.stack = X.env :: X.outer) (hf : X.env.frame = some X.env.locals) (hex : X.ex = [])
    (hx : X.xe = fun e s' => wpAny (model X.prog X.w) X.A (leaving X.env e) (fun _ s'' => L2.CX X.prog X.w X.outer X.H_0 X.s_0 E e s'') E₁ s') (hl : X.env.kindOf n = some .local)
    (x : L2.XE { X with A := X.A.mark (some (.ref a0)), calm := false, pn := pn, xe := xe1 } (fun cls d _ H => E cls d H) u s3) :
    wpAny (model X.prog X.w) (X.A.mark (some (.ref a0))) (noteFrame u X.env) (fun _ s4 => wpAny (model X.prog X.w) (X.A.mark (some (.ref a0))) (do bindName X.env n .none; unbindBehindTheSuite X.env n pos) (fun _ s5 =>
      wpAny (model X.prog X.w) (X.A.mark (some (.ref a0))) (passOn "try.except-as" u X.env : Sem Flow) (fun _ _ => False) (notedBy (model X.prog X.w) (X.A.mark (some (.ref a0))) X.env (cameBackBy (model X.prog X.w) X.A X.env X.xe)) s5) E2 s4)
      (notedBy (model X.prog X.w) (X.A.mark (some (.ref a0))) X.env (cameBackBy (model X.prog X.w) X.A X.env X.xe)) s3 := by
  obtain ⟨a, B, sI, pins, σ, H, cls, d, rfl, I, nb, up, sky, na, os, ag, w⟩ := x
  have hst : X.A.frames = some X.stack := I.ok.frames
  have hfr : (X.A.mark (some (.ref a0))).frames = some (X.env :: X.outer) := by
    rw [← hs]
    exact I.ok.frames
  have sky : L2.Sky B (X.env :: X.outer) a (Zc cls d) X.env.locals s3.heap := by
    rw [← hs]
    exact sky
  refine sky_note hfr hf sky fun h1 hh1 up1 => ?_
  have J := I.landed (s' := { s3 with heap := h1 }) nb hh1.1 (up.trans up1) os ag
  obtain ⟨m, hn, _⟩ := id J.loc
  refine wpAny_nameGoes_keeps hl hn (by rw [show X.env.scope.kind = .function from I.ok.kind]; rfl) fun h2 v hn2 sb => ?_
  have hh2 := held_same hf hh1 sb hn2
  obtain ⟨k1, k2, k3, oe, vs, T, oT, ts, t1, t2, t3, t4, t5⟩ := id hh2
  unfold PySem.passOn
  refine wpAny_bind (wpAny_field t1 t3 t4 ?_)
  rw [if_neg (show ¬ ((Value.ref T == Value.none) = true) from by simp)]
  have fin : ∀ s5 : Shared, s5.heap = h2 → s5.os = s3.os → s5.gens = s3.gens → wpAny (model X.prog X.w) (X.A.mark (some (.ref a0))) (setFlight (.ref a) X.env.frame) (fun _ s6 => wpAny (model X.prog X.w) (X.A.mark (some (.ref a0))) (throw (.ref a) : Sem Flow) (fun _ _ => False) (notedBy (model X.prog X.w) (X.A.mark (some (.ref a0))) X.env (cameBackBy (model X.prog X.w) X.A X.env X.xe)) s6)
      (notedBy (model X.prog X.w) (X.A.mark (some (.ref a0))) X.env (cameBackBy (model X.prog X.w) X.A X.env X.xe)) s5 := by
    intro s5 e5 eo eg
    rw [hf]
    refine held_on (s := s5) (by rw [e5]; exact hh2) fun h3 hh3 up3 => wpAny_throw (L2H.passesAt_of hx (some (.ref a0)) _ _ ?_)
    rw [hx]
    refine HandSPX.leaves_heldZ hf hh3 fun h4 fl4 up4 => ?_
    have nst : ∀ b o, X.s_0.heap.get? b = some o → b ∉ X.fs → b ∉ frs X.stack := fun b o g hb hm => by
      rcases List.mem_cons.mp (I.stkSub b hm) with z | z
      · have l1 := Heap.lt_size g
        have l2 : X.s_0.heap.objs.size ≤ X.env.locals := I.ok.above
        rw [z] at l1
        exact absurd (Nat.lt_of_lt_of_le l1 l2) (Nat.lt_irrefl _)
      · exact hb z
    have nex : ∀ b : Addr, b ∉ X.ex := fun b hb => by
      rw [hex] at hb
      cases hb
    refine ⟨a, B, H, cls, d, rfl, fl4, I.inGround nb, ?_, na, ?_, ?_, w⟩
    · constructor
      case keep => exact fun b o g n hb => nb b o (I.base.keep b o g n hb (nex b)) (nst b o g hb)
      case free => exact fun b o g n => I.base.free b o g n (nex b)
      case tups => exact I.base.tups
      case frzs => exact I.base.frzs
      case tbls => exact I.base.tbls
      case there =>
        intro b o g hb
        obtain ⟨o', g1⟩ := I.base.there b o g (nex b)
        exact ⟨o', nb b o' g1 (nst b o g hb)⟩
      case slot =>
        intro b o g hb
        obtain ⟨_, o0, g0, hnf⟩ := I.ok.funs.mem hb
        rw [g] at g0
        cases g0
        have nL : b ≠ X.env.locals := Nat.ne_of_lt (Nat.lt_of_lt_of_le (Heap.lt_size g) I.ok.above)
        obtain ⟨s1, g1⟩ := I.base.slot b o g (I.ok.frf b hb) hb (nex b)
        obtain ⟨s2, g2⟩ := up b _ g1 hnf
        obtain ⟨s3', g3⟩ := up1 b _ g2 hnf
        have g4 : h2.get? b = some { o with slots := s3' } := (sb.2 b nL).trans g3
        obtain ⟨s5', g5⟩ := up3 b { o with slots := s3' } (by rw [e5]; exact g4) hnf
        obtain ⟨s6, g6⟩ := up4 b _ g5 hnf
        exact ⟨s6, g6⟩
    · show s5.os = X.s_0.os
      rw [eo, os]
      exact I.os
    · show AllBare s5.gens
      rw [eg]
      exact ag
  first
    | exact wpAny_bind (wpAny_pure (wpAny_bind (fin _ rfl rfl rfl)))
    | exact wpAny_bind (fin _ rfl rfl rfl)
/-- the suite's ends: none but by an exception -/
def dead : Ends := { nx := fun _ _ => False, rt := fun _ _ => False, bk := fun _ _ => False, ct := fun _ _ => False }
def wAsX (K : PySem.W.Frag) (c : Value) (i : Nat) (ts : Addr → Value → Option Addr → TS) : WX := fun cls d σ H => PySem.W.exmOne K cls c = some true ∧ ∀ a, H a = none → ts a cls d dead (σ.set i (some (.ref a))) H
/-- try: body, except x as n: a suite that raises; the body raises what the clause names -/
theorem ps_try_asX {X : Cx} {E : XK} {E₁ : Value → Shared → Prop} {x n : Str} {c : Value} {i : Nat} {body suite : List Stmt} {b₀ : Stmt} {np pos pos' : Pos} {tb : WX → TS} {ts : Addr → Value → Option Addr → TS} (hs : X.stack = X.env :: X.outer) (hf : X.env.frame = some X.env.locals) (hex : X.ex = [])
    (hx : X.xe = fun e s' => wpAny (model X.prog X.w) X.A (leaving X.env e) (fun _ s'' => L2.CX X.prog X.w X.outer X.H_0 X.s_0 E e s'') E₁ s') (hN : X.N.Nodup) (hi : X.N[i]? = some n) (hl : X.env.kindOf n = some .local) (hc : Names X x c)
    (hb : ∀ (W : WX) (pn : List (Addr × Obj)) (xe : Value → Shared → Prop), L2N.Takes (X.tr pn xe) W → PSs (X.tr pn xe) body (tb W))
    (hsu : ∀ (a : Addr) (oe : Obj) (cls : Value) (d : Option Addr) (pn : List (Addr × Obj)) (xe : Value → Shared → Prop), L2N.Zn cls d oe → (∃ vs, oe.data = .fields vs) → L2.Takes { X with A := X.A.mark (some (.ref a)), calm := false, pn := (a, oe) :: pn, xe := xe } (fun cls d _ H => E cls d H) →
      L2H.Hot1 (X.A.mark (some (.ref a))) (a, oe) → PSs { X with A := X.A.mark (some (.ref a)), calm := false, pn := (a, oe) :: pn, xe := xe } (b₀ :: suite) (ts a cls d)) :
    PS X (.Try body [.ExceptHandler (some (.Name x np)) (some n) (b₀ :: suite) pos'] [] [] pos) (fun D σ H => tb (wAsX X.K c i ts) D σ H) := by
  refine ⟨fun pins s σ H D I h => ?_⟩
  have ok := I.ok
  have hfr : X.A.frames = some (X.env :: X.outer) := by rw [ok.frames, hs]
  refine wpAny_Try_except ?_
  refine wpAny_mono ((hb (wAsX X.K c i ts) (X.pn ++ pins) _ (fun u s' xx => ?_)).run [] s σ H D (I.toTry _) h) (fun f s1 hsp => ?_) (fun e s1 he => he)
  · obtain ⟨a, B, sI, pins', σ', H', cls, d, rfl, J', nb, up, sky, na, os, ag, yes, go⟩ := xx
    have J : Inv X pins σ' H' sI := J'.ofTry ok
    have sky' : L2.Sky B (X.env :: X.outer) a (L2N.Zn cls d) X.env.locals s'.heap := by
      rw [← hs]
      exact sky
    show wpAny (model X.prog X.w) X.A (noteFrame (.ref a) X.env) _ _ _
    refine L2N.Sky.land L2N.Zn.steady hfr hf sky' fun h3 fl3 up3 => ?_
    have J3 : Inv X pins σ' H' { s' with heap := h3 } := J.landed nb fl3.1 (up.trans up3) os ag
    obtain ⟨o3, v3, g3, z3, d3⟩ := fl3.there
    have out : a ∉ frs (X.env :: X.outer) := fun hm => by
      obtain ⟨_, o', e', q⟩ := fl3.2.2.1.mem hm
      rw [g3] at e'
      cases e'
      exact q _ d3
    have nL : a ≠ X.env.locals := fun z => out (List.mem_filterMap.mpr ⟨X.env, List.mem_cons_self, by rw [hf, z]⟩)
    have nF : a ∉ X.fs := fun hm => out (by
      obtain ⟨e, he, q⟩ := List.mem_filterMap.mp hm
      exact List.mem_filterMap.mpr ⟨e, List.mem_cons_of_mem _ he, q⟩)
    have S3 := J3.suite g3 d3 na nL nF
    refine wpAny_handleBy_cons (codeAny_handlers_test ?_) (by intro q; cases q)
    have LT : PySem.W.Looks (model X.prog X.w) h3 (typeOf (.ref a)) cls := fun A Q E s k q => wpAny_typeOf_ref (k _ _ g3) (by rw [z3.1]; exact q)
    have LM := PySem.W.exm_one (M := model X.prog X.w) J3.kIn LT yes
    have test : ∀ {Q : Value → Shared → Prop} {E : Value → Shared → Prop}, Q c { s' with heap := h3 } → wpAny (model X.prog X.w) (X.A.mark (some (.ref a))) (eval (.Name x np) X.env) Q E { s' with heap := h3 } := fun {Q E} q => by
      obtain ⟨hg, hdb, hm | ⟨hm, hv, hnn⟩⟩ := hc
      · exact ld_glob (X := X.suite a ((a, o3) :: (X.pn ++ pins))) S3 hg hm q hdb
      · exact ld_blt (X := X.suite a ((a, o3) :: (X.pn ++ pins))) S3 hg hm hv q hnn hdb
    refine test (LM.here ?_)
    refine codeAny_handlers_suite_as ?_
    refine HandSPX.lands_againZ fl3 fun h4 fl4 up4 => ?_
    have J4 : Inv X pins σ' H' { s' with heap := h4 } := J.landed nb fl4.1 ((up.trans up3).trans up4) os ag
    obtain ⟨o4, v4, g4, z4, d4⟩ := fl4.there
    have S4 := J4.suite g4 d4 na nL nF
    refine store_ok (X := X.suite a ((a, o4) :: (X.pn ++ pins))) (v := .ref a) S4 hN hi (.inl hl) rfl (fun s5 S5 => ?_) (.inr hl)
    refine wpAny_mono ((hsu a o4 cls d (X.pn ++ pins) _ z4 ⟨_, d4⟩ (fun u6 s6 x6 => as_leaves (E₁ := E₁) hs hf hex hx hl x6) ⟨rfl, v4, d4, z4.2.2 v4 d4⟩).run [] s5 _ H' dead (S5.wish _) (go a na)) (fun f s6 hsp => ?_) (fun e6 s6 z => z)
    cases f with
    | next =>
      obtain ⟨_, _, _, w'⟩ := hsp
      exact w'.elim
    | brk =>
      obtain ⟨_, _, _, w'⟩ := hsp
      exact w'.elim
    | cont =>
      obtain ⟨_, _, _, w'⟩ := hsp
      exact w'.elim
    | ret u =>
      obtain ⟨_, _, _, _, _, w'⟩ := hsp
      exact w'.elim
  · cases f with
    | next =>
      obtain ⟨σ', H', J', q⟩ := hsp
      exact wpAny_execs_nil ⟨σ', H', J'.ofTry ok, q⟩
    | brk =>
      obtain ⟨σ', H', J', q⟩ := hsp
      exact ⟨σ', H', J'.ofTry ok, q⟩
    | cont =>
      obtain ⟨σ', H', J', q⟩ := hsp
      exact ⟨σ', H', J'.ofTry ok, q⟩
    | ret u =>
      obtain ⟨v, σ', H', J', r, q⟩ := hsp
      exact ⟨v, σ', H', J'.ofTry ok, r, q⟩
/-! ### as the texts use them -/
/-- an own class whose starred __init__ may raise exceptions whose context is None -/
def DfSN (P : Program) (w : World) (K : PySem.W.Frag) (mg : Str → Option Value) (base : Heap) (x : Str) (C : Addr) (k : Nat) (sp : Sp) : Prop :=
  ∃ f : Addr, Mk K C f ∧ mg x = some (.ref C) ∧ FnR P w K mg base (L2N.CX P w) k f sp
/-- an own exception's __init__, called while another one is handled -/
def DfHX (P : Program) (w : World) (K : PySem.W.Frag) (mg : Str → Option Value) (base : Heap) (x : Str) (C : Addr) (ps : List Str) (k : Nat) (sp : Sp) : Prop :=
  ∃ (f : Addr) (fd : FuncData), OexC K C ∧ PySem.W.findIn K (.ref C) "__init__" = some (some (.ref f)) ∧ PySem.W.typeIn K (.ref f) = some (.type "function") ∧ mg x = some (.ref C) ∧ Binds K fd ps [] ∧ L2H.FnH P w K mg base CX0 k f fd ps sp
open L2H in
theorem Fun.okH {P : Program} {w : World} {K : PySem.W.Frag} {mg : Str → Option Value} {base : Heap} {x qual : Str} {st : Stmt} {f : Addr} {fd : FuncData} {N ps : List Str} {k : Nat} {sp : Sp} (F : Fun K x qual st f fd) (S : FnScope N ps (defScope st)) (len : ∀ vs H Q E, sp vs H Q E → vs.length = ps.length)
    (walk : ∀ (cdv : Value) (A : Around) (outer : List Env) (s : Shared) (H : Hp) (vs : List V) (Q : VK) (E : XK) (p : Addr × Obj), Hot1 A p → RoomH k (A.deeper (envOfC qual (defScope st) s.heap.objs.size f cdv)) → sp vs H Q E →
      ∃ t, PSs (cxH CX0 P w K mg base N qual (defScope st) f cdv A outer s H E p) (defBody st) t ∧ t { nx := fun _ H' => Q .non H', rt := Q } (L2.start N vs) H) : FnH P w K mg base CX0 (k + 1) f fd ps sp := by
  obtain ⟨oc, od, kV, doc, pm, an, cdv, ct, osl, rfl, lk, hcd⟩ := F.ex
  exact fn_ofH lk hcd S len fun A outer s H vs Q E p hot hr h => walk cdv A outer s H vs Q E p hot hr h
section
variable {X : Cx} {C : Addr} {k : Nat} {ps : List Str} {sp : Sp} {W : WX} {x : Str} {e ce : Expr} {es : List Expr} {te : TE} {t : TA} {p sp_ pos pos2 : Pos}
theorem pe_mkSN1 (K0 : PySem.W.Frag) (eK : X.K = K0) (D : DfSN X.prog X.w X.K X.mg X.base x C k sp) (hr : Room (k + 1) X.A) (hg : Gl X x) (tk : L2N.Takes X W) (he : PE X e te) (hdb : (x == ("__debug__" : Str)) = false := by decide) (hst : starEach [.Starred e sp_] X.env = [(true, eval e X.env)] := by rfl) :
    PE X (.Call (.Name x p) [.Starred e sp_] [] pos) (tMakeS C sp W (tStar K0 te tNil)) := by
  subst eK
  obtain ⟨f, M, hm, F⟩ := D
  exact pe_makeS1 M F hr hg hm (L2N.passAt tk) he hdb hst
theorem pe_mkIXS {ds : List Value} (D : DfIX X.prog X.w X.K X.mg X.base x C ps k sp) (hr : Room (k + 1) X.A) (hg : Gl X x) (tk : L2.Takes X W) (ha : PA X (e :: es) t) (hdb : (x == ("__debug__" : Str)) = false := by decide)
    (he : starEach (e :: es) X.env = (false, eval e X.env) :: starEach es X.env := by rfl) (hpl : (backTo pos (starEach es X.env)).any (·.1) = false := by rfl) : PE X (.Call (.Name x p) (e :: es) [] pos) (tMakeS C (fun vs H Q E => sp (vs ++ []) H Q E) W t) := by
  obtain ⟨f, fd, M, hm, hb, F⟩ := D
  exact pe_makeS M (F.raw hb .nil) hr hg hm (L2.passAt tk) ha hdb he hpl
theorem ps_raiseXN (D : DfX X.prog X.w X.K X.mg X.base x C ps k sp) (hr : Room (k + 1) X.A) (hg : Gl X x) (hc : X.calm = true) (tk : L2N.Takes X W) (ha : PA X (e :: es) t) (hdb : (x == ("__debug__" : Str)) = false := by decide)
    (he : starEach (e :: es) X.env = (false, eval e X.env) :: starEach es X.env := by rfl) (hpl : (backTo pos (starEach es X.env)).any (·.1) = false := by rfl) :
    PS X (.Raise (some (.Call (.Name x p) (e :: es) [] pos)) none pos2) (fun _ σ H => tMkO C sp [] t σ H fun cls d H' => W cls d σ H') := by
  obtain ⟨f, fd, h1, h2, h3, h4, h5, F⟩ := D
  exact L2N.ps_raise hc tk (pmkN h1 h2 h3 F hr h5 .nil pass0 hg h4 ha hdb he hpl)
theorem call_isXK {a : Addr} {oe : Obj} {c : Value} {d : Option Addr} (K0 : PySem.W.Frag) (eK : X.K = K0) (hp : (a, oe) ∈ X.pn) (hz : Zc c d oe) (hf : ∃ vs, oe.data = .fields vs) : CallR X (.builtin "isinstance") (rXo K0 a c d) := by
  subst eK
  exact call_isX hp hz hf
/-- raise Y(..) from e within: except .. as e -/
theorem ps_raiseXF (K0 : PySem.W.Frag) (eK : X.K = K0) {a0 : Addr} {i : Nat} {q : Addr × Obj} {cls : Value} {d : Option Addr} (ea : q.1 = a0) (D : DfHX X.prog X.w X.K X.mg X.base x C ps k sp) (hot : L2H.Hot1 X.A q) (hq : q ∈ X.pn) (hz : L2N.Zn cls d q.2) (tk : L2.Takes X W) (hr : L2H.RoomH (k + 1) X.A) (hg : Gl X x) (ha : PA X (e :: es) t) (hce : Here X ce i) (hdb : (x == ("__debug__" : Str)) = false := by decide)
    (he : starEach (e :: es) X.env = (false, eval e X.env) :: starEach es X.env := by rfl) (hpl : (backTo pos (starEach es X.env)).any (·.1) = false := by rfl) :
    PS X (.Raise (some (.Call (.Name x p) (e :: es) [] pos)) (some ce) pos2) (fun _ σ H => (PySem.W.subIn K0 cls (.type "BaseException") = some true ∧ PySem.W.typeIn K0 cls = some (.type "type")) ∧ σ[i]? = some (some (.ref a0)) ∧ tMkO C sp [] t σ H fun c d H' => W c d σ H') := by
  subst eK ea
  obtain ⟨f, fd, h1, h2, h3, h4, h5, F⟩ := D
  constructor
  intro pins s σ H D I h
  obtain ⟨⟨r1, r2⟩, h⟩ := h
  exact (ps_raiseHF hot hq hz.1 (raises_own r1 r2) tk (L2H.pmk5_oexH h1 h2 h3 F hr ⟨q, hot, hq⟩ h5 pass0 hg h4 ha hdb he hpl) hce).run pins s σ H D I h
end
end Kz
set_option Elab.async false
set_option linter.all false
set_option maxRecDepth 100000
set_option maxHeartbeats 4000000
namespace Q
open PySem PySem.Spec PyProof.Rows L2 Evl StX Kz
def topS (i : Nat) : Stmt := PySem.Challenge.pw_gluedlines_k07_whole_pattern_texts_spoil.main.body.getD i (.Pass ⟨0, 0, 0, 0⟩)

abbrev s_is_line : Stmt := topS 5
theorem sc_is_line : FnScope ["thing", "sign"] ["thing"] (defScope s_is_line) := ⟨rfl, rfl, rfl, by decide +kernel, rfl, by decide +kernel, by decide +kernel⟩
abbrev s_cells_of : Stmt := topS 11
theorem sc_cells_of : FnScope ["parts", "cells", "part"] ["parts"] (defScope s_cells_of) := ⟨rfl, rfl, rfl, by decide +kernel, rfl, by decide +kernel, by decide +kernel⟩
abbrev s_NoForm___init__ : Stmt := inClass (topS 19) 0
theorem sc_NoForm___init__ : FnScope ["self", "at"] ["self", "at"] (defScope s_NoForm___init__) := ⟨rfl, rfl, rfl, by decide +kernel, rfl, by decide +kernel, by decide +kernel⟩
abbrev s_NoText___init__ : Stmt := inClass (topS 20) 0
theorem sc_NoText___init__ : FnScope ["self", "text"] ["self", "text"] (defScope s_NoText___init__) := ⟨rfl, rfl, rfl, by decide +kernel, rfl, by decide +kernel, by decide +kernel⟩
abbrev s_Form___init__ : Stmt := inClass (topS 26) 3
theorem sc_Form___init__ : FnScope ["self", "parts", "at"] ["self", "parts"] (defScope s_Form___init__) := ⟨rfl, rfl, rfl, by decide +kernel, rfl, by decide +kernel, by decide +kernel⟩
abbrev s_Form_forms : Stmt := inClass (topS 26) 5
theorem sc_Form_forms : FnScope ["self"] ["self"] (defScope s_Form_forms) := ⟨rfl, rfl, rfl, by decide +kernel, rfl, by decide +kernel, by decide +kernel⟩
abbrev s_Form___str__ : Stmt := inClass (topS 26) 11
theorem sc_Form___str__ : FnScope ["self"] ["self"] (defScope s_Form___str__) := ⟨rfl, rfl, rfl, by decide +kernel, rfl, by decide +kernel, by decide +kernel⟩
abbrev s_Both___init__ : Stmt := inClass (topS 27) 0
theorem sc_Both___init__ : FnScope ["self", "one", "other"] ["self", "one", "other"] (defScope s_Both___init__) := ⟨rfl, rfl, rfl, by decide +kernel, rfl, by decide +kernel, by decide +kernel⟩
abbrev s_Both_forms : Stmt := inClass (topS 27) 1
theorem sc_Both_forms : FnScope ["self"] ["self"] (defScope s_Both_forms) := ⟨rfl, rfl, rfl, by decide +kernel, rfl, by decide +kernel, by decide +kernel⟩
abbrev s_Both___str__ : Stmt := inClass (topS 27) 7
theorem sc_Both___str__ : FnScope ["self"] ["self"] (defScope s_Both___str__) := ⟨rfl, rfl, rfl, by decide +kernel, rfl, by decide +kernel, by decide +kernel⟩
abbrev s_Either___init__ : Stmt := inClass (topS 28) 0
theorem sc_Either___init__ : FnScope ["self", "one", "other"] ["self", "one", "other"] (defScope s_Either___init__) := ⟨rfl, rfl, rfl, by decide +kernel, rfl, by decide +kernel, by decide +kernel⟩
abbrev s_Either_forms : Stmt := inClass (topS 28) 1
theorem sc_Either_forms : FnScope ["self"] ["self"] (defScope s_Either_forms) := ⟨rfl, rfl, rfl, by decide +kernel, rfl, by decide +kernel, by decide +kernel⟩
abbrev s_Either___str__ : Stmt := inClass (topS 28) 7
theorem sc_Either___str__ : FnScope ["self"] ["self"] (defScope s_Either___str__) := ⟨rfl, rfl, rfl, by decide +kernel, rfl, by decide +kernel, by decide +kernel⟩
abbrev s__is_allowed : Stmt := topS 29
theorem sc__is_allowed : FnScope ["parts", "at", "part"] ["parts", "at"] (defScope s__is_allowed) := ⟨rfl, rfl, rfl, by decide +kernel, rfl, by decide +kernel, by decide +kernel⟩
abbrev s__check_room : Stmt := topS 30
theorem sc__check_room : FnScope ["one", "other"] ["one", "other"] (defScope s__check_room) := ⟨rfl, rfl, rfl, by decide +kernel, rfl, by decide +kernel, by decide +kernel⟩
abbrev s_read_pattern : Stmt := topS 32
theorem sc_read_pattern : FnScope ["text", "parts", "pattern"] ["text"] (defScope s_read_pattern) := ⟨rfl, rfl, rfl, by decide +kernel, rfl, by decide +kernel, by decide +kernel⟩
abbrev s__whole_form : Stmt := topS 33
theorem sc__whole_form : FnScope ["text", "parts", "error"] ["text", "parts"] (defScope s__whole_form) := ⟨rfl, rfl, rfl, by decide +kernel, rfl, by decide +kernel, by decide +kernel⟩
abbrev s__pattern_in : Stmt := topS 34
theorem sc__pattern_in : FnScope ["text", "depth", "parts"] ["text", "depth"] (defScope s__pattern_in) := ⟨rfl, rfl, rfl, by decide +kernel, rfl, by decide +kernel, by decide +kernel⟩
abbrev s__joined : Stmt := topS 35
theorem sc__joined : FnScope ["text", "depth", "inner", "at", "one", "other"] ["text", "depth"] (defScope s__joined) := ⟨rfl, rfl, rfl, by decide +kernel, rfl, by decide +kernel, by decide +kernel⟩
abbrev s__middle : Stmt := topS 36
theorem sc__middle : FnScope ["inner", "depth", "at", "sign"] ["inner"] (defScope s__middle) := ⟨rfl, rfl, rfl, by decide +kernel, rfl, by decide +kernel, by decide +kernel⟩
abbrev s__parts_of : Stmt := topS 37
theorem sc__parts_of : FnScope ["text", "parts", "at", "part"] ["text"] (defScope s__parts_of) := ⟨rfl, rfl, rfl, by decide +kernel, rfl, by decide +kernel, by decide +kernel⟩
abbrev s__part_at : Stmt := topS 38
theorem sc__part_at : FnScope ["text", "at", "part", "end"] ["text", "at"] (defScope s__part_at) := ⟨rfl, rfl, rfl, by decide +kernel, rfl, by decide +kernel, by decide +kernel⟩
abbrev s__law_pool : Stmt := topS 40
theorem sc__law_pool : FnScope ["script", "k", "cell", "seed"] ["script", "k"] (defScope s__law_pool) := ⟨rfl, rfl, rfl, by decide +kernel, rfl, by decide +kernel, by decide +kernel⟩
abbrev s__law_take : Stmt := topS 41
theorem sc__law_take : FnScope ["pool", "many", "digit"] ["pool", "many"] (defScope s__law_take) := ⟨rfl, rfl, rfl, by decide +kernel, rfl, by decide +kernel, by decide +kernel⟩
abbrev s__law_all_signs : Stmt := topS 42
theorem sc__law_all_signs : FnScope [] [] (defScope s__law_all_signs) := ⟨rfl, rfl, rfl, by decide +kernel, rfl, by decide +kernel, by decide +kernel⟩
abbrev s__law_text : Stmt := topS 43
theorem sc__law_text : FnScope ["pool", "text", "style", "k"] ["pool"] (defScope s__law_text) := ⟨rfl, rfl, rfl, by decide +kernel, rfl, by decide +kernel, by decide +kernel⟩
abbrev s__law_rich : Stmt := topS 44
theorem sc__law_rich : FnScope ["pool", "parts", "k", "kind", "fixed"] ["pool"] (defScope s__law_rich) := ⟨rfl, rfl, rfl, by decide +kernel, rfl, by decide +kernel, by decide +kernel⟩
abbrev s__law_shape : Stmt := topS 45
theorem sc__law_shape : FnScope ["pool", "many", "rows", "at", "k"] ["pool", "many"] (defScope s__law_shape) := ⟨rfl, rfl, rfl, by decide +kernel, rfl, by decide +kernel, by decide +kernel⟩
abbrev s__law_shown : Stmt := topS 46
theorem sc__law_shown : FnScope ["shape", "drawn"] ["shape", "drawn"] (defScope s__law_shown) := ⟨rfl, rfl, rfl, by decide +kernel, rfl, by decide +kernel, by decide +kernel⟩
abbrev s__law_sign : Stmt := topS 47
theorem sc__law_sign : FnScope ["pool", "some"] ["pool"] (defScope s__law_sign) := ⟨rfl, rfl, rfl, by decide +kernel, rfl, by decide +kernel, by decide +kernel⟩
abbrev s__law_bent : Stmt := topS 48
theorem sc__law_bent : FnScope ["pool", "text", "at", "way"] ["pool", "text"] (defScope s__law_bent) := ⟨rfl, rfl, rfl, by decide +kernel, rfl, by decide +kernel, by decide +kernel⟩
abbrev s__law_odd : Stmt := topS 49
theorem sc__law_odd : FnScope ["some"] [] (defScope s__law_odd) := ⟨rfl, rfl, rfl, by decide +kernel, rfl, by decide +kernel, by decide +kernel⟩
abbrev s__law_refused : Stmt := topS 50
theorem sc__law_refused : FnScope ["text", "e"] ["text"] (defScope s__law_refused) := ⟨rfl, rfl, rfl, by decide +kernel, rfl, by decide +kernel, by decide +kernel⟩
abbrev s__law_same_or_none : Stmt := topS 51
theorem sc__law_same_or_none : FnScope ["text", "pattern", "e"] ["text"] (defScope s__law_same_or_none) := ⟨rfl, rfl, rfl, by decide +kernel, rfl, by decide +kernel, by decide +kernel⟩
abbrev s_law : Stmt := topS 52
theorem sc_law : FnScope ["script", "text", "k", "pool", "drawn", "bent", "at"] ["script"] (defScope s_law) := ⟨rfl, rfl, rfl, by decide +kernel, rfl, by decide +kernel, by decide +kernel⟩
structure Txt (K : PySem.W.Frag) (mg : Str → Option Value) (a_OPEN_PARTS : Addr) (C_Both : Addr) (C_Either : Addr) (C_Form : Addr) (C_GlueError : Addr) (C_NoForm : Addr) (C_NoText : Addr) : Prop where
  c_ANY_SIGNS : Cst mg "ANY_SIGNS" (.str (Str.ofString "<any>"))
  c_MOST_FORMS : Cst mg "MOST_FORMS" (.int 3)
  c_MOST_PARTS : Cst mg "MOST_PARTS" (.int 4)
  c_MOST_SIGNS : Cst mg "MOST_SIGNS" (.int 4)
  c_OPEN_PARTS : Cst mg "OPEN_PARTS" (.ref a_OPEN_PARTS)
  o_OPEN_PARTS : WT K a_OPEN_PARTS [V.str (Str.ofString "<digits>"), V.str (Str.ofString "<word>"), V.str (Str.ofString "<any>")]
  c_SIGNS : Cst mg "SIGNS" (.str (Str.ofString " #-.0123456789:>ABCDEFGHIJKLMNOPQRSTUVWXYZabcdefghijklmnopqrstuvwxyz"))
  n_ValueError : mg "ValueError" = none
  n_all : mg "all" = none
  n_enumerate : mg "enumerate" = none
  n_int : mg "int" = none
  n_isinstance : mg "isinstance" = none
  n_len : mg "len" = none
  n_list : mg "list" = none
  n_max : mg "max" = none
  n_min : mg "min" = none
  n_range : mg "range" = none
  n_str : mg "str" = none
  k_Both : Cls K C_Both
  k_Either : Cls K C_Either
  k_Form : Cls K C_Form
  x_NoForm : XIn K C_NoForm
  m_NoForm : mg "NoForm" = some (.ref C_NoForm)
  f_NoForm_at : PySem.W.findIn K (.ref C_NoForm) "at" = some none
  x_NoText : XIn K C_NoText
  m_NoText : mg "NoText" = some (.ref C_NoText)
  f_NoText_text : PySem.W.findIn K (.ref C_NoText) "text" = some none
  q_g : PySem.W.kitOne K (.ref C_NoText) (.ref C_GlueError) = some true
  q_v : PySem.W.kitOne K (.ref C_NoText) (.type "ValueError") = some true
  q_n : PySem.W.kitOne K (.ref C_NoText) (.ref C_NoForm) = some false
  c_GlueError : Cst mg "GlueError" (.ref C_GlueError)
  c_NoForm : Cst mg "NoForm" (.ref C_NoForm)
  c_NoText : Cst mg "NoText" (.ref C_NoText)
  a_Both__one : NoAttr K C_Both "_one"
  a_Both__other : NoAttr K C_Both "_other"
  a_Either__one : NoAttr K C_Either "_one"
  a_Either__other : NoAttr K C_Either "_other"
  a_Form__cells : NoAttr K C_Form "_cells"
  a_Form__parts : NoAttr K C_Form "_parts"
section
variable {P : Program} {w : World} {K : PySem.W.Frag} {mg : Str → Option Value} {base : Heap} {a_OPEN_PARTS : Addr} {C_Both : Addr} {C_Either : Addr} {C_Form : Addr} {C_GlueError : Addr} {C_NoForm : Addr} {C_NoText : Addr}
theorem cps_inj {x y : Str} (h : x.cps.toList = y.cps.toList) : x = y := by
  obtain ⟨⟨x⟩⟩ := x
  obtain ⟨⟨y⟩⟩ := y
  have h' : x = y := h
  rw [h']

/-! ### drawing: _law_pool, _law_take, _law_all_signs -/
theorem ok__law_take {f : Addr} {fd : FuncData} (F : Fun K "_law_take" "_law_take" s__law_take f fd) (T : Txt K mg a_OPEN_PARTS C_Both C_Either C_Form C_GlueError C_NoForm C_NoText) : FnOk P w K mg base CX0 1 f fd ["pool", "many"] spTake := by
  refine F.ok sc__law_take (fun vs H Q E h => ?_) (fun cdv A outer s0 H vs Q E hr h => ?_)
  · obtain ⟨p, s, n, rfl, _⟩ := h
    rfl
  · obtain ⟨p, s, n, rfl, hp, hk, h0, h1, q⟩ := h
    refine ⟨_, (pss_cons (ps_if (pt_cmpR op_gt (pe_ix ix_list (pv 0) pe_int (fun _ _ => rfl)) pe_int (nomark _))
      (pss_cons (ps_set (i := 2) sc__law_take.nd rfl (Or.inl rfl) (pe_op op_mod (pe_callTy call_int1 (by rfl) T.n_int (by decide +kernel) (pa_cons (pe_ix ix_list (pv 0) pe_int (fun _ _ => rfl)) pa_nil)) (pv 1)))
      (pss_cons (ps_asg (pe_op op_fdivW (pe_ix ix_list (pv 0) pe_int (fun _ _ => rfl)) (pv 1)) (pg_sub (pv 0) pe_int set_list))
      (pss_one (ps_ret (pv 2)))))
      pss_nil)
      (pss_cons (ps_asg (pe_op op_mod (pe_callTy call_int1 (by rfl) T.n_int (by decide +kernel) (pa_cons (pe_op op_add (pe_op op_mul (pe_ix ix_list (pv 0) pe_int (fun _ _ => rfl)) pe_int) pe_int) pa_nil)) pe_int) (pg_sub (pv 0) pe_int set_list))
      (pss_one (ps_ret (pe_op op_mod (pe_callTy call_int1 (by rfl) T.n_int (by decide +kernel) (pa_cons (pe_op op_fdivW (pe_op op_mod (pe_callTy call_int1 (by rfl) T.n_int (by decide +kernel) (pa_cons (pe_op op_mul (pe_ix ix_list (pv 0) pe_int (fun _ _ => rfl)) (pe_ix ix_list (pv 0) pe_int (fun _ _ => rfl))) pa_nil)) pe_int) pe_int) pa_nil)) (pv 1)))))), ?_⟩
    refine q_when (b := decide (0 < s.1)) (et_test (ev_op (ev_op (ev_var rfl) ev_c (rv_ixL (sq_of hp) rfl)) ev_c rv_I0)) (fun hb H1 e1 => ?_) (fun hb H1 e1 => ?_)
    · have hc : 0 < s.1 := of_decide_eq_true hb
      rw [take_pos hc] at q
      have hp1 := e1 p _ hp
      refine q_asg (ev_op (ev_int (ev_op (ev_var rfl) ev_c (rv_ixL (sq_of hp1) rfl))) (ev_var rfl) (rv_mod h0)) fun H2 e2 => ?_
      have hp2 := e2 p _ hp1
      refine q_setL hp2 (ev_op (ev_op (ev_var rfl) ev_c (rv_ixL (sq_of hp2) rfl)) (ev_var rfl) (rv_div h0 (by omega))) (ev_var rfl) (j := 0) ev_c (by simp) fun H3 e3 => ?_
      refine s_ret (ev_var rfl) fun H4 e4 => q H4 ?_ (e4 p _ upd_same)
      exact (hx_trans (hx_of ((e1.trans e2).trans e3)) hx_upd).trans e4
    · have hc : ¬ 0 < s.1 := of_decide_eq_false hb
      rw [take_neg hc] at q
      have hp1 := e1 p _ hp
      have k2 := hk.2
      have k1 := hk.1
      refine q_setL hp1 (ev_op (ev_int (ev_op (ev_op (ev_op (ev_var rfl) ev_c (rv_ixL (sq_of hp1) rfl)) ev_c (rv_mul (.inr (by decide)))) ev_c rv_add)) ev_c (rv_mod (by decide))) (ev_var rfl) (j := 1) ev_c (by simp) fun H3 e3 => ?_
      have hp3 : (upd H3 p (.lst [.int s.1, .int ((s.2 * 48271 + 11) % 2147483647)])) p = some (.lst [.int s.1, .int ((s.2 * 48271 + 11) % 2147483647)]) := upd_same
      have b1 : 0 ≤ (s.2 * 48271 + 11) % 2147483647 := Int.emod_nonneg _ (by omega)
      have b2 : (s.2 * 48271 + 11) % 2147483647 < 2147483647 := Int.emod_lt_of_pos _ (by omega)
      refine s_ret (ev_op (ev_int (ev_op (ev_op (ev_int (ev_op (ev_op (ev_var rfl) ev_c (rv_ixL (sq_of hp3) rfl)) (ev_op (ev_var rfl) ev_c (rv_ixL (sq_of hp3) rfl)) (rv_mul (.inr (by omega))))) ev_c (rv_mod (by decide))) ev_c (rv_div (by decide) (by decide)))) (ev_var rfl) (rv_mod h0)) fun H4 e4 => q H4 ?_ (e4 p _ upd_same)
      exact (hx_trans (hx_of (e1.trans e3)) hx_upd).trans e4
theorem cell_ix {ns : List Int} {k : Int} (h : ns ≠ []) : atI (ns.map V.int) (k % ((ns.map V.int).length : Int)) = some (.int (cellAt ns k)) := by
  have hl : 0 < ns.length := List.length_pos_iff.mpr h
  have h1 : 0 ≤ k % (ns.length : Int) := Int.emod_nonneg k (by omega)
  have h2 : k % (ns.length : Int) < (ns.length : Int) := Int.emod_lt_of_pos k (by omega)
  rw [List.length_map]
  unfold atI ixN cellAt
  rw [List.length_map, if_pos h1, if_pos h2, if_neg h]
  have h3 : (k % (ns.length : Int)).toNat < ns.length := by omega
  show (ns.map V.int)[(k % (ns.length : Int)).toNat]? = _
  rw [List.getElem?_map, List.getElem?_eq_getElem h3, List.getD_eq_getElem?_getD, List.getElem?_eq_getElem h3]
  rfl
theorem ok__law_pool {f : Addr} {fd : FuncData} (F : Fun K "_law_pool" "_law_pool" s__law_pool f fd) (T : Txt K mg a_OPEN_PARTS C_Both C_Either C_Form C_GlueError C_NoForm C_NoText) : FnOk P w K mg base CX0 1 f fd ["script", "k"] (spPool K) := by
  refine F.ok sc__law_pool (fun vs H Q E h => ?_) (fun cdv A outer s0 H vs Q E hr h => ?_)
  · obtain ⟨a, ns, k, rfl, _⟩ := h
    rfl
  · obtain ⟨a, ns, k, rfl, hS, hl, k0, k1, q⟩ := h
    refine ⟨_, (pss_cons (ps_set (i := 2) sc__law_pool.nd rfl (Or.inl rfl) pe_int)
      (pss_cons (ps_if (pt_cmpR (op_neD hr.units) (pv 0) (pe_lst pa_nil) (nomark _))
      (pss_one (ps_set (i := 2) sc__law_pool.nd rfl (Or.inl rfl) (pe_ix ix_list (pv 0) (pe_op op_mod (pe_callTy call_int1 (by rfl) T.n_int (by decide +kernel) (pa_cons (pv 1) pa_nil)) (pe_callB call_len_seq (by rfl) T.n_len PySem.boot_len (pa_cons (pv 0) pa_nil))) (fun _ _ => rfl))))
      pss_nil)
      (pss_cons (ps_set (i := 3) sc__law_pool.nd rfl (Or.inl rfl) (pe_op op_mod (pe_op op_mul (pe_callTy call_int1 (by rfl) T.n_int (by decide +kernel) (pa_cons (pe_op op_add (pe_op op_add (pe_op op_mod (pe_callTy call_int1 (by rfl) T.n_int (by decide +kernel) (pa_cons (pv 2) pa_nil)) pe_int) (pe_op op_mul pe_int (pv 1))) pe_int) pa_nil)) pe_int) pe_int))
      (pss_one (ps_ret (pe_lst (pa_cons (pe_op op_mul (pv 2) (pe_callTy call_int1 (by rfl) T.n_int (by decide +kernel) (pa_cons (pe_cmpR op_ge (pv 2) (pe_op op_pow pe_int pe_int) (nomark _)) pa_nil))) (pa_cons (pv 3) pa_nil)))))))), ?_⟩
    refine q_asg ev_c fun H1 e1 => ?_
    have hS1 := ex_l e1 hS
    refine q_ifAsg (v := .int (cellAt ns k)) (b := !eqF (ns.map V.int) []) (et_test (ev_opL (ev_var rfl) (el_lst ea_nil (Nat.zero_le _)) fun p H2 hp2 e2 => rv_neL (ex_l e2 hS1) (sq_of hp2) okV_ints (by simp)))
      (fun hb => ?_) (fun hb => ?_) fun H2 e2 => ?_
    · have hn : ns ≠ [] := fun z => by
        subst z
        cases hb
      have hn2 : 0 < ((ns.map V.int).length : Int) := by
        have := List.length_pos_iff.mpr hn
        rw [List.length_map]
        omega
      exact ev_op (ev_var rfl) (ev_op (ev_int (ev_var rfl)) (ev_lenL (ev_var rfl) hS1) (rv_mod hn2)) (rv_ixL hS1 (cell_ix hn))
    · have hn : ns = [] := by
        rw [eqF_nil] at hb
        cases ns with
        | nil => rfl
        | cons _ _ => cases hb
      subst hn
      rfl
    refine q_asg (ev_op (ev_op (ev_int (ev_op (ev_op (ev_op (ev_int (ev_var rfl)) ev_c (rv_mod (by decide))) (ev_op ev_c (ev_var rfl) (rv_mul (.inl (by decide)))) rv_add) ev_c rv_add)) ev_c (rv_mul (.inr (by decide)))) ev_c (rv_mod (by decide))) fun H3 e3 => ?_
    refine s_retL (el_lst (ea_cons (ev_op (ev_var rfl) (ev_intB (ev_op (ev_var rfl) (ev_op ev_c ev_c (rv_I ⟨by decide, by decide, by decide⟩)) rv_I0)) (rv_mul (.inr ?_))) (ea_cons (ev_var rfl) ea_nil)) (by simp)) fun p H4 hp e4 h4 => ?_
    · split <;> decide
    · exact q p H4 (fresh_back ((e1.trans e2).trans e3) hp) (((e1.trans e2).trans e3).trans e4) h4
/-- a def without arguments that hands back v -/
def spK (v : V) : Sp := fun vs H Q _ => vs = [] ∧ RetV v H Q
theorem sv_spK {v : V} {G : Hp} : SpV (spK v) [] G v := fun H1 e Q q E => ⟨rfl, q⟩
def signsS : Str := " #-.0123456789:>ABCDEFGHIJKLMNOPQRSTUVWXYZabcdefghijklmnopqrstuvwxyz"
theorem ok__law_all_signs {f : Addr} {fd : FuncData} (F : Fun K "_law_all_signs" "_law_all_signs" s__law_all_signs f fd) : FnOk P w K mg base CX0 1 f fd [] (spK (.str signsS)) := by
  refine F.ok sc__law_all_signs (fun vs H Q E h => ?_) (fun cdv A outer s0 H vs Q E hr h => ?_)
  · obtain ⟨rfl, _⟩ := h
    rfl
  · obtain ⟨rfl, q⟩ := h
    refine ⟨_, (pss_one (ps_ret pe_str)), ?_⟩
    exact s_ret ev_c q

/-! ### is_line -/
def isLn (z : Str) : Bool := decide ((0 : Int) < (z.length : Int)) && z.cps.toList.all fun c => decide (c ∈ signsS.cps.toList)
def spIsLine (K : PySem.W.Frag) : Sp := fun vs H Q _ => ∃ x : V, vs = [x] ∧ ((∃ z : Str, x = .str z ∧ z.length ≤ 40000 ∧ RetV (.bl (isLn z)) H Q) ∨ (∃ a : String, TyX K H x (.type a) ∧ kitB a "str" = some false ∧ RetV (.bl false) H Q))
theorem ok_is_line {f : Addr} {fd : FuncData} (F : Fun K "is_line" "is_line" s_is_line f fd) (T : Txt K mg a_OPEN_PARTS C_Both C_Either C_Form C_GlueError C_NoForm C_NoText) : FnOk P w K mg base CX0 1 f fd ["thing"] (spIsLine K) := by
  refine F.ok sc_is_line (fun vs H Q E h => ?_) (fun cdv A outer s0 H vs Q E hr h => ?_)
  · obtain ⟨x, rfl, _⟩ := h
    rfl
  · obtain ⟨x, rfl, h⟩ := h
    refine ⟨_, (pss_one (ps_ret (pe_and (pe_callB call_isi (by rfl) T.n_isinstance (by decide +kernel) (pa_cons (pv 0) (pa_cons (pe_bltn (v := .ty "str") (by rfl) T.n_str (by decide +kernel) rfl) pa_nil))) (pe_and (pe_cmpR op_gt (pe_callB call_len_str (by rfl) T.n_len PySem.boot_len (pa_cons (pv 0) pa_nil)) pe_int (nomark _)) (pe_one (pe_callB (cr_all rfl) (by rfl) T.n_all (by decide +kernel) (pa_cons (pe_lc (own := [("sign", 1)]) (g := gName 1) rfl sc_is_line.nd (pi_str (pv 0)) (blkOk_by (own := [("sign", 1)]) (N := ["thing", "sign"]) (sc := defScope s_is_line) (by decide +kernel)) (fun _ _ _ _ _ => pg_name (i := 1) sc_is_line.nd rfl (Or.inl rfl)) (fun _ _ _ _ _ => pts_nil) (fun _ _ _ _ _ => (pe_cmpR op_in_sign (pv 1) (pe_cst T.c_SIGNS (by rfl)) (by rfl)))) pa_nil))))))), ?_⟩
    rcases h with ⟨z, rfl, hz, q⟩ | ⟨a, ty, hk, q⟩
    · refine s_ret (v := .bl (true && (decide ((0 : Int) < (z.length : Int)) && (z.cps.toList.map fun c => decide (c ∈ signsS.cps.toList)).all id))) ?_ ?_
      · refine ev_andV (ev_isi (ev_var rfl) (.base (.str z)) (by decide +kernel)) fun _ => ?_
        refine ev_andV (ev_op (ev_lenS (ev_var rfl) (by omega)) ev_c rv_I0) fun _ => ?_
        refine ev_all ?_
        have e := el_lcT (σ := start ["thing", "sign"] [.str z]) (H := H) (tl := tVar 0) (te := tOp _ (tVar 1) (tC (.str signsS))) (t := tYes) (j := 1) (vs := [1]) (fun _ => true) (fun c => .bl (decide (c ∈ signsS.cps.toList))) (ev_var rfl) hz (fun _ => rfl) (fun _ _ _ _ => et_yes)
          (fun c H1 e1 hc _ => ev_op (ev_var rfl) ev_c rv_sgn)
        rw [filter_yes] at e
        rw [List.map_map]
        exact e
      · have ee : (true && (decide ((0 : Int) < (z.length : Int)) && (z.cps.toList.map fun c => decide (c ∈ signsS.cps.toList)).all id)) = isLn z := by
          unfold isLn
          rw [Bool.true_and, List.all_map]
          rfl
        rw [ee]
        exact q
    · refine s_ret (v := .bl (false && false)) (ev_andV (ev_isi (ev_var rfl) ty hk) fun z => by cases z) q

/-! ### cells: the mirror -/
def anyP : Str := "<any>"
def digP : Str := "<digits>"
def wordP : Str := "<word>"
def digS : Str := "0123456789"
def letS : Str := "ABCDEFGHIJKLMNOPQRSTUVWXYZabcdefghijklmnopqrstuvwxyz"
def vN (k : Nat) : V := .int (k : Int)
def isOpen (p : Str) : Bool := inV (.str p) [V.str digP, V.str wordP, V.str anyP]
/-- the signs of a text, a text each -/
def signsOf (p : Str) : List Str := p.cps.toList.map fun c => ⟨#[c]⟩
def cellOf1 (p : Str) : List Str := if isOpen p then [p] else signsOf p
def cellsM : List Str → List Str
  | [] => []
  | p :: ps => cellOf1 p ++ cellsM ps
def takesM (cell : Str) (c : Nat) : Bool := if cell = digP then decide (c ∈ digS.cps.toList) else if cell = wordP then decide (c ∈ letS.cps.toList) else decide (cell = ⟨#[c]⟩)
def cellAt' (cells : List Str) (k : Nat) : Str := cells.getD k ""
def closeT (cells : List Str) (ps cl : List Nat) (k : Nat) : Bool := decide (k ∈ ps) || (decide (0 < k) && decide (k - 1 ∈ cl) && decide (cellAt' cells (k - 1) = anyP))
def closedN (cells : List Str) (ps : List Nat) : Nat → List Nat
  | 0 => []
  | k + 1 => if closeT cells ps (closedN cells ps k) k then closedN cells ps k ++ [k] else closedN cells ps k
def closedM (cells : List Str) (ps : List Nat) : List Nat := closedN cells ps (cells.length + 1)
def rawA (cells : List Str) (c : Nat) (acc : List Nat) (k : Nat) : List Nat :=
  if decide (k < cells.length) && decide (cellAt' cells k = anyP) then acc ++ [k] else if decide (k < cells.length) && takesM (cellAt' cells k) c then acc ++ [k + 1] else acc
def rawT (cells : List Str) (c : Nat) (k : Nat) : Bool := decide (0 < k) && (decide (cellAt' cells (k - 1) = digP) || decide (cellAt' cells (k - 1) = wordP)) && takesM (cellAt' cells (k - 1)) c
def rawB (cells : List Str) (c : Nat) (acc : List Nat) (k : Nat) : List Nat := if rawT cells c k then rawA cells c acc k ++ [k] else rawA cells c acc k
def rawM (cells : List Str) (c : Nat) (ps : List Nat) : List Nat := ps.foldl (rawB cells c) []
def movedM (cells : List Str) (ps : List Nat) (c : Nat) : List Nat := closedM cells (rawM cells c ps)
def startedM (cells : List Str) : List Nat := closedM cells [0]
/-! small facts -/
theorem flat_vN (ps : List Nat) : (ps.map vN).all flatV = true := by
  rw [List.all_map]
  exact List.all_eq_true.mpr fun _ _ => rfl
theorem flat_str (ps : List Str) : (ps.map V.str).all flatV = true := by
  rw [List.all_map]
  exact List.all_eq_true.mpr fun _ _ => rfl
theorem inV_vN (k : Nat) : ∀ ps : List Nat, inV (.int (k : Int)) (ps.map vN) = decide (k ∈ ps)
  | [] => rfl
  | p :: ps => by
    show (eqV (vN p) (.int (k : Int)) || inV (.int (k : Int)) (ps.map vN)) = _
    rw [inV_vN k ps, show eqV (vN p) (.int (k : Int)) = ((p : Int) == (k : Int)) from rfl]
    by_cases h : k = p
    · subst h
      simp
    · have : ¬ ((p : Int) = (k : Int)) := by omega
      simp [h, this]
theorem inV_str (k : Str) : ∀ ps : List Str, inV (.str k) (ps.map V.str) = decide (k ∈ ps)
  | [] => rfl
  | p :: ps => by
    show (eqV (.str p) (.str k) || inV (.str k) (ps.map V.str)) = _
    rw [inV_str k ps, show eqV (.str p) (.str k) = (p == k) from rfl]
    by_cases h : k = p
    · subst h
      simp
    · have : ¬ p = k := fun z => h z.symm
      simp [h, this]
theorem isOpen_eq (p : Str) : isOpen p = decide (p ∈ [digP, wordP, anyP]) := inV_str p [digP, wordP, anyP]
theorem isOpen_iff {p : Str} : isOpen p = true ↔ p = digP ∨ p = wordP ∨ p = anyP := by
  rw [isOpen_eq]
  simp
theorem chars_eq (z : Str) : chars z = (signsOf z).map V.str := by
  unfold chars signsOf
  rw [List.map_map]
  rfl
theorem cell_get {cells : List Str} {k : Nat} (h : k < cells.length) : (cells.map V.str)[k]? = some (.str (cellAt' cells k)) := by
  unfold cellAt'
  rw [List.getElem?_map, List.getElem?_eq_getElem h, List.getD_eq_getElem?_getD, List.getElem?_eq_getElem h]
  rfl
theorem cell_at {cells : List Str} {k : Nat} (h : k < cells.length) : atI (cells.map V.str) (k : Int) = some (.str (cellAt' cells k)) := by
  unfold atI ixN
  rw [if_pos (by omega), if_pos (by rw [List.length_map]; omega)]
  exact cell_get h
theorem cell_at1 {cells : List Str} {k : Nat} (h0 : 0 < k) (h : k ≤ cells.length) : atI (cells.map V.str) ((k : Int) - 1) = some (.str (cellAt' cells (k - 1))) := by
  rw [show (k : Int) - 1 = ((k - 1 : Nat) : Int) by omega]
  exact cell_at (by omega)
theorem inV_pred {k : Nat} (ps : List Nat) : inV (.int ((k : Int) - 1)) (ps.map vN) = (decide (0 < k) && decide (k - 1 ∈ ps)) := by
  by_cases h : 0 < k
  · rw [show (k : Int) - 1 = ((k - 1 : Nat) : Int) by omega, inV_vN, decide_eq_true h, Bool.true_and]
  · have e : k = 0 := by omega
    subst e
    rw [decide_eq_false (by omega), Bool.false_and]
    induction ps with
    | nil => rfl
    | cons p ps ih =>
      show (eqV (vN p) (.int ((0 : Nat) - 1 : Int)) || inV (.int (((0 : Nat) : Int) - 1)) (ps.map vN)) = _
      rw [ih, show eqV (vN p) (.int ((0 : Nat) - 1 : Int)) = ((p : Int) == ((0 : Nat) : Int) - 1) from rfl]
      have : ¬ ((p : Int) = ((0 : Nat) : Int) - 1) := by omega
      simp [this]
theorem closedN_len (cells : List Str) (ps : List Nat) : ∀ k, (closedN cells ps k).length ≤ k
  | 0 => Nat.zero_le _
  | k + 1 => by
    have := closedN_len cells ps k
    show (if closeT cells ps (closedN cells ps k) k then closedN cells ps k ++ [k] else closedN cells ps k).length ≤ k + 1
    split
    · rw [List.length_append, List.length_singleton]
      omega
    · omega
theorem rawB_len (cells : List Str) (c : Nat) (acc : List Nat) (k : Nat) : (rawB cells c acc k).length ≤ acc.length + 2 := by
  unfold rawB rawA
  split <;> split <;> simp <;> split <;> simp
theorem rawM_len (cells : List Str) (c : Nat) : ∀ (ps acc : List Nat), (ps.foldl (rawB cells c) acc).length ≤ acc.length + 2 * ps.length
  | [], acc => by simp
  | k :: ps, acc => by
    have h1 := rawM_len cells c ps (rawB cells c acc k)
    have h2 := rawB_len cells c acc k
    rw [List.foldl_cons, List.length_cons]
    omega
/-! the promises -/
def RetU (xs : List V) (H : Hp) (Q : VK) : Prop := ∀ p H2, H p = none → Ex H H2 → H2 p = some (.tup xs) → Q (.ref p) H2

theorem lt_len {a : Nat} {b : Nat} : decide ((a : Int) < (b : Int)) = decide (a < b) := by
  by_cases h : a < b
  · rw [decide_eq_true h, decide_eq_true (by omega)]
  · rw [decide_eq_false h, decide_eq_false (by omega)]
theorem gt_zero {a : Nat} : decide ((0 : Int) < (a : Int)) = decide (0 < a) := by
  by_cases h : 0 < a
  · rw [decide_eq_true h, decide_eq_true (by omega)]
  · rw [decide_eq_false h, decide_eq_false (by omega)]

theorem cellsM_app (ps qs : List Str) : cellsM (ps ++ qs) = cellsM ps ++ cellsM qs := by
  induction ps with
  | nil => rfl
  | cons p ps ih =>
    show cellOf1 p ++ cellsM (ps ++ qs) = (cellOf1 p ++ cellsM ps) ++ cellsM qs
    rw [ih, List.append_assoc]
theorem cellOf1_len {p : Str} (h : p.length ≤ 100) : (cellOf1 p).length ≤ 100 := by
  unfold cellOf1
  split
  · simp
  · unfold signsOf
    rw [List.length_map]
    simpa [Str.length] using h
theorem cellsM_len {ps : List Str} (h : ∀ p ∈ ps, p.length ≤ 100) : (cellsM ps).length ≤ 100 * ps.length := by
  induction ps with
  | nil => simp [cellsM]
  | cons p ps ih =>
    have h1 := cellOf1_len (h p List.mem_cons_self)
    have h2 := ih fun q hq => h q (List.mem_cons_of_mem _ hq)
    show (cellOf1 p ++ cellsM ps).length ≤ _
    rw [List.length_append, List.length_cons]
    omega
/-- what a list that is handed back is -/
def spCells (K : PySem.W.Frag) : Sp := fun vs H Q _ => ∃ (a : Addr) (ps : List Str), vs = [.ref a] ∧ SqL K H a (ps.map V.str) ∧ ps.length ≤ 100 ∧ (∀ p ∈ ps, p.length ≤ 100) ∧ RetL ((cellsM ps).map V.str) H Q
def spCellsT (K : PySem.W.Frag) : Sp := fun vs H Q _ => ∃ (a : Addr) (ps : List Str), vs = [.ref a] ∧ SqT K H a (ps.map V.str) ∧ ps.length ≤ 100 ∧ (∀ p ∈ ps, p.length ≤ 100) ∧ RetL ((cellsM ps).map V.str) H Q
theorem cells_turn {σ : L2.St} {H H2 : Hp} {l : Addr} {i : Nat} {ps : List Str} {p : Str} {y : Addr} {a : Addr} {D : Ends} (T : Txt K mg a_OPEN_PARTS C_Both C_Either C_Form C_GlueError C_NoForm C_NoText) (hp : ps[i]? = some p) (hl : ∀ p ∈ ps, p.length ≤ 100) (hn : ps.length ≤ 100) (hl0 : H l = none) (e2 : Ex H H2) (h2 : H2 l = some (.lst ((cellsM (ps.take i)).map V.str)))
    (k : ∀ H', Ex H H' → H' l = some (.lst ((cellsM (ps.take (i + 1))).map V.str)) → D.nx [some (.ref a), some (.ref l), some (.str p)] H') :
    tIfS (tTest (tOp (rIn K false) (tVar 2) (tC (.ref a_OPEN_PARTS)))) (tDrop (tBM K "list" rAppend (tVar 1) (tCons (tVar 2) tNil))) (tDrop (tBM K "list" rExtend (tVar 1) (tCons (tCB rListStr (tCons (tVar 2) tNil)) tNil))) D [some (.ref a), some (.ref l), some (.str p)] H2 := by
  have hpm := List.mem_of_getElem? hp
  have hp1 := hl p hpm
  have ht : cellsM (ps.take (i + 1)) = cellsM (ps.take i) ++ cellOf1 p := by
    rw [List.take_add_one, hp, cellsM_app]
    show cellsM (ps.take i) ++ (cellOf1 p ++ []) = _
    rw [List.append_nil]
  have hlen : (cellsM (ps.take i)).length ≤ 10000 := by
    have h1 := cellsM_len (ps := ps.take i) fun q hq => hl q (List.mem_of_mem_take hq)
    have h2 : (ps.take i).length ≤ ps.length := by
      rw [List.length_take]
      omega
    omega
  rw [ht] at k
  refine s_if (b := isOpen p) (et_test (ev_op (ev_var rfl) ev_c (rv_isT T.o_OPEN_PARTS.at_ rfl rfl))) (fun hb H3 e3 => ?_) (fun hb H3 e3 => ?_)
  · have e1 : cellOf1 p = [p] := if_pos hb
    rw [e1] at k
    refine s_app (e3 _ _ h2) (ev_var rfl) (ev_var rfl) (by rw [List.length_map]; omega) fun H4 e4 => k _ (Ex.mut ((e2.trans e3).trans e4) hl0) ?_
    rw [upd_same, List.map_append]
    rfl
  · have e1 : cellOf1 p = signsOf p := by
      unfold cellOf1
      rw [hb]
      rfl
    rw [e1] at k
    have hs : (signsOf p).length = p.length := by
      unfold signsOf
      rw [List.length_map]
      simp [Str.length]
    refine s_extL (ys := (signsOf p).map V.str) (e3 _ _ h2) (ev_var rfl) (by rw [← chars_eq]; exact el_listS (ev_var rfl) (by omega)) (by rw [List.length_map, List.length_map, hs]; omega) fun q H4 hq e4 => k _ (Ex.mut ((e2.trans e3).trans e4) hl0) ?_
    rw [upd_same, List.map_append]

theorem ok_cells_of__t {f : Addr} {fd : FuncData} (F : Fun K "cells_of" "cells_of" s_cells_of f fd) (T : Txt K mg a_OPEN_PARTS C_Both C_Either C_Form C_GlueError C_NoForm C_NoText) : FnOk P w K mg base CX0 1 f fd ["parts"] (spCellsT K) := by
  refine F.ok sc_cells_of (fun vs H Q E h => ?_) (fun cdv A outer s0 H vs Q E hr h => ?_)
  · obtain ⟨a, ps, rfl, _⟩ := h
    rfl
  · obtain ⟨a, ps, rfl, hA, hn, hl, q⟩ := h
    refine ⟨_, (pss_cons (ps_set (i := 1) sc_cells_of.nd rfl (Or.inl rfl) (pe_lst pa_nil))
      (pss_cons (ps_for PassesOwn.never rfl (pi_tup (pv 0)) (pg_name (i := 2) sc_cells_of.nd rfl (Or.inl rfl))
      (pss_one (ps_if (pt_cmpR op_in_seq (pv 2) (pe_cst T.c_OPEN_PARTS (by rfl)) (by rfl))
      (pss_one (ps_expr (pe_bm PySem.F.plainAttrs_list PySem.F.slot_list_append PySem.F.type_list_append mt_append (pv 1) (pa_cons (pv 2) pa_nil))))
      (pss_one (ps_expr (pe_bm PySem.F.plainAttrs_list PySem.F.slot_list_extend PySem.F.type_list_extend mt_extend (pv 1) (pa_cons (pe_callTy (call_listS rfl) (by rfl) T.n_list (by decide +kernel) (pa_cons (pv 2) pa_nil)) pa_nil)))))))
      (pss_one (ps_ret (pv 1))))), ?_⟩
    refine q_asgL (el_lst ea_nil (Nat.zero_le _)) fun l H1 hl0 e1 h1 => ?_
    refine q_forT (ev_var rfl) (ex_t e1 hA) (fun i σ' H' => ∃ y : Option V, σ' = [some (.ref a), some (.ref l), y] ∧ Ex H H' ∧ H' l = some (.lst ((cellsM (ps.take i)).map V.str))) (fun H2 e2 => ⟨none, rfl, e1.trans e2, e2 _ _ h1⟩) (fun i σ' H' _ pv => ?_) ?_ ?_
    · obtain ⟨y, _, e2, _⟩ := pv
      exact ex_t e2 hA
    · rintro i x σ' H2 hx ⟨y, rfl, e2, h2⟩
      obtain ⟨p, hp, rfl⟩ : ∃ p, ps[i]? = some p ∧ x = .str p := by
        rw [List.getElem?_map] at hx
        cases hq : ps[i]? with
        | none =>
          rw [hq] at hx
          cases hx
        | some p =>
          rw [hq] at hx
          exact ⟨p, rfl, (Option.some.inj hx).symm⟩
      exact cells_turn (σ := []) (y := a) T hp hl hn hl0 e2 h2 fun H' e' h' => ⟨_, rfl, e', h'⟩
    · rintro σ' H2 ⟨y, rfl, e2, h2⟩
      rw [List.length_map, List.take_of_length_le (Nat.le_refl _)] at h2
      exact s_ret (ev_var rfl) fun H3 e3 => q l H3 hl0 (e2.trans e3) (e3 _ _ h2)

/-! ### drawn signs, texts -/
theorem evp_take {σ : L2.St} {G : Hp} {p : Addr} {s : Int × Int} {n : Int} {i : Nat} (hi : σ[i]? = some (some (.ref p))) (hk : Pk s) (h0 : 0 < n) (h1 : n < 2 ^ 60) :
    EvP (tCall spTake [] E0 (tCons (tVar i) (tCons (tC (.int n)) tNil))) σ G p s (.int (take s n).1) (take s n).2 :=
  evp_call (EvAP.of (ea_cons (ev_var hi) (ea_cons ev_c ea_nil))) (sp_take hk h0 h1)
/-- the sign of a text that a draw picks -/
def sgn (z : Str) (d : Int) : Nat := z.cps.toList.getD d.toNat 0
theorem str_len (z : Str) : z.length = z.cps.toList.length := by simp [Str.length]
theorem sgn_ix {z : Str} {d : Int} (h0 : 0 ≤ d) (h : d < (z.length : Int)) : atI z.cps.toList d = some (sgn z d) := by
  have ez := str_len z
  have h3 : d.toNat < z.cps.toList.length := by omega
  unfold atI ixN sgn
  rw [if_pos h0, if_pos (by omega)]
  show z.cps.toList[d.toNat]? = _
  rw [List.getElem?_eq_getElem h3, List.getD_eq_getElem?_getD, List.getElem?_eq_getElem h3]
  rfl
theorem sgn_mem {z : Str} {d : Int} (h0 : 0 ≤ d) (h : d < (z.length : Int)) : sgn z d ∈ z.cps.toList := by
  have ez := str_len z
  have h3 : d.toNat < z.cps.toList.length := by omega
  unfold sgn
  rw [List.getD_eq_getElem?_getD, List.getElem?_eq_getElem h3]
  exact List.getElem_mem h3
theorem len_signs : signsS.length = 68 := by decide +kernel
theorem app1_len (z : Str) (c : Nat) : (z ++ (⟨#[c]⟩ : Str)).length = z.length + 1 := by
  show (z.cps ++ #[c]).size = z.cps.size + 1
  simp
theorem app1_list (z : Str) (c : Nat) : (z ++ (⟨#[c]⟩ : Str)).cps.toList = z.cps.toList ++ [c] := by
  show (z.cps ++ #[c]).toList = _
  simp
theorem app_len (z y : Str) : (z ++ y).length = z.length + y.length := by
  show (z.cps ++ y.cps).size = z.cps.size + y.cps.size
  simp
theorem app_list (z y : Str) : (z ++ y).cps.toList = z.cps.toList ++ y.cps.toList := by
  show (z.cps ++ y.cps).toList = _
  simp
/-- all its signs are signs of lines -/
def Lny (z : Str) : Prop := ∀ c ∈ z.cps.toList, c ∈ signsS.cps.toList
theorem lny_nil : Lny ("" : Str) := by
  unfold Lny
  decide +kernel
theorem lny_app {z y : Str} (h : Lny z) (k : Lny y) : Lny (z ++ y) := fun c hc => by
  rw [app_list] at hc
  exact (List.mem_append.mp hc).elim (h c) (k c)
theorem lny_1 {c : Nat} (h : c ∈ signsS.cps.toList) : Lny ⟨#[c]⟩ := fun d hd => by
  rw [List.mem_singleton.mp hd]
  exact h
theorem lny_sgn {z : Str} {d : Int} (hz : Lny z) (h0 : 0 ≤ d) (h : d < (z.length : Int)) : Lny ⟨#[sgn z d]⟩ := lny_1 (hz _ (sgn_mem h0 h))
theorem sign_lt {c : Nat} (h : c ∈ signsS.cps.toList) : c < 128 := by
  have : ∀ c ∈ signsS.cps.toList, c < 128 := by decide +kernel
  exact this c h
theorem lny_ok {z : Str} (h : Lny z) : okV (.str z) = true := by
  show z.cps.all (fun x => decide (x < 0x110000)) = true
  rw [← Array.all_toList]
  exact List.all_eq_true.mpr fun c hc => decide_eq_true (by have := sign_lt (h c hc); omega)
/-! _law_text -/
def fewS : Str := "a1-b"
def textT (style : Int) (st : Str × (Int × Int)) : Str × (Int × Int) :=
  if style = 0 then (st.1 ++ ⟨#[sgn signsS (take st.2 68).1]⟩, (take st.2 68).2) else (st.1 ++ ⟨#[sgn fewS (take st.2 4).1]⟩, (take st.2 4).2)
def textN (style : Int) : Nat → Str × (Int × Int) → Str × (Int × Int)
  | 0, st => st
  | i + 1, st => textT style (textN style i st)
def lawText (s : Int × Int) : Str × (Int × Int) := textN (take s 3).1 (1 + (take (take s 3).2 4).1).toNat (("" : Str), (take (take s 3).2 4).2)
theorem textT_ok {style : Int} {st : Str × (Int × Int)} (h : Pk st.2) (l : Lny st.1) : Pk (textT style st).2 ∧ Lny (textT style st).1 ∧ (textT style st).1.length = st.1.length + 1 := by
  have t1 := take_lt (s := st.2) (n := 68) (by decide)
  have t2 := take_lt (s := st.2) (n := 4) (by decide)
  unfold textT
  split
  · exact ⟨take_pk h, lny_app l (lny_sgn (fun _ z => z) t1.1 (by rw [len_signs]; exact t1.2)), app1_len _ _⟩
  · exact ⟨take_pk h, lny_app l (lny_sgn (z := fewS) (by unfold Lny; decide +kernel) t2.1 (by rw [show fewS.length = 4 by decide +kernel]; exact t2.2)), app1_len _ _⟩
theorem textN_ok {style : Int} {s : Int × Int} (h : Pk s) : ∀ n, Pk (textN style n (("" : Str), s)).2 ∧ Lny (textN style n (("" : Str), s)).1 ∧ (textN style n (("" : Str), s)).1.length = n
  | 0 => ⟨h, lny_nil, by
    show ("" : Str).length = 0
    decide +kernel⟩
  | n + 1 => by
    obtain ⟨h1, h2, h3⟩ := textN_ok h n (style := style)
    obtain ⟨k1, k2, k3⟩ := textT_ok (style := style) h1 h2
    exact ⟨k1, k2, by rw [h3] at k3; exact k3⟩
theorem lawText_ok {s : Int × Int} (h : Pk s) : Pk (lawText s).2 ∧ Lny (lawText s).1 ∧ 1 ≤ (lawText s).1.length ∧ (lawText s).1.length ≤ 4 := by
  have t2 := take_lt (s := (take s 3).2) (n := 4) (by decide)
  obtain ⟨h1, h2, h3⟩ := textN_ok (style := (take s 3).1) (take_pk (n := 4) (take_pk (n := 3) h)) (1 + (take (take s 3).2 4).1).toNat
  exact ⟨h1, h2, by unfold lawText; omega, by unfold lawText; omega⟩
def spPT (f : Int × Int → Str × (Int × Int)) : Sp := fun vs H Q _ => ∃ (p : Addr) (s : Int × Int), vs = [.ref p] ∧ H p = some (pl s) ∧ Pk s ∧ RetP p (f s).2 (.str (f s).1) H Q
theorem evp_pt {f : Int × Int → Str × (Int × Int)} {σ : L2.St} {G : Hp} {p : Addr} {s : Int × Int} {i : Nat} (hi : σ[i]? = some (some (.ref p))) (hk : Pk s) :
    EvP (tCall (spPT f) [] E0 (tCons (tVar i) tNil)) σ G p s (.str (f s).1) (f s).2 :=
  evp_call (EvAP.of (ea_cons (ev_var hi) ea_nil)) fun H k Q q _ => ⟨p, s, rfl, k.at_, hk, q⟩
theorem ok__law_text {f : Addr} {fd : FuncData} (F : Fun K "_law_text" "_law_text" s__law_text f fd) (T : Txt K mg a_OPEN_PARTS C_Both C_Either C_Form C_GlueError C_NoForm C_NoText) (D__law_take : Df P w K mg base "_law_take" ["pool", "many"] 1 spTake)
    (D__law_all_signs : Df P w K mg base "_law_all_signs" [] 1 (spK (.str signsS))) : FnOk P w K mg base CX0 2 f fd ["pool"] (spPT lawText) := by
  refine F.ok sc__law_text (fun vs H Q E h => ?_) (fun cdv A outer s0 H vs Q E hr h => ?_)
  · obtain ⟨p, s, rfl, _⟩ := h
    rfl
  · obtain ⟨p, s, rfl, hp, hk, q⟩ := h
    refine ⟨_, (pss_cons (ps_set (i := 1) sc__law_text.nd rfl (Or.inl rfl) pe_str)
      (pss_cons (ps_set (i := 2) sc__law_text.nd rfl (Or.inl rfl) (pe_df D__law_take (hr.mono (by decide)) (by rfl) (pa_cons (pv 0) (pa_cons pe_int pa_nil))))
      (pss_cons (ps_for PassesOwn.never rfl (pi_range1 (by rfl) T.n_range (pa_cons (pe_op op_add pe_int (pe_df D__law_take (hr.mono (by decide)) (by rfl) (pa_cons (pv 0) (pa_cons pe_int pa_nil)))) pa_nil)) (pg_name (i := 3) sc__law_text.nd rfl (Or.inl rfl))
      (pss_one (ps_if (pt_cmpR op_eq (pv 2) pe_int (nomark _))
      (pss_one (ps_set (i := 1) sc__law_text.nd rfl (Or.inl rfl) (pe_op op_add_str (pv 1) (pe_ix ix_str (pe_df0 D__law_all_signs (hr.mono (by decide)) (by rfl)) (pe_df D__law_take (hr.mono (by decide)) (by rfl) (pa_cons (pv 0) (pa_cons pe_int pa_nil))) (fun _ _ => rfl)))))
      (pss_one (ps_set (i := 1) sc__law_text.nd rfl (Or.inl rfl) (pe_op op_add_str (pv 1) (pe_ix ix_str pe_str (pe_df D__law_take (hr.mono (by decide)) (by rfl) (pa_cons (pv 0) (pa_cons pe_int pa_nil))) (fun _ _ => rfl))))))))
      (pss_one (ps_ret (pv 1)))))), ?_⟩
    have K0 := Kn.here hp
    refine q_asg ev_c fun H1 e1 => ?_
    have K1 := K0.same e1
    refine qp_asg K1 (evp_take rfl hk (by decide) (by decide)) fun H2 K2 e2 => ?_
    have hk1 : Pk (take s 3).2 := take_pk hk
    have t4 := take_lt (s := (take s 3).2) (n := 4) (by decide)
    refine qp_forR1 K2 (eap_cons (evp_op (EvP.of ev_c) (evp_take rfl hk1 (by decide) (by decide)) rv_add) eap_nil) ⟨by omega, by omega⟩
      (fun i σ' H' => ∃ y : Option V, σ' = [some (.ref p), some (.str (textN (take s 3).1 i (("" : Str), (take (take s 3).2 4).2)).1), some (.int (take s 3).1), y] ∧ Kn (hide p H) p (textN (take s 3).1 i (("" : Str), (take (take s 3).2 4).2)).2 H' ∧ i ≤ 4)
      (fun H3 K3 e3 => ⟨none, rfl, K3, by omega⟩) ?_ ?_
    · rintro i σ' H' hi ⟨y, rfl, K3, hi7⟩
      obtain ⟨hk3, hny, hlen⟩ := textN_ok (style := (take s 3).1) (take_pk (n := 4) hk1) i
      generalize hst : textN (take s 3).1 i (("" : Str), (take (take s 3).2 4).2) = st at K3 hk3 hny hlen ⊢
      have hst1 : textN (take s 3).1 (i + 1) (("" : Str), (take (take s 3).2 4).2) = textT (take s 3).1 st := by
        show textT (take s 3).1 (textN (take s 3).1 i (("" : Str), (take (take s 3).2 4).2)) = _
        rw [hst]
      rw [hst1]
      generalize (take s 3).1 = style
      refine sp_if K3 (EvTP.of (et_test (ev_op (ev_var rfl) ev_c rv_eqI))) (fun hb H4 K4 e4 => ?_) (fun hb H4 K4 e4 => ?_)
      · have e1 : textT style st = (st.1 ++ ⟨#[sgn signsS (take st.2 68).1]⟩, (take st.2 68).2) := if_pos (of_decide_eq_true hb)
        rw [e1]
        have t9 := take_lt (s := st.2) (n := 68) (by decide)
        refine sp_asg K4 (evp_op (EvP.of (ev_var rfl)) (evp_op (EvP.of (ev_call ea_nil sv_spK)) (evp_take rfl hk3 (by decide) (by decide)) (rv_ixS (by decide +kernel) (sgn_ix t9.1 (by rw [len_signs]; exact t9.2)))) (rv_cat ?_)) fun H5 K5 e5 => ⟨_, rfl, K5, by omega⟩
        show st.1.length + 1 ≤ 100000
        omega
      · have e1 : textT style st = (st.1 ++ ⟨#[sgn fewS (take st.2 4).1]⟩, (take st.2 4).2) := if_neg (of_decide_eq_false hb)
        rw [e1]
        have t9 := take_lt (s := st.2) (n := 4) (by decide)
        refine sp_asg K4 (evp_op (EvP.of (ev_var rfl)) (evp_op (EvP.of ev_c) (evp_take rfl hk3 (by decide) (by decide)) (rv_ixS (w := fewS) (by decide +kernel) (sgn_ix t9.1 (by rw [show fewS.length = 4 by decide +kernel]; exact t9.2)))) (rv_cat ?_)) fun H5 K5 e5 => ⟨_, rfl, K5, by omega⟩
        show st.1.length + 1 ≤ 100000
        omega
    · rintro σ' H' ⟨y, rfl, K3, _⟩
      exact s_ret (ev_var rfl) fun H4 e4 => q H4 (hx_trans K3.ex (hx_of e4)) (e4 p _ K3.at_)

theorem tup_at {xs : List V} {k : Nat} {v : V} (h : xs[k]? = some v) : atI xs (k : Int) = some v := by
  have hk := (List.getElem?_eq_some_iff.mp h).1
  unfold atI ixN
  rw [if_pos (by omega), if_pos (by omega)]
  exact h

/-! ### slices of lists; states' lengths -/
theorem cutV_lt {xs : List V} {b : Nat} : cutV xs none (some (b : Int)) = xs.take b := by
  unfold cutV
  rw [HT.sIx_none, HT.sIx_nat, List.drop_zero, Nat.sub_zero]
  by_cases h : b ≤ xs.length
  · rw [Nat.min_eq_left h]
  · rw [Nat.min_eq_right (by omega), List.take_of_length_le (Nat.le_refl _), List.take_of_length_le (by omega)]
theorem cutV_in {xs : List V} {a b : Nat} : cutV xs (some (a : Int)) (some (b : Int)) = (xs.drop a).take (b - a) := by
  unfold cutV
  rw [HT.sIx_nat, HT.sIx_nat]
  by_cases h : a ≤ xs.length
  · rw [Nat.min_eq_left h]
    by_cases h2 : b ≤ xs.length
    · rw [Nat.min_eq_left h2]
    · rw [Nat.min_eq_right (by omega), List.take_of_length_le (by rw [List.length_drop]; exact Nat.le_refl _), List.take_of_length_le (by rw [List.length_drop]; omega)]
  · rw [Nat.min_eq_right (by omega : xs.length ≤ a), List.drop_of_length_le (Nat.le_refl _), List.drop_of_length_le (by omega)]
    simp

/-! ### _law_rich -/
def openL (p : Str) : Bool := decide (p ∈ [anyP, digP, wordP])
theorem openL_eq (p : Str) : openL p = isOpen p := by
  rw [isOpen_eq]
  unfold openL
  simp only [List.mem_cons, List.not_mem_nil, or_false]
  congr 1
  apply propext
  constructor
  · rintro (h | h | h)
    · exact .inr (.inr h)
    · exact .inl h
    · exact .inr (.inl h)
  · rintro (h | h | h)
    · exact .inr (.inl h)
    · exact .inr (.inr h)
    · exact .inl h
def lastFixed (ps : List Str) : Bool := !ps.isEmpty && !isOpen (ps.getLast?.getD "")
def richT (st : List Str × (Int × Int)) : List Str × (Int × Int) :=
  if (take st.2 6).1 = 0 ∧ anyP ∉ st.1 then (st.1 ++ [anyP], (take st.2 6).2)
  else if (take st.2 6).1 = 1 then (st.1 ++ [digP], (take st.2 6).2)
  else if (take st.2 6).1 = 2 ∨ lastFixed st.1 = true then (st.1 ++ [wordP], (take st.2 6).2)
  else (st.1 ++ [(lawText (take st.2 6).2).1], (lawText (take st.2 6).2).2)
def richN : Nat → List Str × (Int × Int) → List Str × (Int × Int)
  | 0, st => st
  | i + 1, st => richT (richN i st)
def rich (s : Int × Int) : List Str × (Int × Int) := richN (1 + (take s 4).1).toNat ([], (take s 4).2)
/-- a fixed text of one to four signs -/
def fixedP (p : Str) : Prop := Lny p ∧ 1 ≤ p.length ∧ p.length ≤ 4
/-- parts that make a form -/
structure Parts (ps : List Str) : Prop where
  each : ∀ p ∈ ps, isOpen p = true ∨ fixedP p
  adj : ∀ (i : Nat) (p q : Str), ps[i]? = some p → ps[i + 1]? = some q → isOpen p = true ∨ isOpen q = true
  one : ∀ i j : Nat, ps[i]? = some anyP → ps[j]? = some anyP → i = j
theorem parts_nil : Parts [] := ⟨fun _ h => (nomatch h), fun _ _ _ h => (nomatch h), fun _ _ h => (nomatch h)⟩
theorem open_any : isOpen anyP = true := by decide +kernel
theorem open_dig : isOpen digP = true := by decide +kernel
theorem open_word : isOpen wordP = true := by decide +kernel
theorem app_get {α : Type} {xs : List α} {x y : α} {i : Nat} (h : (xs ++ [x])[i]? = some y) : xs[i]? = some y ∨ (i = xs.length ∧ x = y) := by
  by_cases hi : i < xs.length
  · rw [List.getElem?_append_left hi] at h
    exact .inl h
  · rw [List.getElem?_append_right (by omega)] at h
    by_cases e : i = xs.length
    · subst e
      rw [Nat.sub_self] at h
      exact .inr ⟨rfl, Option.some.inj h⟩
    · rw [List.getElem?_eq_none_iff.mpr (by simp; omega)] at h
      cases h
/-- one part more -/
theorem Parts.snoc {ps : List Str} {p : Str} (h : Parts ps) (he : isOpen p = true ∨ fixedP p) (ha : isOpen p = true ∨ lastFixed ps = false) (ho : p = anyP → anyP ∉ ps) : Parts (ps ++ [p]) := by
  refine ⟨fun q hq => ?_, fun i x y hx hy => ?_, fun i j hi hj => ?_⟩
  · rcases List.mem_append.mp hq with hq | hq
    · exact h.each q hq
    · rw [List.mem_singleton.mp hq]
      exact he
  · rcases app_get hy with hy' | ⟨e, rfl⟩
    · rcases app_get hx with hx' | ⟨e, rfl⟩
      · exact h.adj i x y hx' hy'
      · have := (List.getElem?_eq_some_iff.mp hy').1
        omega
    · rcases ha with ha | ha
      · exact .inr ha
      · left
        rcases app_get hx with hx' | ⟨e', _⟩
        · have hl : ps.getLast? = some x := by
            rw [List.getLast?_eq_getElem?, ← hx']
            congr 1
            omega
          unfold lastFixed at ha
          rw [hl] at ha
          have hne : ps.isEmpty = false := by
            cases ps with
            | nil => cases hx'
            | cons _ _ => rfl
          rw [hne] at ha
          simpa using ha
        · omega
  · rcases app_get hi with hi' | ⟨e, ep⟩
    · rcases app_get hj with hj' | ⟨e', ep'⟩
      · exact h.one i j hi' hj'
      · exact absurd (List.mem_of_getElem? hi') (ho ep')
    · rcases app_get hj with hj' | ⟨e', ep'⟩
      · exact absurd (List.mem_of_getElem? hj') (ho ep)
      · omega
theorem richT_ok {st : List Str × (Int × Int)} (h : Pk st.2) (hp : Parts st.1) : Pk (richT st).2 ∧ Parts (richT st).1 ∧ (richT st).1.length = st.1.length + 1 := by
  have hk : Pk (take st.2 6).2 := take_pk h
  have ht := lawText_ok hk
  unfold richT
  split
  · rename_i hc
    exact ⟨hk, hp.snoc (.inl open_any) (.inl open_any) (fun _ => hc.2), by simp⟩
  · split
    · exact ⟨hk, hp.snoc (.inl open_dig) (.inl open_dig) (fun e => absurd e (by decide +kernel)), by simp⟩
    · split
      · exact ⟨hk, hp.snoc (.inl open_word) (.inl open_word) (fun e => absurd e (by decide +kernel)), by simp⟩
      · rename_i hc
        refine ⟨ht.1, hp.snoc (.inr ⟨ht.2.1, ht.2.2⟩) (.inr ?_) (fun e => ?_), by simp⟩
        · cases hl : lastFixed st.1 with
          | false => rfl
          | true => exact absurd (.inr hl) hc
        · have h4 := ht.2.2.2
          rw [e] at h4
          exact absurd h4 (by decide +kernel)
theorem richN_ok {s : Int × Int} (h : Pk s) : ∀ n, Pk (richN n ([], s)).2 ∧ Parts (richN n ([], s)).1 ∧ (richN n ([], s)).1.length = n
  | 0 => ⟨h, parts_nil, rfl⟩
  | n + 1 => by
    obtain ⟨h1, h2, h3⟩ := richN_ok h n
    obtain ⟨k1, k2, k3⟩ := richT_ok h1 h2
    exact ⟨k1, k2, by rw [h3] at k3; exact k3⟩
theorem rich_ok {s : Int × Int} (h : Pk s) : Pk (rich s).2 ∧ Parts (rich s).1 ∧ 1 ≤ (rich s).1.length ∧ (rich s).1.length ≤ 4 := by
  have t := take_lt (s := s) (n := 4) (by decide)
  obtain ⟨h1, h2, h3⟩ := richN_ok (take_pk (n := 4) h) (1 + (take s 4).1).toNat
  exact ⟨h1, h2, by unfold rich; omega, by unfold rich; omega⟩
theorem open_len {p : Str} (h : isOpen p = true) : p.length ≤ 8 := by
  rcases isOpen_iff.mp h with rfl | rfl | rfl <;> decide +kernel
theorem open_ok {p : Str} (h : isOpen p = true) : okV (.str p) = true := by
  rcases isOpen_iff.mp h with rfl | rfl | rfl <;> decide +kernel
theorem Parts.len {ps : List Str} (h : Parts ps) : ∀ p ∈ ps, p.length ≤ 8 := fun p hp => (h.each p hp).elim open_len (fun k => by have := k.2.2; omega)
theorem Parts.okV {ps : List Str} (h : Parts ps) : ∀ v ∈ ps.map V.str, okV v = true := fun v hv => by
  obtain ⟨p, hp, rfl⟩ := List.mem_map.mp hv
  exact (h.each p hp).elim open_ok (fun k => lny_ok k.1)
/-- what hands back a new list, the pool at p then s' -/
def RetPL (p : Addr) (s' : Int × Int) (xs : List V) (H : Hp) (Q : VK) : Prop := ∀ l H', H l = none → Ex (hide p H) H' → H' p = some (pl s') → H' l = some (.lst xs) → Q (.ref l) H'
def spRich : Sp := fun vs H Q _ => ∃ (p : Addr) (s : Int × Int), vs = [.ref p] ∧ H p = some (pl s) ∧ Pk s ∧ RetPL p (rich s).2 ((rich s).1.map V.str) H Q
theorem ok__law_rich {f : Addr} {fd : FuncData} (F : Fun K "_law_rich" "_law_rich" s__law_rich f fd) (T : Txt K mg a_OPEN_PARTS C_Both C_Either C_Form C_GlueError C_NoForm C_NoText) (D__law_take : Df P w K mg base "_law_take" ["pool", "many"] 1 spTake)
    (D__law_text : Df P w K mg base "_law_text" ["pool"] 2 (spPT lawText)) : FnOk P w K mg base CX0 3 f fd ["pool"] spRich := by
  refine F.ok sc__law_rich (fun vs H Q E h => ?_) (fun cdv A outer s0 H vs Q E hr h => ?_)
  · obtain ⟨p, s, rfl, _⟩ := h
    rfl
  · obtain ⟨p, s, rfl, hp, hk, q⟩ := h
    refine ⟨_, (pss_cons (ps_set (i := 1) sc__law_rich.nd rfl (Or.inl rfl) (pe_lst pa_nil))
      (pss_cons (ps_for PassesOwn.never rfl (pi_range1 (by rfl) T.n_range (pa_cons (pe_op op_add pe_int (pe_df D__law_take (hr.mono (by decide)) (by rfl) (pa_cons (pv 0) (pa_cons pe_int pa_nil)))) pa_nil)) (pg_name (i := 2) sc__law_rich.nd rfl (Or.inl rfl))
      (pss_cons (ps_set (i := 3) sc__law_rich.nd rfl (Or.inl rfl) (pe_df D__law_take (hr.mono (by decide)) (by rfl) (pa_cons (pv 0) (pa_cons pe_int pa_nil))))
      (pss_cons (ps_set (i := 4) sc__law_rich.nd rfl (Or.inl rfl) (pe_and (pe_cmpR (op_neD hr.units) (pv 1) (pe_lst pa_nil) (nomark _)) (pe_one (pe_cmpR op_notIn_seq (pe_ix ix_list (pv 1) (pe_un un_neg pe_int) (fun _ _ => rfl)) (pe_tup (pa_cons pe_str (pa_cons pe_str (pa_cons pe_str pa_nil)))) (by rfl)))))
      (pss_one (ps_if (PW.pt (pw_and (pt_cmpR op_eq (pv 3) pe_int (nomark _)) (pw_and1 (pt_cmpR op_notIn_seq pe_str (pv 1) (by rfl)))))
      (pss_one (ps_expr (pe_bm PySem.F.plainAttrs_list PySem.F.slot_list_append PySem.F.type_list_append mt_append (pv 1) (pa_cons pe_str pa_nil))))
      (pss_one (ps_if (pt_cmpR op_eq (pv 3) pe_int (nomark _))
      (pss_one (ps_expr (pe_bm PySem.F.plainAttrs_list PySem.F.slot_list_append PySem.F.type_list_append mt_append (pv 1) (pa_cons pe_str pa_nil))))
      (pss_one (ps_if (PW.pt (pw_or (pt_cmpR op_eq (pv 3) pe_int (nomark _)) (pw_or1 (pt_val (pv 4)))))
      (pss_one (ps_expr (pe_bm PySem.F.plainAttrs_list PySem.F.slot_list_append PySem.F.type_list_append mt_append (pv 1) (pa_cons pe_str pa_nil))))
      (pss_one (ps_expr (pe_bm PySem.F.plainAttrs_list PySem.F.slot_list_append PySem.F.type_list_append mt_append (pv 1) (pa_cons (pe_df D__law_text (hr.mono (by decide)) (by rfl) (pa_cons (pv 0) pa_nil)) pa_nil)))))))))))))
      (pss_one (ps_ret (pv 1))))), ?_⟩
    have K0 := Kn.here hp
    refine q_asgL (el_lst ea_nil (Nat.zero_le _)) fun l H1 hl0 e1 h1 => ?_
    have K1 := K0.same e1
    have nlp : l ≠ p := fun z => by
      rw [z, hp] at hl0
      cases hl0
    have hGl : hide p H l = none := by
      rw [hide_ne nlp]
      exact hl0
    have t4 := take_lt (s := s) (n := 4) (by decide)
    refine qp_forR1 K1 (eap_cons (evp_op (EvP.of ev_c) (evp_take rfl hk (by decide) (by decide)) rv_add) eap_nil) ⟨by omega, by omega⟩
      (fun i σ' H' => ∃ y1 y2 y3 : Option V, σ' = [some (.ref p), some (.ref l), y1, y2, y3] ∧ Kn (hide p H) p (richN i ([], (take s 4).2)).2 H' ∧ H' l = some (.lst ((richN i ([], (take s 4).2)).1.map V.str)) ∧ i ≤ 4)
      (fun H3 K3 e3 => ⟨none, none, none, rfl, K3, e3 _ _ (by rw [hide_ne nlp]; exact h1), by omega⟩) ?_ ?_
    · rintro i σ' H2 hi ⟨y1, y2, y3, rfl, K2, h2, hi4⟩
      obtain ⟨hk2, hps, hlen⟩ := richN_ok (take_pk (n := 4) hk) i
      generalize hst : richN i ([], (take s 4).2) = st at K2 hk2 hps hlen h2
      have hst1 : richN (i + 1) ([], (take s 4).2) = richT st := by
        show richT (richN i ([], (take s 4).2)) = _
        rw [hst]
      rw [hst1]
      have hk3 : Pk (take st.2 6).2 := take_pk hk2
      refine qp_asg K2 (evp_take rfl hk2 (by decide) (by decide)) fun H3 K3 e3 => ?_
      have h3 : H3 l = some (.lst (st.1.map V.str)) := e3 _ _ (by rw [hide_ne nlp]; exact h2)
      have hn3 : hide p H3 l = some (.lst (st.1.map V.str)) := by rw [hide_ne nlp]; exact h3
      have okl : ∀ v ∈ st.1.map V.str, okV v = true := hps.okV
      refine q_asg (v := .bl (lastFixed st.1)) (ev_is (ev_andV (a := !eqF (st.1.map V.str) []) (b := !isOpen (st.1.getLast?.getD "")) (ev_opL (ev_var rfl) (el_lst ea_nil (Nat.zero_le _)) fun q1 H4 hq4 e4 => rv_neL (sq_of (e4 _ _ h3)) (sq_of hq4) okl (by simp)) fun hb => ?_) ?_) fun H4 e4 => ?_
      · have hne : st.1.map V.str ≠ [] := fun z => by
          rw [z] at hb
          cases hb
        have hne2 : st.1 ≠ [] := fun z => hne (by rw [z]; rfl)
        have hlast : atI (st.1.map V.str) (-1) = some (.str (st.1.getLast?.getD "")) := by
          rw [at_last hne, List.getLast?_map]
          cases hq : st.1.getLast? with
          | none => exact absurd (List.getLast?_eq_none_iff.mp hq) hne2
          | some x => rfl
        refine ev_is (ev_niU (ev_op (ev_var rfl) (ev_neg ev_c) (rv_ixL (sq_of h3) hlast)) (eu_tup (ea_cons ev_c (ea_cons ev_c (ea_cons ev_c ea_nil))) (by simp)) rfl rfl) ?_
        rw [← openL_eq]
        exact congrArg (fun b => V.bl (!b)) (inV_str _ [anyP, digP, wordP])
      · unfold lastFixed
        rw [eqF_nil]
        cases st.1 <;> rfl
      have K4 := K3.same e4
      have h4 := e4 _ _ h3
      have big : (st.1.map V.str).length < 100000 := by
        rw [List.length_map]
        omega
      have done : ∀ (x : Str) (s' : Int × Int) (y1' y2' y3' : Option V) (H5 : Hp), richT st = (st.1 ++ [x], s') → Kn (hide p H) p s' H5 → (∃ y1 y2 y3 : Option V, ([some (.ref p), some (.ref l), y1', y2', y3'] : L2.St) = [some (.ref p), some (.ref l), y1, y2, y3] ∧ Kn (hide p H) p (richT st).2 (upd H5 l (.lst (st.1.map V.str ++ [.str x]))) ∧ (upd H5 l (.lst (st.1.map V.str ++ [.str x]))) l = some (.lst ((richT st).1.map V.str)) ∧ i + 1 ≤ 4) := by
        intro x s' z1 z2 z3 H5 he K5
        refine ⟨z1, z2, z3, rfl, ?_, ?_, by omega⟩
        · rw [he]
          exact K5.mut hGl (Ne.symm nlp)
        · rw [he, upd_same, List.map_append]
          rfl
      refine s_if (b := decide ((take st.2 6).1 = 0) && !decide (anyP ∈ st.1)) (et_and (et_test (ev_op (ev_var rfl) ev_c rv_eqI)) fun _ => et_test (ev_is (ev_op ev_c (ev_var rfl) (rv_niL (sq_of h4) rfl (flat_str _))) (congrArg (fun b => V.bl (!b)) (inV_str _ _)))) (fun hb H5 e5 => ?_) (fun hb H5 e5 => ?_)
      · obtain ⟨c1, c2⟩ := Bool.and_eq_true _ _ ▸ hb
        have c2' : anyP ∉ st.1 := by simpa using c2
        exact s_app (e5 _ _ h4) (ev_var rfl) ev_c big fun H6 e6 => done anyP _ _ _ _ H6 (if_pos ⟨of_decide_eq_true c1, c2'⟩) ((K4.same e5).same e6)
      · have n1 : ¬ ((take st.2 6).1 = 0 ∧ anyP ∉ st.1) := fun z => by
          rw [decide_eq_true z.1, decide_eq_false z.2] at hb
          cases hb
        have h5 := e5 _ _ h4
        have K5 := K4.same e5
        refine s_if (b := decide ((take st.2 6).1 = 1)) (et_test (ev_op (ev_var rfl) ev_c rv_eqI)) (fun hc H6 e6 => ?_) (fun hc H6 e6 => ?_)
        · exact s_app (e6 _ _ h5) (ev_var rfl) ev_c big fun H7 e7 => done digP _ _ _ _ H7 (by unfold richT; rw [if_neg n1, if_pos (of_decide_eq_true hc)]) ((K5.same e6).same e7)
        · have n2 := of_decide_eq_false hc
          have h6 := e6 _ _ h5
          have K6 := K5.same e6
          refine s_if (b := decide ((take st.2 6).1 = 2) || lastFixed st.1) (et_or (et_test (ev_op (ev_var rfl) ev_c rv_eqI)) fun _ => et_B (ev_var rfl)) (fun hd H7 e7 => ?_) (fun hd H7 e7 => ?_)
          · have n3 : (take st.2 6).1 = 2 ∨ lastFixed st.1 = true := by
              rcases Bool.or_eq_true _ _ ▸ hd with hd | hd
              · exact .inl (of_decide_eq_true hd)
              · exact .inr hd
            exact s_app (e7 _ _ h6) (ev_var rfl) ev_c big fun H8 e8 => done wordP _ _ _ _ H8 (by unfold richT; rw [if_neg n1, if_neg n2, if_pos n3]) ((K6.same e7).same e8)
          · have n3 : ¬ ((take st.2 6).1 = 2 ∨ lastFixed st.1 = true) := fun z => by
              rcases z with z | z
              · rw [decide_eq_true z] at hd
                cases hd
              · rw [z, Bool.or_true] at hd
                cases hd
            exact sp_app (K6.same e7) (e7 _ _ h6) nlp rfl (evp_pt rfl hk3) big fun H8 K8 e8 => done _ _ _ _ _ H8 (by unfold richT; rw [if_neg n1, if_neg n2, if_neg n3]) K8
    · rintro σ' H2 ⟨y1, y2, y3, rfl, K2, h2, _⟩
      exact s_ret (ev_var rfl) fun H4 e4 => q l H4 hl0 (hx_trans K2.ex (hx_of e4)) (e4 p _ K2.at_) (e4 _ _ h2)

/-- a short text -/
def okS (z : Str) : Prop := z.length ≤ 1000 ∧ True
/-- what may stand as a part -/
inductive PV (H : Hp) : V → Prop
  | str {z : Str} (h : okS z) : PV H (.str z)
  | non : PV H .non
  | int (i : Int) : PV H (.int i)
  | bl (b : Bool) : PV H (.bl b)
  | lst {r : Addr} (h : H r = some (.lst [.str ("a" : Str)])) : PV H (.ref r)
theorem PV.ex {H H' : Hp} {x : V} (h : PV H x) (e : Ex H H') : PV H' x := by
  cases h with
  | str h => exact .str h
  | non => exact .non
  | int i => exact .int i
  | bl b => exact .bl b
  | lst h => exact .lst (e _ _ h)
theorem PV.ty {H : Hp} {x : V} (h : PV H x) : (∃ z, x = .str z ∧ okS z) ∨ ((∀ z, x ≠ .str z) ∧ ∃ a : String, TyX K H x (.type a) ∧ kitB a "str" = some false) := by
  cases h with
  | str h => exact .inl ⟨_, rfl, h⟩
  | non => exact .inr ⟨fun z e => (nomatch e), _, .base .non, by decide +kernel⟩
  | int i => exact .inr ⟨fun z e => (nomatch e), _, .base (.int i), by decide +kernel⟩
  | bl b => exact .inr ⟨fun z e => (nomatch e), _, .base (.bl b), by decide +kernel⟩
  | lst h => exact .inr ⟨fun z e => (nomatch e), _, .base (.lst h), by decide +kernel⟩
/-- list of parts at l: H without l and p holds what they are -/
def PVs (G : Hp) (xs : List V) : Prop := ∀ x ∈ xs, PV G x
theorem PVs.ex {G H : Hp} {xs : List V} (h : PVs G xs) (e : Ex G H) : PVs H xs := fun x hx => (h x hx).ex e
theorem PVs.snoc {G : Hp} {xs : List V} {x : V} (h : PVs G xs) (k : PV G x) : PVs G (xs ++ [x]) := fun y hy => (List.mem_append.mp hy).elim (h y) fun z => by
  rw [List.mem_singleton.mp z]
  exact k
theorem at_mem {xs : List V} {d : Int} (h0 : 0 ≤ d) (h : d < (xs.length : Int)) : ∃ v, atI xs d = some v ∧ v ∈ xs := by
  have h3 : d.toNat < xs.length := by omega
  refine ⟨xs[d.toNat], ?_, List.getElem_mem h3⟩
  unfold atI ixN
  rw [if_pos h0, if_pos h]
  exact List.getElem?_eq_getElem h3

/-! ### what makes a part wrong -/
def freeV : V → Bool
  | .str z => isOpen z
  | _ => false
def fixM (z : Str) : Bool := !isOpen z && ((decide ((1 : Int) ≤ (z.length : Int)) && decide ((z.length : Int) ≤ 4)) && z.cps.toList.all fun c => decide (c ∈ signsS.cps.toList))
def fixV : V → Bool
  | .str z => fixM z
  | _ => false
def anyV : V → Bool
  | .str z => decide (z = anyP)
  | _ => false
def prevFix (xs : List V) (k : Nat) : Bool := decide (0 < k) && fixV (xs.getD (k - 1) .non)
def badAt (xs : List V) (k : Nat) : Bool :=
  (decide (3 < k) || (!freeV (xs.getD k .non) && !fixV (xs.getD k .non))) || ((!freeV (xs.getD k .non) && prevFix xs k) || (anyV (xs.getD k .non) && (xs.take k).any anyV))
/-- what _law_first_bad answers -/
def Due (xs : List V) (d : Int) : Prop := (d = -1 ∧ ∀ j < xs.length, badAt xs j = false) ∨ ∃ k, k < xs.length ∧ badAt xs k = true ∧ (∀ j < k, badAt xs j = false) ∧ d = (k : Int)
theorem good_str {xs : List V} {k : Nat} (h : badAt xs k = false) : ∃ z, xs.getD k .non = .str z ∧ (isOpen z = true ∨ fixM z = true) := by
  unfold badAt at h
  simp only [Bool.or_eq_false_iff] at h
  obtain ⟨⟨_, h⟩, _⟩ := h
  cases hx : xs.getD k .non with
  | str z =>
    rw [hx] at h
    refine ⟨z, rfl, ?_⟩
    change (!isOpen z && !fixM z) = false at h
    cases h1 : isOpen z with
    | true => exact .inl rfl
    | false =>
      rw [h1] at h
      right
      simpa using h
  | _ =>
    rw [hx] at h
    cases h
theorem getD_some {xs : List V} {k : Nat} (h : k < xs.length) : xs[k]? = some (xs.getD k .non) := by
  rw [List.getD_eq_getElem?_getD, List.getElem?_eq_getElem h]
  rfl
/-- ahead of the first wrong part all are texts -/
theorem take_strs {xs : List V} : ∀ {k : Nat}, k ≤ xs.length → (∀ j < k, badAt xs j = false) → ∃ ps : List Str, xs.take k = ps.map V.str ∧ ps.length = k
  | 0, _, _ => ⟨[], by simp, rfl⟩
  | k + 1, hk, h => by
    obtain ⟨ps, e, l⟩ := take_strs (k := k) (by omega) fun j hj => h j (by omega)
    obtain ⟨z, hz, _⟩ := good_str (h k (by omega))
    refine ⟨ps ++ [z], ?_, by rw [List.length_append, l]; rfl⟩
    rw [List.take_add_one, getD_some (by omega), hz, e, List.map_append]
    rfl
theorem any_strs (ps : List Str) : (ps.map V.str).any anyV = decide (anyP ∈ ps) := by
  induction ps with
  | nil => rfl
  | cons p ps ih =>
    rw [List.map_cons, List.any_cons, ih]
    show (decide (p = anyP) || _) = _
    by_cases h : p = anyP
    · simp [h]
    · have h' : ¬ anyP = p := fun z => h z.symm
      simp [h, h']
theorem ev_open {σ : L2.St} {H : Hp} {i : Nat} {z : Str} (hi : σ[i]? = some (some (.str z))) : Ev (tOp (rIn K false) (tVar i) (tTup (tCons (tC (.str digP)) (tCons (tC (.str wordP)) (tCons (tC (.str anyP)) tNil))))) σ H (.bl (isOpen z)) :=
  ev_inU (ev_var hi) (eu_tup (ea_cons ev_c (ea_cons ev_c (ea_cons ev_c ea_nil))) (by simp)) rfl rfl
/-! ### _is_allowed, of any parts -/
def spAllowX (K : PySem.W.Frag) : Sp := fun vs H Q _ => ∃ (t : Addr) (xs : List V) (i : Nat), vs = [.ref t, .int (i : Int)] ∧ SqT K H t xs ∧ xs.length ≤ 1000 ∧ PVs H xs ∧ i < xs.length ∧ (∀ j < i, badAt xs j = false) ∧ RetV (.bl (!badAt xs i)) H Q
theorem ok__is_allowed {f : Addr} {fd : FuncData} (F : Fun K "_is_allowed" "_is_allowed" s__is_allowed f fd) (T : Txt K mg a_OPEN_PARTS C_Both C_Either C_Form C_GlueError C_NoForm C_NoText) (D_is_line : Df P w K mg base "is_line" ["thing"] 1 (spIsLine K)) : FnOk P w K mg base CX0 2 f fd ["parts", "at"] (spAllowX K) := by
  refine F.ok sc__is_allowed (fun vs H Q E h => ?_) (fun cdv A outer s0 H vs Q E hr h => ?_)
  · obtain ⟨t, xs, i, rfl, _⟩ := h
    rfl
  · obtain ⟨t, xs, i, rfl, hT, hl, hpv, hi, hbf, q⟩ := h
    refine ⟨_, (pss_cons (ps_set (i := 2) sc__is_allowed.nd rfl (Or.inl rfl) (pe_ix ix_tup (pv 0) (pv 1) (fun _ _ => rfl)))
      (pss_cons (ps_if (PW.pt (pw_or (pt_cmpR op_ge (pv 1) (pe_cst T.c_MOST_PARTS (by rfl)) (nomark _)) (pw_or1 (pt_not (pt_val (pe_callB call_isi (by rfl) T.n_isinstance (by decide +kernel) (pa_cons (pv 2) (pa_cons (pe_bltn (v := .ty "str") (by rfl) T.n_str (by decide +kernel) rfl) pa_nil))))))))
      (pss_one (ps_ret pe_bl))
      pss_nil)
      (pss_cons (ps_if (pt_cmpR op_eq (pv 2) (pe_cst T.c_ANY_SIGNS (by rfl)) (nomark _))
      (pss_one (ps_ret (pe_cmpR op_notIn_seq (pv 2) (pe_slice sl_tup (pv 0) po_none (po_some (pv 1))) (by rfl))))
      pss_nil)
      (pss_cons (ps_if (pt_cmpR op_in_seq (pv 2) (pe_cst T.c_OPEN_PARTS (by rfl)) (by rfl))
      (pss_one (ps_ret pe_bl))
      pss_nil)
      (pss_cons (ps_if (PW.pt (pw_and (pt_cmpR op_gt (pv 1) pe_int (nomark _)) (pw_and1 (pt_cmpR op_notIn_seq (pe_ix ix_tup (pv 0) (pe_op op_sub (pv 1) pe_int) (fun _ _ => rfl)) (pe_cst T.c_OPEN_PARTS (by rfl)) (by rfl)))))
      (pss_one (ps_ret pe_bl))
      pss_nil)
      (pss_one (ps_ret (pe_and (pe_df D_is_line (hr.mono (by decide)) (by rfl) (pa_cons (pv 2) pa_nil)) (pe_one (pe_cmpR op_le (pe_callB call_len_str (by rfl) T.n_len PySem.boot_len (pa_cons (pv 2) pa_nil)) (pe_cst T.c_MOST_SIGNS (by rfl)) (nomark _))))))))))), ?_⟩
    have gx := getD_some hi
    have px := hpv _ (List.mem_of_getElem? gx)
    refine q_asg (ev_op (ev_var rfl) (ev_var rfl) (rv_ixT hT (tup_at gx))) fun H1 e1 => ?_
    have bd : badAt xs i = ((decide (3 < i) || (!freeV (xs.getD i .non) && !fixV (xs.getD i .non))) || ((!freeV (xs.getD i .non) && prevFix xs i) || (anyV (xs.getD i .non) && (xs.take i).any anyV))) := rfl
    generalize xs.getD i .non = x at px bd
    have hge : decide ((4 : Int) ≤ (i : Int)) = decide (3 < i) := by
      apply Bool.eq_iff_iff.mpr
      rw [decide_eq_true_iff, decide_eq_true_iff]
      omega
    rcases px.ty with ⟨z, rfl, hz, hzo⟩ | ⟨hn, b, ty, hk⟩
    case inr =>
      have ef : freeV x = false ∧ fixV x = false := by
        cases x with
        | str z => exact absurd rfl (hn z)
        | _ => exact ⟨rfl, rfl⟩
      rw [ef.1, ef.2] at bd
      refine q_when (b := decide (3 < i) || (!false)) (et_or (et_test (ev_is (ev_op (ev_var rfl) ev_c rv_I0) (congrArg V.bl hge))) fun _ => et_not (et_B (ev_isi (ev_var rfl) (tyx_mono e1 ty) hk))) (fun hb H2 e2 => ?_) (fun hb => by simp at hb)
      rw [bd] at q
      refine s_ret ev_c fun H3 e3 => ?_
      have e4 : (!(decide (3 < i) || (!false && !false) || (!false && prevFix xs i || anyV x && (xs.take i).any anyV))) = false := by simp
      rw [e4] at q
      exact q H3 ((e1.trans e2).trans e3)
    obtain ⟨ps, hps, _⟩ := take_strs (by omega) hbf
    change badAt xs i = ((decide (3 < i) || (!isOpen z && !fixM z)) || ((!isOpen z && prevFix xs i) || (decide (z = anyP) && (xs.take i).any anyV))) at bd
    refine q_when (b := decide (3 < i) || (!true)) (et_or (et_test (ev_is (ev_op (ev_var rfl) ev_c rv_I0) (congrArg V.bl hge))) fun _ => et_not (et_B (ev_isi (ev_var rfl) (.base (.str z)) (by decide +kernel)))) (fun hb H2 e2 => ?_) (fun hb H2 e2 => ?_)
    · have hb' : decide (3 < i) = true := by simpa using hb
      rw [hb'] at bd
      rw [bd] at q
      exact s_ret ev_c fun H3 e3 => q H3 ((e1.trans e2).trans e3)
    have hb' : decide (3 < i) = false := by simpa using hb
    rw [hb', Bool.false_or] at bd
    have hT2 := ex_t (e1.trans e2) hT
    refine q_when (b := decide (z = anyP)) (et_test (ev_op (ev_var rfl) ev_c rv_eqS)) (fun hc H3 e3 => ?_) (fun hc H3 e3 => ?_)
    · have hza := of_decide_eq_true hc
      subst hza
      have ho : isOpen anyP = true := by decide +kernel
      rw [ho, hps, any_strs] at bd
      have bd2 : badAt xs i = decide (anyP ∈ ps) := by
        rw [bd]
        simp
      refine s_ret (v := .bl (!decide (anyP ∈ ps))) (fun H4 e4 Q' q' => ?_) fun H4 e4 => ?_
      · refine ⟨_, rfl, _, rfl, _, rfl, _, rfl, t, xs, rfl, ex_t (e3.trans e4) hT2, ?_, fun r hr0 => ?_⟩
        · rintro ⟨_, he⟩
          rw [HT.sIx_nat] at he
          omega
        · refine ⟨r, _, rfl, .inr (st_of upd_same), rfl, ?_, ?_⟩
          · rw [cutV_lt, hps]
            exact flat_str _
          · rw [cutV_lt, hps]
            show Q' (.bl (!inV (.str anyP) (ps.map V.str))) _
            rw [inV_str]
            exact q' _ (Ex.new hr0)
      · rw [bd2] at q
        exact q H4 (((e1.trans e2).trans e3).trans e4)
    · rw [hc] at bd
      have e13 := (e1.trans e2).trans e3
      refine q_when (b := isOpen z) (et_test (ev_op (ev_var rfl) ev_c (rv_isT T.o_OPEN_PARTS.at_ rfl rfl))) (fun hd H4 e4 => ?_) (fun hd H4 e4 => ?_)
      · rw [hd] at bd
        have bd2 : badAt xs i = false := by
          rw [bd]
          rfl
        rw [bd2] at q
        exact s_ret ev_c fun H5 e5 => q H5 ((e13.trans e4).trans e5)
      · rw [hd] at bd
        have bd2 : badAt xs i = (!fixM z || prevFix xs i) := by
          rw [bd]
          simp
        rw [bd2] at q
        have hT4 := ex_t (e3.trans e4) hT2
        refine q_when (b := prevFix xs i) ?_ (fun he H5 e5 => ?_) (fun he H5 e5 => ?_)
        · unfold prevFix
          refine et_and (a := decide (0 < i)) (et_test (ev_is (ev_op (ev_var rfl) ev_c rv_I0) (congrArg V.bl gt_zero))) fun hd => ?_
          have hi0 := of_decide_eq_true hd
          have gp := getD_some (xs := xs) (k := i - 1) (by omega)
          obtain ⟨y, hy, hyo⟩ := good_str (hbf (i - 1) (by omega))
          rw [hy] at gp ⊢
          refine et_test (ev_is (ev_op (ev_op (ev_var rfl) (ev_op (ev_var rfl) ev_c rv_I0) (rv_ixT hT4 (by
            rw [show (i : Int) - 1 = ((i - 1 : Nat) : Int) by omega]
            exact tup_at gp))) ev_c (rv_niT T.o_OPEN_PARTS.at_ rfl rfl)) ?_)
          show V.bl (!isOpen y) = V.bl (fixM y)
          cases hyo' : isOpen y with
          | true =>
            unfold fixM
            rw [hyo']
            rfl
          | false =>
            rcases hyo with h | h
            · rw [hyo'] at h
              cases h
            · rw [h]
              rfl
        · rw [he, Bool.or_true] at q
          exact s_ret ev_c fun H6 e6 => q H6 (((e13.trans e4).trans e5).trans e6)
        · rw [he, Bool.or_false] at q
          have ef : fixM z = (isLn z && decide ((z.length : Int) ≤ 4)) := by
            unfold fixM isLn
            rw [hd]
            have e0 : decide ((1 : Int) ≤ (z.length : Int)) = decide ((0 : Int) < (z.length : Int)) := by
              apply Bool.eq_iff_iff.mpr
              rw [decide_eq_true_iff, decide_eq_true_iff]
              omega
            rw [e0]
            cases decide ((0 : Int) < (z.length : Int)) <;> cases decide ((z.length : Int) ≤ 4) <;> cases z.cps.toList.all fun c => decide (c ∈ signsS.cps.toList) <;> rfl
          rw [ef, Bool.not_not] at q
          exact s_ret (ev_andV (ev_call (z := .bl (isLn z)) (ea_cons (ev_var rfl) ea_nil) fun H6 e6 Q' q' E' => ⟨_, rfl, .inl ⟨z, rfl, by omega, q'⟩⟩) fun _ => ev_op (ev_lenS (ev_var rfl) (by omega)) ev_c rv_I0) fun H6 e6 => q H6 (((e13.trans e4).trans e5).trans e6)

/-- a Form of these parts -/
theorem kPC : ¬ (("_cells" : Str) = "_parts") := by decide +kernel
def formF (t c : Addr) : List (Str × V) := putF "_cells" (.ref c) (putF "_parts" (.ref t) [])
theorem formF_parts (t c : Addr) : (formF t c).lookup ("_parts" : Str) = some (.ref t) := by
  unfold formF
  rw [lookup_putF, if_neg (fun z => kPC z.symm), lookup_putF, if_pos rfl]
theorem formF_cells (t c : Addr) : (formF t c).lookup ("_cells" : Str) = some (.ref c) := by
  unfold formF
  rw [lookup_putF, if_pos rfl]
theorem formF_no (t c : Addr) {m : Str} (h1 : ¬ m = "_cells") (h2 : ¬ m = "_parts") : (formF t c).lookup m = none := by
  unfold formF
  rw [lookup_putF, if_neg h1, lookup_putF, if_neg h2]
  all_goals rfl
def FormAt (C : Addr) (H : Hp) (a : Addr) (ps : List Str) : Prop := ∃ dx t c : Addr, H a = some (.ins C dx (formF t c)) ∧ H t = some (.tup (ps.map V.str)) ∧ H c = some (.lst ((cellsM ps).map V.str))
theorem FormAt.ex {C : Addr} {H H' : Hp} {a : Addr} {ps : List Str} (h : FormAt C H a ps) (e : Ex H H') : FormAt C H' a ps := by
  obtain ⟨dx, t, c, h1, h2, h3⟩ := h
  exact ⟨dx, t, c, e _ _ h1, e _ _ h2, e _ _ h3⟩

def GoodP (ps : List Str) : Prop := Parts ps ∧ 1 ≤ ps.length ∧ ps.length ≤ 4
/-! ### a Form made, or refused, of any texts -/
def NoAt (xs : List V) (v : V) : Prop := (xs = [] ∧ v = .non) ∨ ∃ k, k < xs.length ∧ badAt xs k = true ∧ (∀ j < k, badAt xs j = false) ∧ v = .int (k : Int)
def AllOk (xs : List V) (ps : List Str) : Prop := xs = ps.map V.str ∧ xs ≠ [] ∧ (∀ j < xs.length, badAt xs j = false)
theorem AllOk.few {xs : List V} (h : ∀ j < xs.length, badAt xs j = false) : xs.length ≤ 4 := by
  rcases Nat.lt_or_ge 4 xs.length with z | z
  · exfalso
    have w' := h 4 z
    unfold badAt at w'
    rw [decide_eq_true (by decide : 3 < 4)] at w'
    simp at w'
  · exact z
theorem AllOk.good {xs : List V} {ps : List Str} (h : AllOk xs ps) : GoodP ps := by
  obtain ⟨rfl, hne, hb⟩ := h
  have h4 := AllOk.few hb
  rw [List.length_map] at h4
  have at_ : ∀ {j : Nat} {p : Str}, ps[j]? = some p → j < (ps.map V.str).length ∧ (ps.map V.str).getD j .non = .str p := fun {j p} hj => by
    have lt := (List.getElem?_eq_some_iff.mp hj).1
    refine ⟨by rw [List.length_map]; exact lt, ?_⟩
    rw [List.getD_eq_getElem?_getD, List.getElem?_map, hj]
    rfl
  have good : ∀ {j : Nat} {p : Str}, ps[j]? = some p → (isOpen p = true ∨ fixM p = true) ∧ (isOpen p = true ∨ prevFix (ps.map V.str) j = false) ∧ (p = anyP → ((ps.map V.str).take j).any anyV = false) := fun {j p} hj => by
    obtain ⟨lt, e⟩ := at_ hj
    have w' := hb j lt
    unfold badAt at w'
    rw [e] at w'
    change ((decide (3 < j) || (!isOpen p && !fixM p)) || ((!isOpen p && prevFix (ps.map V.str) j) || (decide (p = anyP) && ((ps.map V.str).take j).any anyV))) = false at w'
    simp only [Bool.or_eq_false_iff, Bool.and_eq_false_iff] at w'
    obtain ⟨⟨_, a⟩, b, c⟩ := w'
    refine ⟨?_, ?_, fun hp => ?_⟩
    · rcases a with a | a
      · exact .inl (by simpa using a)
      · exact .inr (by simpa using a)
    · rcases b with b | b
      · exact .inl (by simpa using b)
      · exact .inr b
    · rcases c with c | c
      · rw [hp] at c
        simp at c
      · exact c
  have fixed : ∀ {p : Str}, fixM p = true → fixedP p := fun {p} h => by
    unfold fixM at h
    simp only [Bool.and_eq_true, decide_eq_true_eq, List.all_eq_true] at h
    obtain ⟨_, ⟨h1, h2⟩, h3⟩ := h
    exact ⟨fun c hc => h3 c hc, by omega, by omega⟩
  refine ⟨⟨fun p hp => ?_, fun i p q hp hq => ?_, fun i j hi hj => ?_⟩, ?_, h4⟩
  · obtain ⟨j, hj⟩ := List.mem_iff_getElem?.mp hp
    exact (good hj).1.imp id fixed
  · obtain ⟨_, b, _⟩ := good hq
    rcases b with b | b
    · exact .inr b
    · left
      unfold prevFix at b
      rw [decide_eq_true (by omega), Bool.true_and, show i + 1 - 1 = i by omega, (at_ hp).2] at b
      have b : fixM p = false := b
      rcases (good hp).1 with w' | w'
      · exact w'
      · rw [b] at w'
        cases w'
  · have key : ∀ {a b : Nat}, ps[a]? = some anyP → ps[b]? = some anyP → ¬ a < b := fun {a b} ha hb' lt => by
      have z := (good hb').2.2 rfl
      rw [← List.map_take, any_strs] at z
      refine absurd ?_ (of_decide_eq_false z)
      exact List.mem_of_getElem? (i := a) (by rw [List.getElem?_take_of_lt lt]; exact ha)
    have k1 := key hi hj
    have k2 := key hj hi
    omega
  · rcases Nat.eq_zero_or_pos ps.length with z | z
    · exact absurd (List.length_eq_zero_iff.mp (by rw [List.length_map]; exact z)) hne
    · exact z
def spFormXI (C CN : Addr) : Sp := fun vs H Q E => ∃ (a t dx : Addr) (xs : List V), vs = [.ref a, .ref t] ∧ H a = some (.ins C dx []) ∧ H t = some (.tup xs) ∧ xs.length ≤ 1000 ∧ PVs H xs ∧
  (∀ ps H', AllOk xs ps → Ex (hide a H) H' → FormAt C H' a ps → Q .non H') ∧ (∀ v d H', NoAt xs v → Ex H H' → H' d = some (.xd [("at", v)]) → E (.ref CN) (some d) H')
def spFormX (C CN : Addr) : Sp := fun vs H Q E => ∃ ws rest, vs = ws ++ rest ∧ ws.length = ["self"].length ∧ rest.length ≤ sizeLine ∧ ∀ p, H p = Option.none → spFormXI C CN (ws ++ [V.ref p]) (upd H p (.tup rest)) Q E
theorem ok_NoForm___init__ {f : Addr} {fd : FuncData} (F : Fun K "__init__" "NoForm.__init__" s_NoForm___init__ f fd) (T : Txt K mg a_OPEN_PARTS C_Both C_Either C_Form C_GlueError C_NoForm C_NoText) : FnOk P w K mg base CX0 1 f fd ["self", "at"] (spXI C_NoForm "at") := by
  refine F.ok sc_NoForm___init__ (fun vs H Q E h => ?_) (fun cdv A outer s0 H vs Q E hr h => ?_)
  · obtain ⟨a, v, rfl, _⟩ := h
    rfl
  · obtain ⟨a, v, rfl, ha, q⟩ := h
    refine ⟨_, (pss_one (ps_ost (pv 0) (pv 1))), ?_⟩
    exact ⟨_, rfl, _, rfl, a, C_NoForm, rfl, T.x_NoForm.o, T.f_NoForm_at, .inl ⟨ha, q⟩⟩
theorem okn_Form___init__ {f : Addr} {fd : FuncData} (F : Fun K "__init__" "Form.__init__" s_Form___init__ f fd) (T : Txt K mg a_OPEN_PARTS C_Both C_Either C_Form C_GlueError C_NoForm C_NoText) (D_NoForm___init__ : DfX P w K mg base "NoForm" C_NoForm ["self", "at"] 1 (spXI C_NoForm "at"))
    (D__is_allowed : Df P w K mg base "_is_allowed" ["parts", "at"] 2 (spAllowX K)) (D_cells_of__t : Df P w K mg base "cells_of" ["parts"] 1 (spCellsT K)) :
    FnR P w K mg base (L2N.CX P w) 3 f (spFormX C_Form C_NoForm) := by
  obtain ⟨oc, od, kV, doc, pm, an, cdv, ct, osl, rfl, lk, hcd⟩ := F.ex
  refine fn_star (ps := ["self"]) (pv := "parts") lk hcd sc_Form___init__ cxUpN (bind_star1 (B := fun us => bindArgs (PySem.W.fnOf "__init__" "Form.__init__" (defArgs s_Form___init__) (defBody s_Form___init__) (defScope s_Form___init__) .none kV doc pm an cdv ct) ⟨us, []⟩) (p1 := "self") (pv := "parts") (fun a => rfl) (fun a r rs => rfl)) (fun A outer s0 H vs Q E hr h => ?_)
  obtain ⟨a, t, dx, xs, rfl, ha, ht, hl, hpv, qok, qno⟩ := h
  refine ⟨_, (pss_cons (ps_if (pt_cmpR op_eq (pe_callB call_len_seq (by rfl) T.n_len PySem.boot_len (pa_cons (pv 1) pa_nil)) pe_int (nomark _))
      (pss_one (ps_raiseXN D_NoForm___init__ (hr.mono (by decide)) (by rfl) rfl (L2N.takes_of rfl rfl rfl rfl) (pa_cons pe_non pa_nil)))
      pss_nil)
      (pss_cons (ps_for (passes_of rfl) rfl (pi_range1 (by rfl) T.n_range (pa_cons (pe_callB call_len_seq (by rfl) T.n_len PySem.boot_len (pa_cons (pv 1) pa_nil)) pa_nil)) (pg_name (i := 2) sc_Form___init__.nd rfl (Or.inl rfl))
      (pss_one (ps_if (pt_not (pt_val (pe_df D__is_allowed (hr.mono (by decide)) (by rfl) (pa_cons (pv 1) (pa_cons (pv 2) pa_nil)))))
      (pss_one (ps_raiseXN D_NoForm___init__ (hr.mono (by decide)) (by rfl) rfl (L2N.takes_of rfl rfl rfl rfl) (pa_cons (pv 2) pa_nil)))
      pss_nil)))
      (pss_cons (ps_fld (pv 0) (pv 1) rfl)
      (pss_one (ps_fld (pv 0) (pe_df D_cells_of__t (hr.mono (by decide)) (by rfl) (pa_cons (pv 1) pa_nil)) rfl))))), ?_⟩
  have nat : a ≠ t := ne_of ha ht (by intro z; cases z)
  refine q_when (b := decide ((xs.length : Int) = 0)) (et_test (ev_op (fun H1 e1 Q' q' => ⟨_, rfl, t, xs, rfl, .inr (st_of (e1 _ _ ht)), q' H1 (Ex.refl _)⟩) ev_c rv_eqI)) (fun hb H1 e1 => ?_) (fun hb H1 e1 => ?_)
  · have h0 : xs = [] := List.length_eq_zero_iff.mp (by have := of_decide_eq_true hb; omega)
    exact mkX (C := C_NoForm) (f := "at") ev_c fun d H2 hd e2 h2 => qno .non d H2 (.inl ⟨h0, rfl⟩) (e1.trans e2) h2
  have ht1 := e1 _ _ ht
  have hne : xs ≠ [] := fun z => by
    rw [z] at hb
    exact absurd hb (by decide)
  refine q_forR1 (n := (xs.length : Int)) (fun H2 e2 Q' q' => ⟨_, rfl, t, xs, rfl, .inr (st_of (e2 _ _ ht1)), q' H2 (Ex.refl _)⟩) (by omega) (fun i σ' H' => ∃ y : Option V, σ' = [some (.ref a), some (.ref t), y] ∧ Ex H1 H' ∧ ∀ j < i, badAt xs j = false) (fun H2 e2 => ⟨none, rfl, e2, fun j hj => by omega⟩) ?_ ?_
  · rintro i σ' H2 hi ⟨y, rfl, e2, hbf⟩
    refine s_when (b := badAt xs i) (et_is (et_not (et_B (ev_call (z := .bl (!badAt xs i)) (ea_cons (ev_var rfl) (ea_cons (ev_var rfl) ea_nil)) fun H3 e3 Q' q' E' => ⟨t, xs, i, rfl, st_of (e3 _ _ (e2 _ _ ht1)), hl, hpv.ex ((e1.trans e2).trans e3), by omega, hbf, q'⟩))) (Bool.not_not _)) (fun hc H3 e3 => ?_) (fun hc H3 e3 => ⟨_, rfl, e2.trans e3, fun j hj => ?_⟩)
    · exact mkX (C := C_NoForm) (f := "at") (ev_var rfl) fun d H4 hd e4 h4 => qno _ d H4 (.inr ⟨i, by omega, hc, hbf, rfl⟩) (((e1.trans e2).trans e3).trans e4) h4
    · rcases Nat.lt_succ_iff_lt_or_eq.mp hj with h | rfl
      · exact hbf j h
      · exact hc
  · rintro σ' H2 ⟨y, rfl, e2, hbf⟩
    have hbf' : ∀ j < xs.length, badAt xs j = false := fun j hj => hbf j (by omega)
    have l4 := AllOk.few hbf'
    obtain ⟨ps, hps, hpl⟩ := take_strs (Nat.le_refl _) hbf'
    rw [List.take_length] at hps
    have gp : GoodP ps := AllOk.good ⟨hps, hne, hbf'⟩
    have ha2 := e2 _ _ (e1 _ _ ha)
    have ht2 := e2 _ _ ht1
    refine ⟨_, rfl, _, rfl, a, C_Form, dx, [], rfl, ha2, T.k_Form, T.a_Form__parts, by decide, ?_⟩
    have ht3 : upd H2 a (.ins C_Form dx (putF "_parts" (.ref t) [])) t = some (.tup (ps.map V.str)) := by
      rw [upd_ne nat.symm, ← hps]
      exact ht2
    refine ⟨_, rfl, t, ps, rfl, st_of ht3, by omega, fun p hp => by have := gp.1.len p hp; omega, fun c H3 hc0 e3 h3 => ?_⟩
    have ha3 : H3 a = some (.ins C_Form dx (putF "_parts" (.ref t) [])) := e3 _ _ upd_same
    have nca : c ≠ a := fun z => by
      rw [z, upd_same] at hc0
      cases hc0
    refine ⟨_, rfl, a, C_Form, dx, _, rfl, ha3, T.k_Form, T.a_Form__cells, by
      have := length_putF ("_parts" : Str) (.ref t) []
      simp only [List.length_nil] at this
      omega, qok ps _ ⟨hps, hne, hbf'⟩ ?_ ⟨dx, t, c, upd_same, ?_, ?_⟩⟩
    · intro b o hb
      obtain ⟨nb, hb⟩ := hide_some hb
      rw [upd_ne nb]
      exact e3 _ _ (by rw [upd_ne nb]; exact e2 _ _ (e1 _ _ hb))
    · rw [upd_ne nat.symm]
      exact e3 _ _ ht3
    · rw [upd_ne nca]
      exact h3
/-- Form(*l), l a list of texts -/
theorem mkS_form {C CN l : Addr} {σ : L2.St} {H : Hp} {i : Nat} {xs : List V} {Q : VK} {W : WX} (hi : σ[i]? = some (some (.ref l))) (h : H l = some (.lst xs)) (hl : xs.length ≤ 1000) (hpv : PVs H xs)
    (qok : ∀ ps fm H', AllOk xs ps → Ex H H' → FormAt C H' fm ps → Q (.ref fm) H') (qno : ∀ v d H', NoAt xs v → Ex H H' → H' d = some (.xd [("at", v)]) → W (.ref CN) (some d) σ H') : tMakeS C (spFormX C CN) W (tStar K (tVar i) tNil) σ H Q := by
  refine ⟨_, hi, l, xs, rfl, .inr (sq_of h), ?_⟩
  show ∀ x dx, H x = none → H dx = none → dx ≠ x → spFormX C CN (V.ref x :: (xs ++ [])) (upd (upd H dx (.own x)) x (.ins C dx [])) (fun v H2 => v = .non ∧ Q (.ref x) H2) (WE W σ)
  rw [List.append_nil]
  intro x dx hx hdx hne
  refine ⟨[.ref x], xs, rfl, rfl, sz_of (by omega), fun p hp => ?_⟩
  have hx1 : upd H dx (.own x) x = none := by
    rw [upd_ne (Ne.symm hne)]
    exact hx
  have e2 : Ex H (upd (upd H dx (.own x)) x (.ins C dx [])) := (Ex.new hdx).trans (Ex.new hx1)
  have e3 : Ex H (upd (upd (upd H dx (.own x)) x (.ins C dx [])) p (.tup xs)) := e2.trans (Ex.new hp)
  have npx : x ≠ p := fun z => by
    rw [← z, upd_same] at hp
    cases hp
  refine ⟨x, p, dx, xs, rfl, by rw [upd_ne npx]; exact upd_same, upd_same, hl, hpv.ex e3, fun ps H' ho e hF => ⟨rfl, qok ps x H' ho (fun b o hb => ?_) hF⟩, fun v d H' hn e hd => qno v d H' hn (e3.trans e) hd⟩
  refine e b o ?_
  rw [hide_ne (ne_of_none hb hx)]
  exact e3 b o hb

theorem tFld_ev {σ : L2.St} {H : Hp} {i : Nat} {a C dx : Addr} {fs : List (Str × V)} {f : Str} {v : V} (hi : σ[i]? = some (some (.ref a))) (ha : H a = some (.ins C dx fs)) (hc : Cls K C) (hn : NoAttr K C f) (hl : fs.lookup f = some v) : Ev (tFld K (tVar i) f) σ H v := fun H1 e Q q =>
  ⟨_, hi, a, C, dx, fs, v, rfl, e _ _ ha, hc, hn, hl, q H1 (Ex.refl _)⟩

def FormR (C : Addr) (ps : List Str) (p : Addr) (H : Hp) : Prop := FormAt C H p ps ∧ Parts ps ∧ 1 ≤ ps.length ∧ ps.length ≤ 4
theorem upF {C : Addr} : Up (FormR C) := fun _ _ _ _ e h => ⟨h.1.ex e, h.2⟩
theorem cells_ne {ps : List Str} (hP : Parts ps) (h : 1 ≤ ps.length) : ∃ c cs, cellsM ps = c :: cs := by
  cases ps with
  | nil => simp at h
  | cons p ps =>
    have e : cellsM (p :: ps) = cellOf1 p ++ cellsM ps := rfl
    rw [e]
    rcases hP.each p List.mem_cons_self with o | f
    · rw [show cellOf1 p = [p] from if_pos o]
      exact ⟨_, _, rfl⟩
    · by_cases o : isOpen p = true
      · rw [show cellOf1 p = [p] from if_pos o]
        exact ⟨_, _, rfl⟩
      · rw [show cellOf1 p = signsOf p from if_neg o]
        have l := f.2.1
        rw [str_len] at l
        unfold signsOf
        cases hz : p.cps.toList with
        | nil =>
          rw [hz] at l
          simp at l
        | cons x xs => exact ⟨_, _, rfl⟩
theorem offF {C : Addr} : Off (FormR C) := fun ps p H D acc r hD refs ne => by
  obtain ⟨⟨dx, t, c, f1, f2, f3⟩, hP, h1, h4⟩ := r
  have nt : t ≠ D := fun z => by
    rw [z, hD] at f2
    cases f2
  have nc : c ≠ D := fun z => by
    rw [z, hD] at f3
    obtain ⟨x, xs, e⟩ := cells_ne hP h1
    rw [e] at f3
    have f4 : acc = V.str x :: xs.map V.str := HO.lst.inj (Option.some.inj f3)
    obtain ⟨r, hr⟩ := refs (V.str x) (by rw [f4]; exact List.mem_cons_self)
    cases hr
  exact ⟨⟨dx, t, c, by rw [hide_ne ne]; exact f1, by rw [hide_ne nt]; exact f2, by rw [hide_ne nc]; exact f3⟩, hP, h1, h4⟩

/-! ### joined patterns -/
inductive Pt
  | f (ps : List Str)
  | n (and : Bool) (l r : Pt)
def Pt.leaves : Pt → Nat
  | .f _ => 1
  | .n _ l r => l.leaves + r.leaves
def Pt.depth : Pt → Nat
  | .f _ => 0
  | .n _ l r => max l.depth r.depth + 1
def Pt.forms : Pt → List (List Str)
  | .f ps => [ps]
  | .n _ l r => l.forms ++ r.forms
def Pt.text : Pt → Str
  | .f ps => Txt.join "" ps
  | .n and l r => (("(" : Str) ++ l.text ++ (if and then " & " else " | ") ++ r.text) ++ ")"
def Pt.isN : Pt → Option Bool
  | .f _ => none
  | .n and _ _ => some and
theorem Pt.leaves_pos : ∀ t : Pt, 1 ≤ t.leaves
  | .f _ => Nat.le_refl _
  | .n _ l r => by
    have := l.leaves_pos
    show 1 ≤ l.leaves + r.leaves
    omega
theorem Pt.depth_lt : ∀ t : Pt, t.depth < t.leaves
  | .f _ => Nat.zero_lt_one
  | .n _ l r => by
    have h1 := l.depth_lt
    have h2 := r.depth_lt
    have h3 := l.leaves_pos
    have h4 := r.leaves_pos
    show max l.depth r.depth + 1 < l.leaves + r.leaves
    omega
theorem Pt.forms_len : ∀ t : Pt, t.forms.length = t.leaves
  | .f _ => rfl
  | .n _ l r => by
    show (l.forms ++ r.forms).length = l.leaves + r.leaves
    rw [List.length_append, l.forms_len, r.forms_len]
theorem kOO : ¬ (("_other" : Str) = "_one") := by decide +kernel
def pairF (p q : Addr) : List (Str × V) := putF "_other" (.ref q) (putF "_one" (.ref p) [])
theorem pairF_one (p q : Addr) : (pairF p q).lookup ("_one" : Str) = some (.ref p) := by
  unfold pairF
  rw [lookup_putF, if_neg (fun z => kOO z.symm), lookup_putF, if_pos rfl]
theorem pairF_other (p q : Addr) : (pairF p q).lookup ("_other" : Str) = some (.ref q) := by
  unfold pairF
  rw [lookup_putF, if_pos rfl]
theorem pairF_no (p q : Addr) {m : Str} (h1 : ¬ m = "_other") (h2 : ¬ m = "_one") : (pairF p q).lookup m = none := by
  unfold pairF
  rw [lookup_putF, if_neg h1, lookup_putF, if_neg h2]
  rfl
def clsP (CF CB CE : Addr) : Option Bool → Addr
  | none => CF
  | some true => CB
  | some false => CE
inductive PatAt (CF CB CE : Addr) (H : Hp) : Pt → Addr → Prop
  | f {ps : List Str} {a : Addr} : FormR CF ps a H → PatAt CF CB CE H (.f ps) a
  | n {and : Bool} {l r : Pt} {a dx p q : Addr} : H a = some (.ins (if and = true then CB else CE) dx (pairF p q)) → PatAt CF CB CE H l p → PatAt CF CB CE H r q → PatAt CF CB CE H (.n and l r) a
section
variable {CF CB CE : Addr}
theorem PatAt.ex {H H' : Hp} {t : Pt} {a : Addr} (h : PatAt CF CB CE H t a) (e : Ex H H') : PatAt CF CB CE H' t a := by
  induction h with
  | f h => exact .f (upF _ _ _ _ e h)
  | n h _ _ ih1 ih2 => exact .n (e _ _ h) ih1 ih2
/-- what class it is of -/
theorem PatAt.cls {H : Hp} {t : Pt} {a : Addr} (h : PatAt CF CB CE H t a) : ∃ dx fs, H a = some (.ins (clsP CF CB CE t.isN) dx fs) ∧ ∀ m : Str, ¬ m = "_cells" → ¬ m = "_parts" → ¬ m = "_one" → ¬ m = "_other" → fs.lookup m = none := by
  cases h with
  | f h =>
    obtain ⟨⟨dx, t, c, f1, _, _⟩, _⟩ := h
    exact ⟨dx, _, f1, fun m h1 h2 _ _ => formF_no t c h1 h2⟩
  | @n and l r a dx p q h _ _ =>
    refine ⟨dx, pairF p q, ?_, fun m _ _ h3 h4 => pairF_no p q h4 h3⟩
    cases and <;> exact h
end
/-- Forms told one by one -/
def RetF (CF : Addr) (pss : List (List Str)) (H : Hp) (Q : VK) : Prop := ∀ l us H2, H l = none → Ex H H2 → H2 l = some (.lst us) → Rs (FormR CF) H2 us pss → Q (.ref l) H2
/-- of a pattern of this class, no deeper than d -/
def OfP (CF CB CE : Addr) (k : Option Bool) (d : Nat) (H : Hp) (t : Pt) (a : Addr) : Prop := PatAt CF CB CE H t a ∧ t.isN = k ∧ t.depth ≤ d
def spForms (CF CB CE : Addr) (k : Option Bool) (d : Nat) : Sp := fun vs H Q _ => ∃ (a : Addr) (t : Pt), vs = [.ref a] ∧ OfP CF CB CE k d H t a ∧ t.leaves ≤ 3 ∧ RetF CF t.forms H Q
def spStrP (CF CB CE : Addr) (k : Option Bool) (d : Nat) : Sp := fun vs H Q _ => ∃ (a : Addr) (t : Pt), vs = [.ref a] ∧ OfP CF CB CE k d H t a ∧ t.leaves ≤ 3 ∧ RetV (.str t.text) H Q
theorem join_list (ps : List Str) : (Txt.join "" ps).cps.toList = ps.flatMap fun p => p.cps.toList := by
  have e0 : ("" : Str).cps = #[] := by decide +kernel
  have key : ∀ (l : List Str) (a : Array Nat), (l.foldl (fun acc p => acc ++ ("" : Str).cps ++ p.cps) a).toList = a.toList ++ l.flatMap fun p => p.cps.toList := by
    intro l
    induction l with
    | nil => intro a; simp
    | cons p l ih =>
      intro a
      rw [List.foldl_cons, ih, e0]
      simp
  cases ps with
  | nil => decide +kernel
  | cons p ps =>
    show (ps.foldl (fun acc p => acc ++ ("" : Str).cps ++ p.cps) p.cps).toList = _
    rw [key, List.flatMap_cons]
theorem join_len (ps : List Str) (h : ∀ p ∈ ps, p.length ≤ 8) : (Txt.join "" ps).length ≤ 8 * ps.length := by
  rw [str_len, join_list]
  induction ps with
  | nil => simp
  | cons p ps ih =>
    have h1 := h p List.mem_cons_self
    rw [str_len] at h1
    have ih := ih fun q hq => h q (List.mem_cons_of_mem _ hq)
    rw [List.flatMap_cons, List.length_append, List.length_cons]
    omega
theorem join_ok {ps : List Str} (h : Parts ps) : okV (.str (Txt.join "" ps)) = true := by
  have e : ∀ z : Str, okV (.str z) = z.cps.toList.all fun x => decide (x < 0x110000) := fun z => by
    show z.cps.all _ = _
    rw [← Array.all_toList]
  rw [e, join_list, List.all_eq_true]
  intro c hc
  obtain ⟨p, hp, hcp⟩ := List.mem_flatMap.mp hc
  have := h.okV (.str p) (List.mem_map_of_mem hp)
  rw [e] at this
  exact List.all_eq_true.mp this c hcp
theorem text_len5 {CF CB CE : Addr} {H : Hp} {t : Pt} {a : Addr} (h : PatAt CF CB CE H t a) : t.text.length + 5 ≤ 40 * t.leaves := by
  induction h with
  | @f ps a hF =>
    have := join_len ps fun p hp => by have := hF.2.1.len p hp; omega
    have := hF.2.2.2
    show (Txt.join "" ps).length + 5 ≤ 40 * 1
    omega
  | @n and l r a dx p q h h1 h2 ih1 ih2 =>
    have e : ∀ a b : Str, (a ++ b).length = a.length + b.length := app_len
    show ((("(" : Str) ++ l.text ++ (if and then " & " else " | ") ++ r.text) ++ ")").length + 5 ≤ 40 * (l.leaves + r.leaves)
    rw [e, e, e, e]
    have c1 : ("(" : Str).length = 1 := by decide +kernel
    have c2 : (")" : Str).length = 1 := by decide +kernel
    have c3 : (if and = true then (" & " : Str) else " | ").length = 3 := by cases and <;> decide +kernel
    rw [c1, c2]
    have c4 : (Str.ofString (if and = true then " & " else " | ")).length = 3 := by cases and <;> decide +kernel
    simp only [c3, c4]
    omega
theorem text_len {CF CB CE : Addr} {H : Hp} {t : Pt} {a : Addr} (h : PatAt CF CB CE H t a) : t.text.length ≤ 40 * t.leaves := Nat.le_trans (Nat.le_add_right _ 5) (text_len5 h)
theorem ok_Form_forms {f : Addr} {fd : FuncData} (F : Fun K "forms" "Form.forms" s_Form_forms f fd) (T : Txt K mg a_OPEN_PARTS C_Both C_Either C_Form C_GlueError C_NoForm C_NoText) : FnOk P w K mg base CX0 1 f fd ["self"] (spForms C_Form C_Both C_Either none 0) := by
  refine F.ok sc_Form_forms (fun vs H Q E h => ?_) (fun cdv A outer s0 H vs Q E hr h => ?_)
  · obtain ⟨a, t, rfl, _⟩ := h
    rfl
  · obtain ⟨a, t, rfl, ⟨hP, hk, hd⟩, h3, q⟩ := h
    refine ⟨_, (pss_one (ps_ret (pe_lst (pa_cons (pv 0) pa_nil)))), ?_⟩
    cases hP with
    | f hF => exact s_retL (el_lst (ea_cons (ev_var rfl) ea_nil) (by simp)) fun l H1 hl e1 h1 => q l _ H1 hl e1 h1 (.cons (upF _ _ _ _ e1 hF) .nil)
    | n _ _ _ => cases hk

theorem ok_Form___str__ {f : Addr} {fd : FuncData} (F : Fun K "__str__" "Form.__str__" s_Form___str__ f fd) (T : Txt K mg a_OPEN_PARTS C_Both C_Either C_Form C_GlueError C_NoForm C_NoText) : FnOk P w K mg base CX0 1 f fd ["self"] (spStrP C_Form C_Both C_Either none 0) := by
  refine F.ok sc_Form___str__ (fun vs H Q E h => ?_) (fun cdv A outer s0 H vs Q E hr h => ?_)
  · obtain ⟨a, t, rfl, _⟩ := h
    rfl
  · obtain ⟨a, t, rfl, ⟨hP, hk, hd⟩, h3, q⟩ := h
    refine ⟨_, (pss_one (ps_ret (pe_join pe_str (pe_fld (pv 0) rfl)))), ?_⟩
    cases hP with
    | @f ps a hF =>
      obtain ⟨⟨dx, tp, c, f1, f2, f3⟩, hPs, g1, g4⟩ := hF
      have jl := join_len ps fun p hp => by have := hPs.len p hp; omega
      have sl : (ps.map (·.length)).sum ≤ 8 * ps.length := by
        clear jl g1 g4 q f2 f3 hk hd h3
        have hl : ∀ p ∈ ps, p.length ≤ 8 := fun p hp => by have := hPs.len p hp; omega
        clear hPs
        induction ps with
        | nil => simp
        | cons p ps ih =>
          have := hl p List.mem_cons_self
          have := ih fun q hq => hl q (List.mem_cons_of_mem _ hq)
          rw [List.map_cons, List.sum_cons, List.length_cons]
          omega
      have ef : Ev (tFld K (tVar 0) "_parts") [some (.ref a)] H (.ref tp) := tFld_ev rfl f1 T.k_Form T.a_Form__parts (formF_parts tp c)
      exact ⟨⟨_, rfl⟩, ef H (Ex.refl _) _ fun H1 e1 => ⟨_, tp, ps, rfl, rfl, .inr (st_of (e1 _ _ f2)), by
        have : ("" : Str).length = 0 := by decide +kernel
        rw [this]
        omega, q H1 e1⟩⟩
    | n _ _ _ => cases hk

section
variable {CF CB CE : Addr} {σ : L2.St} {G : Hp} {te tl ta tb : TE} {t : Pt} {p : Addr} {d : Nat}
theorem Rs.app {α : Type} {R : α → Addr → Hp → Prop} {H : Hp} {vs ws : List V} {xs ys : List α} (h : Rs R H vs xs) (k : Rs R H ws ys) : Rs R H (vs ++ ws) (xs ++ ys) := by
  induction h with
  | nil => exact k
  | cons r _ ih => exact .cons r ih
theorem ers_cat {α : Type} {R : α → Addr → Hp → Prop} {xs ys : List α} (up : Up R) (h1 : EvRs ta σ G R xs) (h2 : EvRs tb σ G R ys) (hn : xs.length + ys.length ≤ 1000) : EvRs (tOp rCat ta tb) σ G R (xs ++ ys) := fun H1 e Q q =>
  h1 H1 e _ fun l vs H2 hl e2 k2 r2 => h2 H2 (e.trans e2) _ fun m ws H3 hm e3 k3 r3 => ⟨l, m, vs, ws, rfl, rfl, e3 _ _ k2, k3, sz_of (by rw [r2.len, r3.len]; omega), fun n hn => q n _ _ (fresh_back (e2.trans e3) hn) ((e2.trans e3).trans (Ex.new hn)) upd_same (Rs.app (r2.ex up (e3.trans (Ex.new hn))) (r3.ex up (Ex.new hn)))⟩
theorem ev_lenN {α : Type} {R : α → Addr → Hp → Prop} {xs : List α} (h : EvRs te σ G R xs) : Ev (tCB (fun xs H Q => ∃ p ys, xs = [.ref p] ∧ (SqL K H p ys ∨ SqT K H p ys) ∧ Q (.int ys.length) H) (tCons te tNil)) σ G (.int xs.length) := fun H1 e Q q =>
  h H1 e _ fun l vs H2 hl e2 h2 r2 => ⟨l, vs, rfl, .inl (sq_of h2), by rw [r2.len]; exact q H2 e2⟩
theorem cutV_ge {xs : List V} {a : Nat} : cutV xs (some (a : Int)) none = xs.drop a := by
  unfold cutV
  rw [HT.sIx_none, HT.sIx_nat]
  by_cases h : a ≤ xs.length
  · rw [Nat.min_eq_left h, List.take_of_length_le (by rw [List.length_drop]; exact Nat.le_refl _)]
  · rw [Nat.min_eq_right (by omega), List.drop_of_length_le (Nat.le_refl _), List.drop_of_length_le (by omega)]
    simp
/-! what a pattern of any class does, by its own class -/
theorem m_forms (h : Ev te σ G (.ref p)) (hP : PatAt CF CB CE G t p) (hd : t.depth ≤ d) (h3 : t.leaves ≤ 3) : EvRs (tMeth (clsP CF CB CE t.isN) "forms" (spForms CF CB CE t.isN d) [] E0 te tNil) σ G (FormR CF) t.forms := fun H1 e Q q => h H1 e _ fun H2 e2 => by
  obtain ⟨dx, fs, f1, f2⟩ := (hP.ex (e.trans e2)).cls
  exact ⟨p, dx, fs, rfl, f1, f2 _ (by decide +kernel) (by decide +kernel) (by decide +kernel) (by decide +kernel), p, t, rfl, ⟨hP.ex (e.trans e2), rfl, hd⟩, h3, fun l us H3 hl e3 h3' r => q l us H3 (fresh_back e2 hl) (e2.trans e3) h3' r⟩
def tAl3 (a b c : TE) : TE := tAlt a (tAlt b c)
theorem v_forms (h : Ev te σ G (.ref p)) (hP : PatAt CF CB CE G t p) (hd : t.depth ≤ d) (h3 : t.leaves ≤ 3) : EvRs (tAlt (tMeth CF "forms" (spForms CF CB CE none 0) [] E0 te tNil) (tAlt (tMeth CB "forms" (spForms CF CB CE (some true) d) [] E0 te tNil) (tMeth CE "forms" (spForms CF CB CE (some false) d) [] E0 te tNil))) σ G (FormR CF) t.forms := fun H1 e Q q => by
  cases t with
  | f ps => exact .inl (m_forms (d := 0) h hP (Nat.le_refl _) h3 H1 e Q q)
  | n and l r =>
    cases and with
    | true => exact .inr (.inl (m_forms h hP hd h3 H1 e Q q))
    | false => exact .inr (.inr (m_forms h hP hd h3 H1 e Q q))
theorem r_str {H1 : Hp} {Q : VK} (hP : PatAt CF CB CE H1 t p) (hd : t.depth ≤ d) (h3 : t.leaves ≤ 3) (q : ∀ H2, Ex H1 H2 → Q (.str t.text) H2) : rStrOwn (clsP CF CB CE t.isN) (spStrP CF CB CE t.isN d) E0 [.ref p] H1 Q := by
  obtain ⟨dx, fs, f1, _⟩ := hP.cls
  exact ⟨p, dx, fs, rfl, f1, p, t, rfl, ⟨hP, rfl, hd⟩, h3, fun H2 e2 => ⟨_, rfl, q H2 e2⟩⟩
theorem m_fmt (h : Ev te σ G (.ref p)) (hP : PatAt CF CB CE G t p) (hd : t.depth ≤ d) (h3 : t.leaves ≤ 3) : Ev (tFmtOwn (clsP CF CB CE t.isN) (spStrP CF CB CE t.isN d) E0 te) σ G (.str t.text) := fun H1 e Q q => h H1 e _ fun H2 e2 => r_str (hP.ex (e.trans e2)) hd h3 fun H3 e3 => q H3 (e2.trans e3)
theorem v_fmt (h : Ev te σ G (.ref p)) (hP : PatAt CF CB CE G t p) (hd : t.depth ≤ d) (h3 : t.leaves ≤ 3) : Ev (tAlt (tFmtOwn CF (spStrP CF CB CE none 0) E0 te) (tAlt (tFmtOwn CB (spStrP CF CB CE (some true) d) E0 te) (tFmtOwn CE (spStrP CF CB CE (some false) d) E0 te))) σ G (.str t.text) := fun H1 e Q q => by
  cases t with
  | f ps => exact .inl (m_fmt (d := 0) h hP (Nat.le_refl _) h3 H1 e Q q)
  | n and l r =>
    cases and with
    | true => exact .inr (.inl (m_fmt h hP hd h3 H1 e Q q))
    | false => exact .inr (.inr (m_fmt h hP hd h3 H1 e Q q))
theorem m_str (h : Ev te σ G (.ref p)) (hP : PatAt CF CB CE G t p) (hd : t.depth ≤ d) (h3 : t.leaves ≤ 3) : Ev (tCB (rStrOwn (clsP CF CB CE t.isN) (spStrP CF CB CE t.isN d) E0) (tCons te tNil)) σ G (.str t.text) := fun H1 e Q q => h H1 e _ fun H2 e2 => r_str (hP.ex (e.trans e2)) hd h3 fun H3 e3 => q H3 (e2.trans e3)
theorem v_str (h : Ev te σ G (.ref p)) (hP : PatAt CF CB CE G t p) (hd : t.depth ≤ d) (h3 : t.leaves ≤ 3) : Ev (tAlt (tCB (rStrOwn CF (spStrP CF CB CE none 0) E0) (tCons te tNil)) (tAlt (tCB (rStrOwn CB (spStrP CF CB CE (some true) d) E0) (tCons te tNil)) (tCB (rStrOwn CE (spStrP CF CB CE (some false) d) E0) (tCons te tNil)))) σ G (.str t.text) := fun H1 e Q q => by
  cases t with
  | f ps => exact .inl (m_str (d := 0) h hP (Nat.le_refl _) h3 H1 e Q q)
  | n and l r =>
    cases and with
    | true => exact .inr (.inl (m_str h hP hd h3 H1 e Q q))
    | false => exact .inr (.inr (m_str h hP hd h3 H1 e Q q))
end
theorem ok_Both_forms__v1 {f : Addr} {fd : FuncData} (F : Fun K "forms" "Both.forms" s_Both_forms f fd) (T : Txt K mg a_OPEN_PARTS C_Both C_Either C_Form C_GlueError C_NoForm C_NoText) (D_Form_forms : DfM P w K mg base C_Form "forms" ["self"] 1 (spForms C_Form C_Both C_Either none 0)) : FnOk P w K mg base CX0 2 f fd ["self"] (spForms C_Form C_Both C_Either (some true) 1) := by
  refine F.ok sc_Both_forms (fun vs H Q E h => ?_) (fun cdv A outer s0 H vs Q E hr h => ?_)
  · obtain ⟨a, t, rfl, _⟩ := h
    rfl
  · obtain ⟨a, t, rfl, ⟨hP, hk, hd⟩, h3, q⟩ := h
    refine ⟨_, (pss_one (ps_ret (pe_op op_cat (pe_mth0 T.k_Form D_Form_forms (hr.mono (by decide)) (pe_fld (pv 0) rfl)) (pe_mth0 T.k_Form D_Form_forms (hr.mono (by decide)) (pe_fld (pv 0) rfl))))), ?_⟩
    cases hP with
    | f _ => cases hk
    | @n and l r a dx p q' ha hl hr' =>
      cases hk
      have hc : H a = some (.ins C_Both dx (pairF p q')) := ha
      have one : ∀ {σ : L2.St} {H'} (_ : Ex H H') (_ : σ[0]? = some (some (.ref a))), Ev (tFld K (tVar 0) "_one") σ H' (.ref p) := fun e i0 => tFld_ev i0 (e _ _ hc) T.k_Both T.a_Both__one (pairF_one p q')
      have two : ∀ {σ : L2.St} {H'} (_ : Ex H H') (_ : σ[0]? = some (some (.ref a))), Ev (tFld K (tVar 0) "_other") σ H' (.ref q') := fun e i0 => tFld_ev i0 (e _ _ hc) T.k_Both T.a_Both__other (pairF_other p q')
      have hdl : l.depth ≤ 0 := by
        simp only [Pt.depth] at hd
        omega
      have hdr : r.depth ≤ 0 := by
        simp only [Pt.depth] at hd
        omega
      have hll : l.leaves ≤ 3 := by
        have := r.leaves_pos
        simp only [Pt.leaves] at h3
        omega
      have hlr : r.leaves ≤ 3 := by
        have := l.leaves_pos
        simp only [Pt.leaves] at h3
        omega
      cases l with
      | n _ _ _ =>
        simp only [Pt.depth] at hd
        omega
      | f ps1 =>
      cases r with
      | n _ _ _ =>
        simp only [Pt.depth] at hd
        omega
      | f ps2 =>
      have n1 := Pt.forms_len (.f ps1)
      have n2 := Pt.forms_len (.f ps2)
      exact ers_cat upF (m_forms (d := 0) (one (Ex.refl _) rfl) hl hdl hll) (m_forms (d := 0) (two (Ex.refl _) rfl) hr' hdr hlr) (by omega) H (Ex.refl _) _ q

theorem ok_Both___str____v1 {f : Addr} {fd : FuncData} (F : Fun K "__str__" "Both.__str__" s_Both___str__ f fd) (T : Txt K mg a_OPEN_PARTS C_Both C_Either C_Form C_GlueError C_NoForm C_NoText) (D_Form___str__ : DfSt P w K mg base C_Form ["self"] 1 (spStrP C_Form C_Both C_Either none 0)) : FnOk P w K mg base CX0 3 f fd ["self"] (spStrP C_Form C_Both C_Either (some true) 1) := by
  refine F.ok sc_Both___str__ (fun vs H Q E h => ?_) (fun cdv A outer s0 H vs Q E hr h => ?_)
  · obtain ⟨a, t, rfl, _⟩ := h
    rfl
  · obtain ⟨a, t, rfl, ⟨hP, hk, hd⟩, h3, q⟩ := h
    refine ⟨_, (pss_one (ps_ret (pe_joined (.cons pe_str (.cons (pe_fmt_df D_Form___str__ (hr.mono (by decide)) (pe_fld (pv 0) rfl)) (.cons pe_str (.cons (pe_fmt_df D_Form___str__ (hr.mono (by decide)) (pe_fld (pv 0) rfl)) (.cons pe_str .nil)))))))), ?_⟩
    cases hP with
    | f _ => cases hk
    | @n and l r a dx p q' ha hl hr' =>
      cases hk
      have hc : H a = some (.ins C_Both dx (pairF p q')) := ha
      have one : ∀ {σ : L2.St} {H'} (_ : Ex H H') (_ : σ[0]? = some (some (.ref a))), Ev (tFld K (tVar 0) "_one") σ H' (.ref p) := fun e i0 => tFld_ev i0 (e _ _ hc) T.k_Both T.a_Both__one (pairF_one p q')
      have two : ∀ {σ : L2.St} {H'} (_ : Ex H H') (_ : σ[0]? = some (some (.ref a))), Ev (tFld K (tVar 0) "_other") σ H' (.ref q') := fun e i0 => tFld_ev i0 (e _ _ hc) T.k_Both T.a_Both__other (pairF_other p q')
      have hdl : l.depth ≤ 0 := by
        simp only [Pt.depth] at hd
        omega
      have hdr : r.depth ≤ 0 := by
        simp only [Pt.depth] at hd
        omega
      have hll : l.leaves ≤ 3 := by
        have := r.leaves_pos
        simp only [Pt.leaves] at h3
        omega
      have hlr : r.leaves ≤ 3 := by
        have := l.leaves_pos
        simp only [Pt.leaves] at h3
        omega
      have tl1 := text_len hl
      have tl2 := text_len hr'
      have e0 : ∀ z : Str, Str.empty ++ z = z := fun z => by
        cases z with
        | mk a => show (⟨#[] ++ a⟩ : Str) = ⟨a⟩; simp
      have a1 : ∀ a b : Str, (a ++ b).length = a.length + b.length := app_len
      have k1 : ("(" : Str).length = 1 := by decide +kernel
      have k2 : (")" : Str).length = 1 := by decide +kernel
      have k3 : (" & " : Str).length = 3 := by decide +kernel
      cases l with
      | n _ _ _ =>
        simp only [Pt.depth] at hd
        omega
      | f ps1 =>
      cases r with
      | n _ _ _ =>
        simp only [Pt.depth] at hd
        omega
      | f ps2 =>
      refine ⟨_, rfl, sz_of (by rw [e0, k1]; omega), m_fmt (d := 0) (one (Ex.refl _) rfl) hl hdl hll H (Ex.refl _) _ fun H1 e1 => ⟨_, rfl, sz_of (by rw [e0, a1, k1]; omega), _, rfl, sz_of (by rw [e0, a1, a1, k1, k3]; omega), m_fmt (d := 0) (two e1 rfl) (hr'.ex e1) hdr hlr H1 (Ex.refl _) _ fun H2 e2 => ⟨_, rfl, sz_of (by rw [e0, a1, a1, a1, k1, k3]; omega), _, rfl, sz_of (by rw [e0, a1, a1, a1, a1, k1, k2, k3]; omega), ?_⟩⟩⟩
      rw [e0]
      exact q H2 (e1.trans e2)
theorem ok_Either_forms__v1 {f : Addr} {fd : FuncData} (F : Fun K "forms" "Either.forms" s_Either_forms f fd) (T : Txt K mg a_OPEN_PARTS C_Both C_Either C_Form C_GlueError C_NoForm C_NoText) (D_Form_forms : DfM P w K mg base C_Form "forms" ["self"] 1 (spForms C_Form C_Both C_Either none 0)) : FnOk P w K mg base CX0 2 f fd ["self"] (spForms C_Form C_Both C_Either (some false) 1) := by
  refine F.ok sc_Either_forms (fun vs H Q E h => ?_) (fun cdv A outer s0 H vs Q E hr h => ?_)
  · obtain ⟨a, t, rfl, _⟩ := h
    rfl
  · obtain ⟨a, t, rfl, ⟨hP, hk, hd⟩, h3, q⟩ := h
    refine ⟨_, (pss_one (ps_ret (pe_op op_cat (pe_mth0 T.k_Form D_Form_forms (hr.mono (by decide)) (pe_fld (pv 0) rfl)) (pe_mth0 T.k_Form D_Form_forms (hr.mono (by decide)) (pe_fld (pv 0) rfl))))), ?_⟩
    cases hP with
    | f _ => cases hk
    | @n and l r a dx p q' ha hl hr' =>
      cases hk
      have hc : H a = some (.ins C_Either dx (pairF p q')) := ha
      have one : ∀ {σ : L2.St} {H'} (_ : Ex H H') (_ : σ[0]? = some (some (.ref a))), Ev (tFld K (tVar 0) "_one") σ H' (.ref p) := fun e i0 => tFld_ev i0 (e _ _ hc) T.k_Either T.a_Either__one (pairF_one p q')
      have two : ∀ {σ : L2.St} {H'} (_ : Ex H H') (_ : σ[0]? = some (some (.ref a))), Ev (tFld K (tVar 0) "_other") σ H' (.ref q') := fun e i0 => tFld_ev i0 (e _ _ hc) T.k_Either T.a_Either__other (pairF_other p q')
      have hdl : l.depth ≤ 0 := by
        simp only [Pt.depth] at hd
        omega
      have hdr : r.depth ≤ 0 := by
        simp only [Pt.depth] at hd
        omega
      have hll : l.leaves ≤ 3 := by
        have := r.leaves_pos
        simp only [Pt.leaves] at h3
        omega
      have hlr : r.leaves ≤ 3 := by
        have := l.leaves_pos
        simp only [Pt.leaves] at h3
        omega
      cases l with
      | n _ _ _ =>
        simp only [Pt.depth] at hd
        omega
      | f ps1 =>
      cases r with
      | n _ _ _ =>
        simp only [Pt.depth] at hd
        omega
      | f ps2 =>
      have n1 := Pt.forms_len (.f ps1)
      have n2 := Pt.forms_len (.f ps2)
      exact ers_cat upF (m_forms (d := 0) (one (Ex.refl _) rfl) hl hdl hll) (m_forms (d := 0) (two (Ex.refl _) rfl) hr' hdr hlr) (by omega) H (Ex.refl _) _ q

theorem ok_Either___str____v1 {f : Addr} {fd : FuncData} (F : Fun K "__str__" "Either.__str__" s_Either___str__ f fd) (T : Txt K mg a_OPEN_PARTS C_Both C_Either C_Form C_GlueError C_NoForm C_NoText) (D_Form___str__ : DfSt P w K mg base C_Form ["self"] 1 (spStrP C_Form C_Both C_Either none 0)) : FnOk P w K mg base CX0 3 f fd ["self"] (spStrP C_Form C_Both C_Either (some false) 1) := by
  refine F.ok sc_Either___str__ (fun vs H Q E h => ?_) (fun cdv A outer s0 H vs Q E hr h => ?_)
  · obtain ⟨a, t, rfl, _⟩ := h
    rfl
  · obtain ⟨a, t, rfl, ⟨hP, hk, hd⟩, h3, q⟩ := h
    refine ⟨_, (pss_one (ps_ret (pe_joined (.cons pe_str (.cons (pe_fmt_df D_Form___str__ (hr.mono (by decide)) (pe_fld (pv 0) rfl)) (.cons pe_str (.cons (pe_fmt_df D_Form___str__ (hr.mono (by decide)) (pe_fld (pv 0) rfl)) (.cons pe_str .nil)))))))), ?_⟩
    cases hP with
    | f _ => cases hk
    | @n and l r a dx p q' ha hl hr' =>
      cases hk
      have hc : H a = some (.ins C_Either dx (pairF p q')) := ha
      have one : ∀ {σ : L2.St} {H'} (_ : Ex H H') (_ : σ[0]? = some (some (.ref a))), Ev (tFld K (tVar 0) "_one") σ H' (.ref p) := fun e i0 => tFld_ev i0 (e _ _ hc) T.k_Either T.a_Either__one (pairF_one p q')
      have two : ∀ {σ : L2.St} {H'} (_ : Ex H H') (_ : σ[0]? = some (some (.ref a))), Ev (tFld K (tVar 0) "_other") σ H' (.ref q') := fun e i0 => tFld_ev i0 (e _ _ hc) T.k_Either T.a_Either__other (pairF_other p q')
      have hdl : l.depth ≤ 0 := by
        simp only [Pt.depth] at hd
        omega
      have hdr : r.depth ≤ 0 := by
        simp only [Pt.depth] at hd
        omega
      have hll : l.leaves ≤ 3 := by
        have := r.leaves_pos
        simp only [Pt.leaves] at h3
        omega
      have hlr : r.leaves ≤ 3 := by
        have := l.leaves_pos
        simp only [Pt.leaves] at h3
        omega
      have tl1 := text_len hl
      have tl2 := text_len hr'
      have e0 : ∀ z : Str, Str.empty ++ z = z := fun z => by
        cases z with
        | mk a => show (⟨#[] ++ a⟩ : Str) = ⟨a⟩; simp
      have a1 : ∀ a b : Str, (a ++ b).length = a.length + b.length := app_len
      have k1 : ("(" : Str).length = 1 := by decide +kernel
      have k2 : (")" : Str).length = 1 := by decide +kernel
      have k3 : (" | " : Str).length = 3 := by decide +kernel
      cases l with
      | n _ _ _ =>
        simp only [Pt.depth] at hd
        omega
      | f ps1 =>
      cases r with
      | n _ _ _ =>
        simp only [Pt.depth] at hd
        omega
      | f ps2 =>
      refine ⟨_, rfl, sz_of (by rw [e0, k1]; omega), m_fmt (d := 0) (one (Ex.refl _) rfl) hl hdl hll H (Ex.refl _) _ fun H1 e1 => ⟨_, rfl, sz_of (by rw [e0, a1, k1]; omega), _, rfl, sz_of (by rw [e0, a1, a1, k1, k3]; omega), m_fmt (d := 0) (two e1 rfl) (hr'.ex e1) hdr hlr H1 (Ex.refl _) _ fun H2 e2 => ⟨_, rfl, sz_of (by rw [e0, a1, a1, a1, k1, k3]; omega), _, rfl, sz_of (by rw [e0, a1, a1, a1, a1, k1, k2, k3]; omega), ?_⟩⟩⟩
      rw [e0]
      exact q H2 (e1.trans e2)
theorem ok_Both_forms__v2 {f : Addr} {fd : FuncData} (F : Fun K "forms" "Both.forms" s_Both_forms f fd) (T : Txt K mg a_OPEN_PARTS C_Both C_Either C_Form C_GlueError C_NoForm C_NoText) (D_Form_forms : DfM P w K mg base C_Form "forms" ["self"] 1 (spForms C_Form C_Both C_Either none 0)) (D_Both_forms__v1 : DfM P w K mg base C_Both "forms" ["self"] 2 (spForms C_Form C_Both C_Either (some true) 1)) (D_Either_forms__v1 : DfM P w K mg base C_Either "forms" ["self"] 2 (spForms C_Form C_Both C_Either (some false) 1)) : FnOk P w K mg base CX0 3 f fd ["self"] (spForms C_Form C_Both C_Either (some true) 2) := by
  refine F.ok sc_Both_forms (fun vs H Q E h => ?_) (fun cdv A outer s0 H vs Q E hr h => ?_)
  · obtain ⟨a, t, rfl, _⟩ := h
    rfl
  · obtain ⟨a, t, rfl, ⟨hP, hk, hd⟩, h3, q⟩ := h
    refine ⟨_, (pss_one (ps_ret (pe_op op_cat (pe_alt (pe_mth0 T.k_Form D_Form_forms (hr.mono (by decide)) (pe_fld (pv 0) rfl))
        (pe_alt (pe_mth0 T.k_Both D_Both_forms__v1 (hr.mono (by decide)) (pe_fld (pv 0) rfl))
        (pe_mth0 T.k_Either D_Either_forms__v1 (hr.mono (by decide)) (pe_fld (pv 0) rfl)))) (pe_alt (pe_mth0 T.k_Form D_Form_forms (hr.mono (by decide)) (pe_fld (pv 0) rfl))
        (pe_alt (pe_mth0 T.k_Both D_Both_forms__v1 (hr.mono (by decide)) (pe_fld (pv 0) rfl))
        (pe_mth0 T.k_Either D_Either_forms__v1 (hr.mono (by decide)) (pe_fld (pv 0) rfl))))))), ?_⟩
    cases hP with
    | f _ => cases hk
    | @n and l r a dx p q' ha hl hr' =>
      cases hk
      have hc : H a = some (.ins C_Both dx (pairF p q')) := ha
      have one : ∀ {σ : L2.St} {H'} (_ : Ex H H') (_ : σ[0]? = some (some (.ref a))), Ev (tFld K (tVar 0) "_one") σ H' (.ref p) := fun e i0 => tFld_ev i0 (e _ _ hc) T.k_Both T.a_Both__one (pairF_one p q')
      have two : ∀ {σ : L2.St} {H'} (_ : Ex H H') (_ : σ[0]? = some (some (.ref a))), Ev (tFld K (tVar 0) "_other") σ H' (.ref q') := fun e i0 => tFld_ev i0 (e _ _ hc) T.k_Both T.a_Both__other (pairF_other p q')
      have hdl : l.depth ≤ 1 := by
        simp only [Pt.depth] at hd
        omega
      have hdr : r.depth ≤ 1 := by
        simp only [Pt.depth] at hd
        omega
      have hll : l.leaves ≤ 3 := by
        have := r.leaves_pos
        simp only [Pt.leaves] at h3
        omega
      have hlr : r.leaves ≤ 3 := by
        have := l.leaves_pos
        simp only [Pt.leaves] at h3
        omega
      have n1 := Pt.forms_len l
      have n2 := Pt.forms_len r
      exact ers_cat upF (v_forms (one (Ex.refl _) rfl) hl hdl hll) (v_forms (two (Ex.refl _) rfl) hr' hdr hlr) (by omega) H (Ex.refl _) _ q

theorem ok_Both___str____v2 {f : Addr} {fd : FuncData} (F : Fun K "__str__" "Both.__str__" s_Both___str__ f fd) (T : Txt K mg a_OPEN_PARTS C_Both C_Either C_Form C_GlueError C_NoForm C_NoText) (D_Form___str__ : DfSt P w K mg base C_Form ["self"] 1 (spStrP C_Form C_Both C_Either none 0)) (D_Both___str____v1 : DfSt P w K mg base C_Both ["self"] 3 (spStrP C_Form C_Both C_Either (some true) 1)) (D_Either___str____v1 : DfSt P w K mg base C_Either ["self"] 3 (spStrP C_Form C_Both C_Either (some false) 1)) : FnOk P w K mg base CX0 5 f fd ["self"] (spStrP C_Form C_Both C_Either (some true) 2) := by
  refine F.ok sc_Both___str__ (fun vs H Q E h => ?_) (fun cdv A outer s0 H vs Q E hr h => ?_)
  · obtain ⟨a, t, rfl, _⟩ := h
    rfl
  · obtain ⟨a, t, rfl, ⟨hP, hk, hd⟩, h3, q⟩ := h
    refine ⟨_, (pss_one (ps_ret (pe_joined (.cons pe_str (.cons (pe_alt (pe_fmt_df D_Form___str__ (hr.mono (by decide)) (pe_fld (pv 0) rfl))
        (pe_alt (pe_fmt_df D_Both___str____v1 (hr.mono (by decide)) (pe_fld (pv 0) rfl))
        (pe_fmt_df D_Either___str____v1 (hr.mono (by decide)) (pe_fld (pv 0) rfl)))) (.cons pe_str (.cons (pe_alt (pe_fmt_df D_Form___str__ (hr.mono (by decide)) (pe_fld (pv 0) rfl))
        (pe_alt (pe_fmt_df D_Both___str____v1 (hr.mono (by decide)) (pe_fld (pv 0) rfl))
        (pe_fmt_df D_Either___str____v1 (hr.mono (by decide)) (pe_fld (pv 0) rfl)))) (.cons pe_str .nil)))))))), ?_⟩
    cases hP with
    | f _ => cases hk
    | @n and l r a dx p q' ha hl hr' =>
      cases hk
      have hc : H a = some (.ins C_Both dx (pairF p q')) := ha
      have one : ∀ {σ : L2.St} {H'} (_ : Ex H H') (_ : σ[0]? = some (some (.ref a))), Ev (tFld K (tVar 0) "_one") σ H' (.ref p) := fun e i0 => tFld_ev i0 (e _ _ hc) T.k_Both T.a_Both__one (pairF_one p q')
      have two : ∀ {σ : L2.St} {H'} (_ : Ex H H') (_ : σ[0]? = some (some (.ref a))), Ev (tFld K (tVar 0) "_other") σ H' (.ref q') := fun e i0 => tFld_ev i0 (e _ _ hc) T.k_Both T.a_Both__other (pairF_other p q')
      have hdl : l.depth ≤ 1 := by
        simp only [Pt.depth] at hd
        omega
      have hdr : r.depth ≤ 1 := by
        simp only [Pt.depth] at hd
        omega
      have hll : l.leaves ≤ 3 := by
        have := r.leaves_pos
        simp only [Pt.leaves] at h3
        omega
      have hlr : r.leaves ≤ 3 := by
        have := l.leaves_pos
        simp only [Pt.leaves] at h3
        omega
      have tl1 := text_len hl
      have tl2 := text_len hr'
      have e0 : ∀ z : Str, Str.empty ++ z = z := fun z => by
        cases z with
        | mk a => show (⟨#[] ++ a⟩ : Str) = ⟨a⟩; simp
      have a1 : ∀ a b : Str, (a ++ b).length = a.length + b.length := app_len
      have k1 : ("(" : Str).length = 1 := by decide +kernel
      have k2 : (")" : Str).length = 1 := by decide +kernel
      have k3 : (" & " : Str).length = 3 := by decide +kernel
      refine ⟨_, rfl, sz_of (by rw [e0, k1]; omega), v_fmt (one (Ex.refl _) rfl) hl hdl hll H (Ex.refl _) _ fun H1 e1 => ⟨_, rfl, sz_of (by rw [e0, a1, k1]; omega), _, rfl, sz_of (by rw [e0, a1, a1, k1, k3]; omega), v_fmt (two e1 rfl) (hr'.ex e1) hdr hlr H1 (Ex.refl _) _ fun H2 e2 => ⟨_, rfl, sz_of (by rw [e0, a1, a1, a1, k1, k3]; omega), _, rfl, sz_of (by rw [e0, a1, a1, a1, a1, k1, k2, k3]; omega), ?_⟩⟩⟩
      rw [e0]
      exact q H2 (e1.trans e2)
theorem ok_Either_forms__v2 {f : Addr} {fd : FuncData} (F : Fun K "forms" "Either.forms" s_Either_forms f fd) (T : Txt K mg a_OPEN_PARTS C_Both C_Either C_Form C_GlueError C_NoForm C_NoText) (D_Form_forms : DfM P w K mg base C_Form "forms" ["self"] 1 (spForms C_Form C_Both C_Either none 0)) (D_Both_forms__v1 : DfM P w K mg base C_Both "forms" ["self"] 2 (spForms C_Form C_Both C_Either (some true) 1)) (D_Either_forms__v1 : DfM P w K mg base C_Either "forms" ["self"] 2 (spForms C_Form C_Both C_Either (some false) 1)) : FnOk P w K mg base CX0 3 f fd ["self"] (spForms C_Form C_Both C_Either (some false) 2) := by
  refine F.ok sc_Either_forms (fun vs H Q E h => ?_) (fun cdv A outer s0 H vs Q E hr h => ?_)
  · obtain ⟨a, t, rfl, _⟩ := h
    rfl
  · obtain ⟨a, t, rfl, ⟨hP, hk, hd⟩, h3, q⟩ := h
    refine ⟨_, (pss_one (ps_ret (pe_op op_cat (pe_alt (pe_mth0 T.k_Form D_Form_forms (hr.mono (by decide)) (pe_fld (pv 0) rfl))
        (pe_alt (pe_mth0 T.k_Both D_Both_forms__v1 (hr.mono (by decide)) (pe_fld (pv 0) rfl))
        (pe_mth0 T.k_Either D_Either_forms__v1 (hr.mono (by decide)) (pe_fld (pv 0) rfl)))) (pe_alt (pe_mth0 T.k_Form D_Form_forms (hr.mono (by decide)) (pe_fld (pv 0) rfl))
        (pe_alt (pe_mth0 T.k_Both D_Both_forms__v1 (hr.mono (by decide)) (pe_fld (pv 0) rfl))
        (pe_mth0 T.k_Either D_Either_forms__v1 (hr.mono (by decide)) (pe_fld (pv 0) rfl))))))), ?_⟩
    cases hP with
    | f _ => cases hk
    | @n and l r a dx p q' ha hl hr' =>
      cases hk
      have hc : H a = some (.ins C_Either dx (pairF p q')) := ha
      have one : ∀ {σ : L2.St} {H'} (_ : Ex H H') (_ : σ[0]? = some (some (.ref a))), Ev (tFld K (tVar 0) "_one") σ H' (.ref p) := fun e i0 => tFld_ev i0 (e _ _ hc) T.k_Either T.a_Either__one (pairF_one p q')
      have two : ∀ {σ : L2.St} {H'} (_ : Ex H H') (_ : σ[0]? = some (some (.ref a))), Ev (tFld K (tVar 0) "_other") σ H' (.ref q') := fun e i0 => tFld_ev i0 (e _ _ hc) T.k_Either T.a_Either__other (pairF_other p q')
      have hdl : l.depth ≤ 1 := by
        simp only [Pt.depth] at hd
        omega
      have hdr : r.depth ≤ 1 := by
        simp only [Pt.depth] at hd
        omega
      have hll : l.leaves ≤ 3 := by
        have := r.leaves_pos
        simp only [Pt.leaves] at h3
        omega
      have hlr : r.leaves ≤ 3 := by
        have := l.leaves_pos
        simp only [Pt.leaves] at h3
        omega
      have n1 := Pt.forms_len l
      have n2 := Pt.forms_len r
      exact ers_cat upF (v_forms (one (Ex.refl _) rfl) hl hdl hll) (v_forms (two (Ex.refl _) rfl) hr' hdr hlr) (by omega) H (Ex.refl _) _ q

theorem ok_Either___str____v2 {f : Addr} {fd : FuncData} (F : Fun K "__str__" "Either.__str__" s_Either___str__ f fd) (T : Txt K mg a_OPEN_PARTS C_Both C_Either C_Form C_GlueError C_NoForm C_NoText) (D_Form___str__ : DfSt P w K mg base C_Form ["self"] 1 (spStrP C_Form C_Both C_Either none 0)) (D_Both___str____v1 : DfSt P w K mg base C_Both ["self"] 3 (spStrP C_Form C_Both C_Either (some true) 1)) (D_Either___str____v1 : DfSt P w K mg base C_Either ["self"] 3 (spStrP C_Form C_Both C_Either (some false) 1)) : FnOk P w K mg base CX0 5 f fd ["self"] (spStrP C_Form C_Both C_Either (some false) 2) := by
  refine F.ok sc_Either___str__ (fun vs H Q E h => ?_) (fun cdv A outer s0 H vs Q E hr h => ?_)
  · obtain ⟨a, t, rfl, _⟩ := h
    rfl
  · obtain ⟨a, t, rfl, ⟨hP, hk, hd⟩, h3, q⟩ := h
    refine ⟨_, (pss_one (ps_ret (pe_joined (.cons pe_str (.cons (pe_alt (pe_fmt_df D_Form___str__ (hr.mono (by decide)) (pe_fld (pv 0) rfl))
        (pe_alt (pe_fmt_df D_Both___str____v1 (hr.mono (by decide)) (pe_fld (pv 0) rfl))
        (pe_fmt_df D_Either___str____v1 (hr.mono (by decide)) (pe_fld (pv 0) rfl)))) (.cons pe_str (.cons (pe_alt (pe_fmt_df D_Form___str__ (hr.mono (by decide)) (pe_fld (pv 0) rfl))
        (pe_alt (pe_fmt_df D_Both___str____v1 (hr.mono (by decide)) (pe_fld (pv 0) rfl))
        (pe_fmt_df D_Either___str____v1 (hr.mono (by decide)) (pe_fld (pv 0) rfl)))) (.cons pe_str .nil)))))))), ?_⟩
    cases hP with
    | f _ => cases hk
    | @n and l r a dx p q' ha hl hr' =>
      cases hk
      have hc : H a = some (.ins C_Either dx (pairF p q')) := ha
      have one : ∀ {σ : L2.St} {H'} (_ : Ex H H') (_ : σ[0]? = some (some (.ref a))), Ev (tFld K (tVar 0) "_one") σ H' (.ref p) := fun e i0 => tFld_ev i0 (e _ _ hc) T.k_Either T.a_Either__one (pairF_one p q')
      have two : ∀ {σ : L2.St} {H'} (_ : Ex H H') (_ : σ[0]? = some (some (.ref a))), Ev (tFld K (tVar 0) "_other") σ H' (.ref q') := fun e i0 => tFld_ev i0 (e _ _ hc) T.k_Either T.a_Either__other (pairF_other p q')
      have hdl : l.depth ≤ 1 := by
        simp only [Pt.depth] at hd
        omega
      have hdr : r.depth ≤ 1 := by
        simp only [Pt.depth] at hd
        omega
      have hll : l.leaves ≤ 3 := by
        have := r.leaves_pos
        simp only [Pt.leaves] at h3
        omega
      have hlr : r.leaves ≤ 3 := by
        have := l.leaves_pos
        simp only [Pt.leaves] at h3
        omega
      have tl1 := text_len hl
      have tl2 := text_len hr'
      have e0 : ∀ z : Str, Str.empty ++ z = z := fun z => by
        cases z with
        | mk a => show (⟨#[] ++ a⟩ : Str) = ⟨a⟩; simp
      have a1 : ∀ a b : Str, (a ++ b).length = a.length + b.length := app_len
      have k1 : ("(" : Str).length = 1 := by decide +kernel
      have k2 : (")" : Str).length = 1 := by decide +kernel
      have k3 : (" | " : Str).length = 3 := by decide +kernel
      refine ⟨_, rfl, sz_of (by rw [e0, k1]; omega), v_fmt (one (Ex.refl _) rfl) hl hdl hll H (Ex.refl _) _ fun H1 e1 => ⟨_, rfl, sz_of (by rw [e0, a1, k1]; omega), _, rfl, sz_of (by rw [e0, a1, a1, k1, k3]; omega), v_fmt (two e1 rfl) (hr'.ex e1) hdr hlr H1 (Ex.refl _) _ fun H2 e2 => ⟨_, rfl, sz_of (by rw [e0, a1, a1, a1, k1, k3]; omega), _, rfl, sz_of (by rw [e0, a1, a1, a1, a1, k1, k2, k3]; omega), ?_⟩⟩⟩
      rw [e0]
      exact q H2 (e1.trans e2)

/-! ### shapes: how forms are joined -/
inductive Sh
  | f
  | n (and : Bool) (l r : Sh)
def Sh.leaves : Sh → Nat
  | .f => 1
  | .n _ l r => l.leaves + r.leaves
def Sh.depth : Sh → Nat
  | .f => 0
  | .n _ l r => max l.depth r.depth + 1
theorem Sh.leaves_pos : ∀ t : Sh, 1 ≤ t.leaves
  | .f => Nat.le_refl _
  | .n _ l r => by
    have := l.leaves_pos
    show 1 ≤ l.leaves + r.leaves
    omega
theorem Sh.depth_lt : ∀ t : Sh, t.depth < t.leaves
  | .f => Nat.zero_lt_one
  | .n _ l r => by
    have h1 := l.depth_lt
    have h2 := r.depth_lt
    have h3 := l.leaves_pos
    have h4 := r.leaves_pos
    show max l.depth r.depth + 1 < l.leaves + r.leaves
    omega
def signB (and : Bool) : Str := if and = true then "&" else "|"
/-- the list at a is the shape sh, its first leaf i -/
inductive ShAt (H : Hp) : Nat → Sh → Addr → Prop
  | f {i : Nat} {a : Addr} : H a = some (.lst [.int (i : Int)]) → ShAt H i .f a
  | n {i : Nat} {and : Bool} {l r : Sh} {a p q : Addr} : H a = some (.lst [.str (signB and), .ref p, .ref q]) → ShAt H i l p → ShAt H (i + l.leaves) r q → ShAt H i (.n and l r) a
def ShR (x : Nat × Sh) (p : Addr) (H : Hp) : Prop := ShAt H x.1 x.2 p
theorem ShAt.ex {H H' : Hp} {i : Nat} {sh : Sh} {a : Addr} (h : ShAt H i sh a) (e : Ex H H') : ShAt H' i sh a := by
  induction h with
  | f h => exact .f (e _ _ h)
  | n h _ _ ih1 ih2 => exact .n (e _ _ h) ih1 ih2
theorem upSh : Up ShR := fun _ _ _ _ e h => ShAt.ex h e
theorem ShAt.off {H : Hp} {D : Addr} {i : Nat} {sh : Sh} {a : Addr} (h : ShAt H i sh a) (hD : ∀ b v vs, H b = some (.lst (v :: vs)) → ((∃ k, v = .int k ∧ vs = []) ∨ ∃ z, v = .str z) → b ≠ D) : ShAt (hide D H) i sh a := by
  induction h with
  | f h => exact .f (by rw [hide_ne (hD _ _ _ h (.inl ⟨_, rfl, rfl⟩))]; exact h)
  | n h _ _ ih1 ih2 => exact .n (by rw [hide_ne (hD _ _ _ h (.inr ⟨_, rfl⟩))]; exact h) ih1 ih2
theorem offSh : Off ShR := fun x p H D acc r hD refs _ => ShAt.off r fun b v vs hb hv w' => by
  rw [w', hD] at hb
  have : acc = v :: vs := HO.lst.inj (Option.some.inj hb)
  obtain ⟨r, hr⟩ := refs v (by rw [this]; exact List.mem_cons_self)
  rcases hv with ⟨k, hk, _⟩ | ⟨z, hz⟩
  · rw [hr] at hk; cases hk
  · rw [hr] at hz; cases hz
theorem ShAt.pool {H : Hp} {p : Addr} {s : Int × Int} {i : Nat} {sh : Sh} {a : Addr} (h : ShAt H i sh a) (hp : H p = some (pl s)) : ShAt (hide p H) i sh a := h.off fun b v vs hb hv w' => by
  rw [w', hp] at hb
  have e : ([.int s.1, .int s.2] : List V) = v :: vs := HO.lst.inj (Option.some.inj hb)
  rcases hv with ⟨k, hk, hn⟩ | ⟨z, hz⟩
  · rw [hn] at e
    cases e
  · rw [hz] at e
    cases e
theorem ShR.pool {H : Hp} {p : Addr} {s : Int × Int} {us : List V} {xs : List (Nat × Sh)} (r : Rs ShR H us xs) (hp : H p = some (pl s)) : Rs ShR (hide p H) us xs := r.imp fun x q _ h => ShAt.pool h hp
/-- one behind the other, from i to j -/
def Chain : Nat → List (Nat × Sh) → Nat → Prop
  | i, [], j => i = j
  | i, x :: xs, j => x.1 = i ∧ Chain (i + x.2.leaves) xs j
theorem chain_merge {x y : Nat × Sh} {r : List (Nat × Sh)} {j : Nat} {and : Bool} : ∀ (l : List (Nat × Sh)) (i : Nat), Chain i (l ++ x :: y :: r) j → Chain i (l ++ (x.1, .n and x.2 y.2) :: r) j ∧ y.1 = x.1 + x.2.leaves
  | [], i, ⟨h1, h2, h3⟩ => ⟨⟨h1, by
      show Chain (i + (x.2.leaves + y.2.leaves)) r j
      rw [← Nat.add_assoc]
      exact h3⟩, by rw [h2, h1]⟩
  | z :: l, i, ⟨h1, h2⟩ => ⟨⟨h1, (chain_merge (and := and) l _ h2).1⟩, (chain_merge (and := and) l _ h2).2⟩
theorem chain_range (n : Nat) : ∀ (k i : Nat), Chain i ((List.range' i k).map fun i => (i, Sh.f)) (i + k)
  | 0, i => rfl
  | k + 1, i => ⟨rfl, by
      have := chain_range n k (i + 1)
      rw [show i + (k + 1) = i + 1 + k by omega]
      exact this⟩
theorem Rs.drop {α : Type} {R : α → Addr → Hp → Prop} {H : Hp} {vs : List V} {xs : List α} (h : Rs R H vs xs) : ∀ n, Rs R H (vs.drop n) (xs.drop n) := by
  induction h with
  | nil => intro n; rw [List.drop_nil, List.drop_nil]; exact .nil
  | cons r0 hr ih =>
    intro n
    cases n with
    | zero => exact .cons r0 hr
    | succ n => exact ih n
theorem split_two {α : Type} {xs : List α} {a : Nat} (h : a + 1 < xs.length) : ∃ x y, xs[a]? = some x ∧ xs[a + 1]? = some y ∧ xs = xs.take a ++ x :: y :: xs.drop (a + 2) := by
  refine ⟨xs[a], xs[a + 1], List.getElem?_eq_getElem _, List.getElem?_eq_getElem _, ?_⟩
  have h1 : xs.drop a = xs[a] :: xs.drop (a + 1) := List.drop_eq_getElem_cons (by omega)
  have h2 : xs.drop (a + 1) = xs[a + 1] :: xs.drop (a + 2) := List.drop_eq_getElem_cons h
  rw [← h2, ← h1, List.take_append_drop]
theorem at_nat {xs : List V} {a : Nat} {v : V} (h : xs[a]? = some v) : atI xs (a : Int) = some v := by
  have := (List.getElem?_eq_some_iff.mp h).1
  unfold atI ixN
  rw [if_pos (by omega), if_pos (by omega)]
  exact h
section
variable {σ : L2.St} {H : Hp} {Q : VK} {t t1 t2 t3 : TE}
theorem lst1 (h : t σ H fun x H1 => 1 ≤ sizeLine ∧ ∀ p, H1 p = none → Q (.ref p) (upd H1 p (.lst [x]))) : tLst (tCons t tNil) σ H Q := h
theorem lst3 (h : t1 σ H fun x H1 => t2 σ H1 fun y H2 => t3 σ H2 fun z H3 => 3 ≤ sizeLine ∧ ∀ p, H3 p = none → Q (.ref p) (upd H3 p (.lst [x, y, z]))) : tLst (tCons t1 (tCons t2 (tCons t3 tNil))) σ H Q := h
theorem opI {r : R2} (h : t1 σ H fun x H1 => t2 σ H1 fun y H2 => r x y H2 Q) : tOp r t1 t2 σ H Q := h
end
def spShape : Sp := fun vs H Q _ => ∃ (p : Addr) (s : Int × Int) (n : Nat), vs = [.ref p, .int (n : Int)] ∧ H p = some (pl s) ∧ Pk s ∧ 1 ≤ n ∧ n ≤ 4 ∧
  ∀ a sh s' H', Ex (hide p H) H' → H' p = some (pl s') → Pk s' → ShAt (hide p H') 0 sh a → sh.leaves = n → Q (.ref a) H'
theorem ok__law_shape {f : Addr} {fd : FuncData} (F : Fun K "_law_shape" "_law_shape" s__law_shape f fd) (T : Txt K mg a_OPEN_PARTS C_Both C_Either C_Form C_GlueError C_NoForm C_NoText) (D__law_take : Df P w K mg base "_law_take" ["pool", "many"] 1 spTake) : FnOk P w K mg base CX0 2 f fd ["pool", "many"] spShape := by
  refine F.ok sc__law_shape (fun vs H Q E h => ?_) (fun cdv A outer s0 H vs Q E hr h => ?_)
  · obtain ⟨p, s, n, rfl, _⟩ := h
    rfl
  · obtain ⟨p, s, n, rfl, hp, hk, n1, n4, q⟩ := h
    refine ⟨_, (pss_cons (ps_setLc (i := 2) (own := [("k", 4)]) (g := gName 4) rfl sc__law_shape.nd rfl rfl (sw_true rfl rfl rfl (by decide +kernel)) (pi_range1 (by rfl) T.n_range (pa_cons (pv 1) pa_nil)) (blkOk_by (own := [("k", 4)]) (N := ["pool", "many", "rows", "at", "k"]) (sc := defScope s__law_shape) (by decide +kernel)) (fun _ _ _ _ _ => pg_name (i := 4) sc__law_shape.nd rfl (Or.inl rfl)) (fun _ _ _ _ _ => pts_nil) (fun _ _ _ _ _ => (pe_lst (pa_cons (pv 4) pa_nil))))
      (pss_cons (ps_while PassesOwn.never (pt_cmpR op_gt (pe_callB call_len_seq (by rfl) T.n_len PySem.boot_len (pa_cons (pv 2) pa_nil)) pe_int (nomark _))
      (pss_cons (ps_set (i := 3) sc__law_shape.nd rfl (Or.inl rfl) (pe_df D__law_take (hr.mono (by decide)) (by rfl) (pa_cons (pv 0) (pa_cons (pe_op op_sub (pe_callB call_len_seq (by rfl) T.n_len PySem.boot_len (pa_cons (pv 2) pa_nil)) pe_int) pa_nil))))
      (pss_one (ps_set (i := 2) sc__law_shape.nd rfl (Or.inl rfl) (pe_op op_cat (pe_op op_cat (pe_slice sl_list (pv 2) po_none (po_some (pv 3))) (pe_lst (pa_cons (pe_lst (pa_cons (pe_ix ix_list (pe_lst (pa_cons pe_str (pa_cons pe_str pa_nil))) (pe_df D__law_take (hr.mono (by decide)) (by rfl) (pa_cons (pv 0) (pa_cons pe_int pa_nil))) (fun _ _ => rfl)) (pa_cons (pe_ix ix_list (pv 2) (pv 3) (fun _ _ => rfl)) (pa_cons (pe_ix ix_list (pv 2) (pe_op op_add (pv 3) pe_int) (fun _ _ => rfl)) pa_nil)))) pa_nil))) (pe_slice sl_list (pv 2) (po_some (pe_op op_add (pv 3) pe_int)) po_none))))))
      (pss_one (ps_ret (pe_ix ix_list (pv 2) pe_int (fun _ _ => rfl)))))), ?_⟩
    refine q_asgRs (R := ShR) (xs := (List.range' 0 n).map fun i => (i, Sh.f)) (fun H1 e1 Q' q' => ?_) fun l us H1 hl e1 h1 r1 => ?_
    · refine ⟨_, rfl, (n : Int), rfl, by omega, by omega, lcRs (H1 := H1) (H0 := H1) (walk_range (lo := 0) (n := n)) upSh offSh (by omega) (by simp) (fun _ _ => trivial) (fun i y x H3 H4 hy e3 yy k hk => ?_) fun l vs H3 hl e3 h3 r3 => q' l vs H3 hl e3 h3 r3⟩
      obtain ⟨rfl, rfl⟩ := yy
      refine hk _ _ (Ex.refl _) rfl fun H5 e5 Q2 q2 => ?_
      have hy2 : y = (i, Sh.f) := by
        have hi := (List.getElem?_eq_some_iff.mp hy).1
        rw [List.length_map, List.length_range'] at hi
        rw [List.getElem?_map, List.getElem?_range' hi] at hy
        have hy := Option.some.inj hy
        rw [← hy]
        show (0 + 1 * i, Sh.f) = (i, Sh.f)
        rw [Nat.one_mul, Nat.zero_add]
      refine ⟨_, rfl, sz_of (by simp), fun a ha => q2 a _ ha (Ex.new ha) ?_⟩
      rw [hy2]
      refine ShAt.f ?_
      have ez : (0 : Int) + (i : Int) = (i : Int) := Int.zero_add _
      rw [← ez]
      exact upd_same
    have nl : l ≠ p := fun w' => by
      rw [w', hp] at hl
      cases hl
    have hp1 := e1 _ _ hp
    refine q_while (fun m σ' H' => ∃ (l : Addr) (us : List V) (xs : List (Nat × Sh)) (s' : Int × Int) (y3 : Option V), σ' = [some (.ref p), some (.int (n : Int)), some (.ref l), y3, none] ∧ l ≠ p ∧ Ex (hide p H) H' ∧ H' p = some (pl s') ∧ Pk s' ∧ H' l = some (.lst us) ∧ Rs ShR (hide p H') us xs ∧ Chain 0 xs n ∧ xs.length = m ∧ 1 ≤ m ∧ m ≤ 4) n
      ⟨l, us, _, s, none, rfl, nl, hx_of e1, hp1, hk, h1, ShR.pool r1 hp1, by
        have := chain_range n n 0
        rw [Nat.zero_add] at this
        exact this, by simp, n1, n4⟩ ?_
    rintro m σ' H2 ⟨l, us, xs, s', y3, rfl, nl, e2, hp2, hk2, h2, r2, hc, rfl, m1, m4⟩
    have lus := r2.len
    refine ⟨decide ((1 : Int) < (us.length : Int)), et_test (ev_op (ev_lenL (ev_var rfl) (sq_of h2)) ev_c rv_I0), fun hb H3 e3 => ?_, fun hb H3 e3 => ?_⟩
    · have hgt : 1 < us.length := by
        have := of_decide_eq_true hb
        omega
      refine ⟨fun σ3 H4 => ∃ (l : Addr) (us : List V) (xs2 : List (Nat × Sh)) (s' : Int × Int) (y3 : Option V), σ3 = [some (.ref p), some (.int (n : Int)), some (.ref l), y3, none] ∧ l ≠ p ∧ Ex (hide p H) H4 ∧ H4 p = some (pl s') ∧ Pk s' ∧ H4 l = some (.lst us) ∧ Rs ShR (hide p H4) us xs2 ∧ Chain 0 xs2 n ∧ xs2.length = xs.length - 1, fun σ3 H4 ⟨l, us, xs2, s', y3, g1, g2, g3, g4, g5, g6, g7, g8, g9⟩ => ⟨xs.length - 1, by omega, l, us, xs2, s', y3, g1, g2, g3, g4, g5, g6, g7, g8, g9, by omega, by omega⟩, ?_⟩
      have hp3 := e3 _ _ hp2
      have h3 := e3 _ _ h2
      have K3 : Kn (hide p H3) p s' H3 := Kn.here hp3
      have g3 : hide p H3 l = some (.lst us) := by rw [hide_ne nl]; exact h3
      have tk := take_lt (s := s') (n := (us.length : Int) - 1) (by omega)
      refine qp_asg (v := .int (take s' ((us.length : Int) - 1)).1) (s1 := (take s' ((us.length : Int) - 1)).2) K3 (evp_call (vs := [.ref p, .int ((us.length : Int) - 1)]) (EvAP.of (ea_cons (ev_var rfl) (ea_cons (ev_op (ev_lenL (ev_var rfl) (sq_of g3)) ev_c rv_I0) ea_nil))) (sp_take hk2 (by omega) (by omega))) fun H4 K4 e4 => ?_
      have hk4 : Pk (take s' ((us.length : Int) - 1)).2 := take_pk hk2
      obtain ⟨a, ha⟩ : ∃ a : Nat, (take s' ((us.length : Int) - 1)).1 = (a : Int) := ⟨(take s' ((us.length : Int) - 1)).1.toNat, by omega⟩
      rw [ha] at tk ⊢
      generalize (take s' ((us.length : Int) - 1)).2 = s4 at K4 hk4
      have h4 : H4 l = some (.lst us) := K4.ex _ _ g3
      have r4 : Rs ShR (hide p H4) us xs := r2.ex upSh ((ex_hide e3).trans (hx_hide e4))
      obtain ⟨x, y, hx, hy, hsp⟩ := split_two (xs := xs) (a := a) (by omega)
      obtain ⟨u, v, hu, hv, _⟩ := split_two (xs := us) (a := a) (by omega)
      obtain ⟨pu, x', rfl, hx', rx⟩ := r4.get hu
      obtain ⟨pv', y', rfl, hy', ry⟩ := r4.get hv
      cases hx.symm.trans hx'
      cases hy.symm.trans hy'
      -- the new row
      refine opI (opI ((el_sl (K := K) (lo := none) (hi := some (a : Int)) (ev_var rfl) eo_none (eo_some (ev_var rfl)) (sq_of h4) : EvL _ _ H4 _) H4 (Ex.refl _) _ fun l1 H5 hl1 e5 k5 => ?_))
      refine lst1 (lst3 (opI ((el_lst (ea_cons ev_c (ea_cons ev_c ea_nil)) (by simp) : EvL _ _ H5 [.str "&", .str "|"]) H5 (Ex.refl _) _ fun l2 H6 hl2 e6 k6 => ?_)))
      have hp6 := e6 _ _ (e5 _ _ K4.at_)
      refine ⟨_, rfl, p, s4, 2, rfl, hp6, hk4, by decide, by decide, fun H7 e7 hp7 => ?_⟩
      have t2 := take_lt (s := s4) (n := 2) (by decide)
      have n2 : l2 ≠ p := fun w' => by
        rw [w', e5 _ _ K4.at_] at hl2
        cases hl2
      have n1' : l1 ≠ p := fun w' => by
        rw [w', K4.at_] at hl1
        cases hl1
      have k7 : H7 l2 = some (.lst [.str "&", .str "|"]) := e7 _ _ (by rw [hide_ne n2]; exact k6)
      have up7 : ∀ {b o}, b ≠ p → H4 b = some o → H7 b = some o := fun nb hb => e7 _ _ (by rw [hide_ne nb]; exact e6 _ _ (e5 _ _ hb))
      have hk7 : Pk (take s4 2).2 := take_pk hk4
      obtain ⟨and, hand⟩ : ∃ and : Bool, atI [V.str "&", V.str "|"] (take s4 2).1 = some (.str (signB and)) := by
        have : (take s4 2).1 = 0 ∨ (take s4 2).1 = 1 := by omega
        rcases this with h | h <;> rw [h]
        · exact ⟨true, rfl⟩
        · exact ⟨false, rfl⟩
      refine rv_ixL (sq_of k7) hand H7 (Ex.refl _) _ fun H8 e8 => ?_
      refine (ev_op (ev_var rfl) (ev_var rfl) (rv_ixL (sq_of (e8 _ _ (up7 nl h4))) (at_nat hu)) : Ev _ _ H8 _) H8 (Ex.refl _) _ fun H9 e9 => ?_
      refine (ev_op (ev_var rfl) (ev_op (ev_var rfl) ev_c rv_add) (rv_ixL (sq_of (e9 _ _ (e8 _ _ (up7 nl h4)))) (at_nat hv)) : Ev _ _ H9 _) H9 (Ex.refl _) _ fun H10 e10 => ?_
      refine ⟨sz_of (by simp), fun l3 hl3 => ?_⟩
      refine ⟨sz_of (by simp), fun l4 hl4 => ?_⟩
      have e710 : Ex H7 H10 := (e8.trans e9).trans e10
      have e1011 : Ex H10 (upd (upd H10 l3 (.lst [.str (signB and), .ref pu, .ref pv'])) l4 (.lst [.ref l3])) := (Ex.new hl3).trans (Ex.new hl4)
      have k1 : (upd (upd H10 l3 (.lst [.str (signB and), .ref pu, .ref pv'])) l4 (.lst [.ref l3])) l1 = some (.lst (cutV us none (some (a : Int)))) := e1011 _ _ (e710 _ _ (e7 _ _ (by rw [hide_ne n1']; exact e6 _ _ k5)))
      have k4 : (upd (upd H10 l3 (.lst [.str (signB and), .ref pu, .ref pv'])) l4 (.lst [.ref l3])) l4 = some (.lst [.ref l3]) := upd_same
      have k3 : (upd (upd H10 l3 (.lst [.str (signB and), .ref pu, .ref pv'])) l4 (.lst [.ref l3])) l3 = some (.lst [.str (signB and), .ref pu, .ref pv']) := Ex.new hl4 _ _ upd_same
      generalize upd (upd H10 l3 (.lst [.str (signB and), .ref pu, .ref pv'])) l4 (.lst [.ref l3]) = H11 at e1011 k1 k3 k4
      rw [cutV_lt] at k1
      have lt1 : (us.take a).length = a := by rw [List.length_take]; omega
      refine ⟨l1, l4, us.take a, [.ref l3], rfl, rfl, k1, k4, sz_of (by rw [lt1]; simp; omega), fun l5 hl5 => ?_⟩
      have k5' : (upd H11 l5 (.lst (us.take a ++ [.ref l3]))) l5 = some (.lst (us.take a ++ [.ref l3])) := upd_same
      have e12 : Ex H11 (upd H11 l5 (.lst (us.take a ++ [.ref l3]))) := Ex.new hl5
      generalize upd H11 l5 (.lst (us.take a ++ [.ref l3])) = H12 at e12 k5'
      have e712 : Ex H7 H12 := (e710.trans e1011).trans e12
      refine (el_sl (K := K) (lo := some (((a + 2 : Nat) : Int))) (hi := none) (ev_var rfl) (eo_some (ev_is (ev_op (ev_var rfl) ev_c rv_add) (congrArg V.int (by omega)))) eo_none (sq_of (e712 _ _ (up7 nl h4))) : EvL _ _ H12 _) H12 (Ex.refl _) _ fun l6 H13 hl6 e13 k6' => ?_
      rw [cutV_ge] at k6'
      refine ⟨l5, l6, us.take a ++ [.ref l3], us.drop (a + 2), rfl, rfl, e13 _ _ k5', k6', sz_of (by rw [List.length_append, lt1, List.length_drop]; simp; omega), fun l7 hl7 => ?_⟩
      have eF : Ex H7 (upd H13 l7 (.lst ((us.take a ++ [.ref l3]) ++ us.drop (a + 2)))) := (e712.trans e13).trans (Ex.new hl7)
      have hpF := eF _ _ hp7
      have e4F : Ex (hide p H4) (upd H13 l7 (.lst ((us.take a ++ [.ref l3]) ++ us.drop (a + 2)))) := (ex_hide (e5.trans e6)).trans (e7.trans eF)
      have k3F : (upd H13 l7 (.lst ((us.take a ++ [.ref l3]) ++ us.drop (a + 2)))) l3 = some (.lst [.str (signB and), .ref pu, .ref pv']) := Ex.new hl7 _ _ (e13 _ _ (e12 _ _ k3))
      have nl3 : l3 ≠ p := fun w' => by
        rw [w', e710 _ _ hp7] at hl3
        cases hl3
      have nl7 : l7 ≠ p := fun w' => by
        rw [w', e13 _ _ (e712 _ _ hp7)] at hl7
        cases hl7
      have kF : (upd H13 l7 (.lst ((us.take a ++ [.ref l3]) ++ us.drop (a + 2)))) l7 = some (.lst ((us.take a ++ [.ref l3]) ++ us.drop (a + 2))) := upd_same
      generalize upd H13 l7 (.lst ((us.take a ++ [.ref l3]) ++ us.drop (a + 2))) = HF at eF hpF e4F k3F kF
      have rF : Rs ShR (hide p HF) us xs := r4.ex upSh (hx_hide e4F)
      obtain ⟨_, _, w1, hx2, rx2⟩ := rF.get hu
      obtain ⟨_, _, w2, hy2, ry2⟩ := rF.get hv
      cases w1
      cases w2
      cases hx.symm.trans hx2
      cases hy.symm.trans hy2
      have hmg := chain_merge (and := and) (x := x) (y := y) (r := xs.drop (a + 2)) (j := n) (xs.take a) 0 (by rw [← hsp]; exact hc)
      refine ⟨l7, _, xs.take a ++ (x.1, .n and x.2 y.2) :: xs.drop (a + 2), (take s4 2).2, _, rfl, nl7, hx_trans (hx_trans e2 (hx_of e3)) (hx_trans e4 e4F), hpF, hk7, kF, ?_, hmg.1, ?_⟩
      · rw [List.append_assoc]
        refine Rs.app (rF.take a) (.cons ?_ (Rs.drop rF (a + 2)))
        refine ShAt.n (by rw [hide_ne nl3]; exact k3F) rx2 ?_
        have := ry2
        unfold ShR at this
        rw [hmg.2] at this
        exact this
      · have := congrArg List.length hsp
        rw [List.length_append, List.length_cons, List.length_cons] at this
        rw [List.length_append, List.length_cons]
        omega
    · have h1l : us.length = 1 := by
        have := of_decide_eq_false hb
        omega
      match us, h1l with
      | [u], _ =>
      obtain ⟨pu, x, rfl, hx, rx⟩ := r2.get (i := 0) rfl
      match xs, lus with
      | [x1], _ =>
      cases hx
      obtain ⟨g1, g2⟩ := hc
      refine s_ret (ev_op (ev_var rfl) ev_c (rv_ixL (sq_of (e3 _ _ h2)) rfl)) fun H4 e4 => q pu x.2 s' H4 (e2.trans (e3.trans e4)) (e4 _ _ (e3 _ _ hp2)) hk2 ?_ ?_
      · have := ShAt.ex rx (ex_hide (e3.trans e4))
        rw [g1] at this
        exact this
      · have g3 : 0 + x.2.leaves = n := g2
        omega

/-! ### what a shape makes of forms, texts, truths -/
def LstS (ps : List Str) (p : Addr) (H : Hp) : Prop := H p = some (.lst (ps.map V.str))
theorem upL : Up LstS := fun _ _ _ _ e h => e _ _ h
theorem oneL : One LstS := fun x p H a r ne => by
  show hide a H p = _
  rw [hide_ne ne]
  exact r
def Sh.pt (ds : List (List Str)) : Nat → Sh → Pt
  | i, .f => .f (ds.getD i [])
  | i, .n and l r => .n and (l.pt ds i) (r.pt ds (i + l.leaves))
theorem Sh.pt_leaves (ds : List (List Str)) : ∀ (sh : Sh) (i : Nat), (sh.pt ds i).leaves = sh.leaves
  | .f, _ => rfl
  | .n _ l r, i => by
    show (l.pt ds i).leaves + (r.pt ds (i + l.leaves)).leaves = l.leaves + r.leaves
    rw [l.pt_leaves, r.pt_leaves]
theorem Sh.pt_depth (ds : List (List Str)) : ∀ (sh : Sh) (i : Nat), (sh.pt ds i).depth = sh.depth
  | .f, _ => rfl
  | .n _ l r, i => by
    show max (l.pt ds i).depth (r.pt ds (i + l.leaves)).depth + 1 = max l.depth r.depth + 1
    rw [l.pt_depth, r.pt_depth]
theorem join_len5 {ps : List Str} (h : GoodP ps) : (Txt.join "" ps).length + 5 ≤ 40 := by
  have := join_len ps fun p hp => by have := h.1.len p hp; omega
  have := h.2.2
  omega
theorem Sh.text_len (ds : List (List Str)) (hg : ∀ ps ∈ ds, GoodP ps) : ∀ (sh : Sh) (i : Nat), i + sh.leaves ≤ ds.length → (sh.pt ds i).text.length + 5 ≤ 40 * sh.leaves
  | .f, i, h => by
    have h : i + 1 ≤ ds.length := h
    show (Txt.join "" (ds.getD i [])).length + 5 ≤ 40 * 1
    have hm : ds.getD i [] ∈ ds := by
      rw [List.getD_eq_getElem?_getD, List.getElem?_eq_getElem (by omega)]
      exact List.getElem_mem _
    have := join_len5 (hg _ hm)
    omega
  | .n and l r, i, h => by
    have h : i + (l.leaves + r.leaves) ≤ ds.length := h
    have h1 := l.text_len ds hg i (by omega)
    have h2 := r.text_len ds hg (i + l.leaves) (by omega)
    have e : ∀ a b : Str, (a ++ b).length = a.length + b.length := app_len
    show ((("(" : Str) ++ (l.pt ds i).text ++ (if and then " & " else " | ") ++ (r.pt ds (i + l.leaves)).text) ++ ")").length + 5 ≤ 40 * (l.leaves + r.leaves)
    rw [e, e, e, e]
    have c1 : ("(" : Str).length = 1 := by decide +kernel
    have c2 : (")" : Str).length = 1 := by decide +kernel
    have c3 : (if and = true then (" & " : Str) else " | ").length = 3 := by cases and <;> decide +kernel
    have c4 : (Str.ofString (if and = true then " & " else " | ")).length = 3 := by cases and <;> decide +kernel
    rw [c1, c2]
    simp only [c3, c4]
    omega
theorem str_assoc (a b c : Str) : (a ++ b) ++ c = a ++ (b ++ c) := cps_inj (by rw [app_list, app_list, app_list, app_list, List.append_assoc])
theorem shown_eq (and : Bool) (l r : Str) : ((((((("(" : Str) ++ l) ++ " ") ++ signB and) ++ " ") ++ r) ++ ")") = ((("(" : Str) ++ l ++ (if and then " & " else " | ") ++ r) ++ ")") := by
  have e : ((" " : Str) ++ (signB and ++ " ")) = (if and = true then (" & " : Str) else " | ") := by cases and <;> decide +kernel
  have e2 : Str.ofString (if and = true then " & " else " | ") = (if and = true then (" & " : Str) else " | ") := by cases and <;> rfl
  rw [str_assoc _ (signB and), str_assoc _ " ", e, e2]
/-! the forms, joined -/
section
variable {CF CB CE CN : Addr} {σ : L2.St} {G : Hp} {l r : Pt} {p q : Addr} {and : Bool} {Q : VK} {E : XK} {i j : Nat}
end
def spShown (d : Nat) : Sp := fun vs H Q _ => ∃ (a dl : Addr) (us : List V) (ds : List (List Str)) (i : Nat) (sh : Sh), vs = [.ref a, .ref dl] ∧ ShAt H i sh a ∧ H dl = some (.lst us) ∧ Rs LstS H us ds ∧ (∀ ps ∈ ds, GoodP ps) ∧ i + sh.leaves ≤ ds.length ∧ sh.depth ≤ d ∧ sh.leaves ≤ 4 ∧ RetV (.str (sh.pt ds i).text) H Q
theorem pt_get {ds : List (List Str)} {us : List V} {R : List Str → Addr → Hp → Prop} {H : Hp} {i : Nat} (r : Rs R H us ds) (h : i + 1 ≤ ds.length) : ∃ p, atI us (i : Int) = some (.ref p) ∧ R (ds.getD i []) p H := by
  have lu := r.len
  have hu : us[i]? = some us[i] := List.getElem?_eq_getElem (by omega)
  obtain ⟨p, x, hx, hd, rx⟩ := r.get hu
  refine ⟨p, ?_, ?_⟩
  · rw [← hx]
    exact at_nat hu
  · rw [List.getD_eq_getElem?_getD, hd]
    exact rx
theorem bl_get {ts : List Bool} {i : Nat} (h : i + 1 ≤ ts.length) : atI (ts.map V.bl) (i : Int) = some (.bl (ts.getD i false)) := by
  refine at_nat ?_
  rw [List.getElem?_map, List.getD_eq_getElem?_getD, List.getElem?_eq_getElem (by omega)]
  rfl
theorem sum_len {ps : List Str} (h : GoodP ps) : (ps.map (·.length)).sum ≤ 8 * ps.length := by
  have hl : ∀ p ∈ ps, p.length ≤ 8 := fun p hp => by have := h.1.len p hp; omega
  clear h
  induction ps with
  | nil => simp
  | cons p ps ih =>
    have := hl p List.mem_cons_self
    have := ih fun q hq => hl q (List.mem_cons_of_mem _ hq)
    rw [List.map_cons, List.sum_cons, List.length_cons]
    omega
/-- "".join(a list of a form's parts) -/
def tJoin0 (K : PySem.W.Frag) (te : TE) : TE := tM1 (fun x xs H Q => ∃ a p, ∃ ys : List Str, x = .str a ∧ xs = [.ref p] ∧ (SqL K H p (ys.map V.str) ∨ SqT K H p (ys.map V.str)) ∧ (ys.map (·.length)).sum + ys.length * a.length ≤ 16777216 ∧ Q (.str (Txt.join a ys)) H) (tC (.str "")) te
theorem ev_joinL {σ : L2.St} {G : Hp} {te : TE} {p : Addr} {ps : List Str} (h : Ev te σ G (.ref p)) (hp : SqL K G p (ps.map V.str)) (hg : GoodP ps) : Ev (tM1 (fun x xs H Q => ∃ a p, ∃ ys : List Str, x = .str a ∧ xs = [.ref p] ∧ (SqL K H p (ys.map V.str) ∨ SqT K H p (ys.map V.str)) ∧ (ys.map (·.length)).sum + ys.length * a.length ≤ 16777216 ∧ Q (.str (Txt.join a ys)) H) (tC (.str "")) te) σ G (.str (Txt.join "" ps)) := fun H1 e Q q => ⟨⟨_, rfl⟩, h H1 e _ fun H2 e2 => ⟨_, p, ps, rfl, rfl, .inl (ex_l (e.trans e2) hp), by
  have := sum_len hg
  have := hg.2.2
  have : ("" : Str).length = 0 := by decide +kernel
  rw [this]
  omega, q H2 e2⟩⟩
theorem signB_eq (and : Bool) : decide (signB and = "&") = and := by cases and <;> decide +kernel
theorem ok__law_shown__v0 {f : Addr} {fd : FuncData} (F : Fun K "_law_shown" "_law_shown" s__law_shown f fd) (T : Txt K mg a_OPEN_PARTS C_Both C_Either C_Form C_GlueError C_NoForm C_NoText)  : FnOk P w K mg base CX0 1 f fd ["shape", "drawn"] (spShown 0) := by
  refine F.ok sc__law_shown (fun vs H Q E h => ?_) (fun cdv A outer s0 H vs Q E hr h => ?_)
  · obtain ⟨a, fl, us, ds, i, sh, rfl, _⟩ := h
    rfl
  · obtain ⟨a, fl, us, ds, i, sh, rfl, hS, hf, hR, hg, hi, hd, h4, q⟩ := h
    refine ⟨_, (pss_cons (ps_if (pt_cmpR op_eq (pe_callB call_len_seq (by rfl) T.n_len PySem.boot_len (pa_cons (pv 0) pa_nil)) pe_int (nomark _))
      (pss_one (ps_ret (pe_join pe_str (pe_ix ix_list (pv 1) (pe_ix ix_list (pv 0) pe_int (fun _ _ => rfl)) (fun _ _ => rfl)))))
      pss_nil)
      (pss_one ps_never)), ?_⟩
    cases hS with
    | f ha =>
      obtain ⟨pf, hp, hF⟩ := pt_get hR hi
      have hm : ds.getD i [] ∈ ds := by
        have hi : i + 1 ≤ ds.length := hi
        rw [List.getD_eq_getElem?_getD, List.getElem?_eq_getElem (by omega)]
        exact List.getElem_mem _
      have hgi := hg _ hm
      refine q_when (b := decide ((([.int (i : Int)] : List V).length : Int) = 1)) (et_test (ev_op (ev_lenL (ev_var rfl) (sq_of ha)) ev_c rv_eqI)) (fun _ H1 e1 => ?_) (fun hb => by cases hb)
      refine s_ret (ev_joinL (ev_op (ev_var rfl) (ev_op (ev_var rfl) ev_c (rv_ixL (sq_of (e1 _ _ ha)) rfl)) (rv_ixL (sq_of (e1 _ _ hf)) hp)) (sq_of (e1 _ _ hF)) hgi) fun H2 e2 => q H2 (e1.trans e2)
    | @n _ and l r _ p q' ha hl hr' =>
      simp only [Sh.depth] at hd
      omega
theorem ok__law_shown__v1 {f : Addr} {fd : FuncData} (F : Fun K "_law_shown" "_law_shown" s__law_shown f fd) (T : Txt K mg a_OPEN_PARTS C_Both C_Either C_Form C_GlueError C_NoForm C_NoText) (D__law_shown__v0 : Df P w K mg base "_law_shown" ["shape", "drawn"] 1 (spShown 0)) : FnOk P w K mg base CX0 2 f fd ["shape", "drawn"] (spShown 1) := by
  refine F.ok sc__law_shown (fun vs H Q E h => ?_) (fun cdv A outer s0 H vs Q E hr h => ?_)
  · obtain ⟨a, fl, us, ds, i, sh, rfl, _⟩ := h
    rfl
  · obtain ⟨a, fl, us, ds, i, sh, rfl, hS, hf, hR, hg, hi, hd, h4, q⟩ := h
    refine ⟨_, (pss_cons (ps_if (pt_cmpR op_eq (pe_callB call_len_seq (by rfl) T.n_len PySem.boot_len (pa_cons (pv 0) pa_nil)) pe_int (nomark _))
      (pss_one (ps_ret (pe_join pe_str (pe_ix ix_list (pv 1) (pe_ix ix_list (pv 0) pe_int (fun _ _ => rfl)) (fun _ _ => rfl)))))
      pss_nil)
      (pss_one (ps_ret (pe_op op_add_str (pe_op op_add_str (pe_op op_add_str (pe_op op_add_str (pe_op op_add_str (pe_op op_add_str pe_str (pe_df D__law_shown__v0 (hr.mono (by decide)) (by rfl) (pa_cons (pe_ix ix_list (pv 0) pe_int (fun _ _ => rfl)) (pa_cons (pv 1) pa_nil)))) pe_str) (pe_ix ix_list (pv 0) pe_int (fun _ _ => rfl))) pe_str) (pe_df D__law_shown__v0 (hr.mono (by decide)) (by rfl) (pa_cons (pe_ix ix_list (pv 0) pe_int (fun _ _ => rfl)) (pa_cons (pv 1) pa_nil)))) pe_str)))), ?_⟩
    cases hS with
    | f ha =>
      obtain ⟨pf, hp, hF⟩ := pt_get hR hi
      have hm : ds.getD i [] ∈ ds := by
        have hi : i + 1 ≤ ds.length := hi
        rw [List.getD_eq_getElem?_getD, List.getElem?_eq_getElem (by omega)]
        exact List.getElem_mem _
      have hgi := hg _ hm
      refine q_when (b := decide ((([.int (i : Int)] : List V).length : Int) = 1)) (et_test (ev_op (ev_lenL (ev_var rfl) (sq_of ha)) ev_c rv_eqI)) (fun _ H1 e1 => ?_) (fun hb => by cases hb)
      refine s_ret (ev_joinL (ev_op (ev_var rfl) (ev_op (ev_var rfl) ev_c (rv_ixL (sq_of (e1 _ _ ha)) rfl)) (rv_ixL (sq_of (e1 _ _ hf)) hp)) (sq_of (e1 _ _ hF)) hgi) fun H2 e2 => q H2 (e1.trans e2)
    | @n _ and l r _ p q' ha hl hr' =>
      have hd' : max l.depth r.depth + 1 ≤ 1 := hd
      have h4' : l.leaves + r.leaves ≤ 4 := h4
      have hi' : i + (l.leaves + r.leaves) ≤ ds.length := hi
      have l1 := l.leaves_pos
      have l2 := r.leaves_pos
      have t1 := Sh.text_len ds hg l i (by omega)
      have t2 := Sh.text_len ds hg r (i + l.leaves) (by omega)
      have a1 : ∀ a b : Str, (a ++ b).length = a.length + b.length := app_len
      have k1 : ("(" : Str).length = 1 := by decide +kernel
      have k2 : (" " : Str).length = 1 := by decide +kernel
      have k3 : (signB and).length = 1 := by cases and <;> decide +kernel
      have k4 : (")" : Str).length = 1 := by decide +kernel
      refine q_when (b := decide ((([.str (signB and), .ref p, .ref q'] : List V).length : Int) = 1)) (et_test (ev_op (ev_lenL (ev_var rfl) (sq_of ha)) ev_c rv_eqI)) (fun hb => by cases hb) (fun _ H1 e1 => ?_)
      have ix : ∀ (n : Nat) (v : V), ([.str (signB and), .ref p, .ref q'] : List V)[n]? = some v → Ev (tOp (rIxL K) (tVar 0) (tC (.int (n : Int)))) [some (.ref a), some (.ref fl)] H1 v := fun n v hn => ev_op (ev_var rfl) ev_c (rv_ixL (sq_of (e1 _ _ ha)) (at_nat hn))
      refine s_ret (v := .str ((((((("(" : Str) ++ (l.pt ds i).text) ++ " ") ++ signB and) ++ " ") ++ (r.pt ds (i + l.leaves)).text) ++ ")")) (ev_op (ev_op (ev_op (ev_op (ev_op (ev_op ev_c (ev_call (ea_cons (ix 1 _ rfl) (ea_cons (ev_var rfl) ea_nil)) fun H2 e2 Q' q2 E' => ?_) (rv_cat ?_)) ev_c (rv_cat ?_)) (ix 0 _ rfl) (rv_cat ?_)) ev_c (rv_cat ?_)) (ev_call (ea_cons (ix 2 _ rfl) (ea_cons (ev_var rfl) ea_nil)) fun H2 e2 Q' q2 E' => ?_) (rv_cat ?_)) ev_c (rv_cat ?_)) fun H2 e2 => ?_
      · exact ⟨p, fl, us, ds, i, l, rfl, hl.ex (e1.trans e2), e2 _ _ (e1 _ _ hf), hR.ex upL (e1.trans e2), hg, by omega, by omega, by omega, q2⟩
      · omega
      · rw [a1]; omega
      · rw [a1, a1]; omega
      · rw [a1, a1, a1]; omega
      · exact ⟨q', fl, us, ds, i + l.leaves, r, rfl, hr'.ex (e1.trans e2), e2 _ _ (e1 _ _ hf), hR.ex upL (e1.trans e2), hg, by omega, by omega, by omega, q2⟩
      · rw [a1, a1, a1, a1]; omega
      · rw [a1, a1, a1, a1, a1]; omega
      · rw [shown_eq]
        exact q H2 (e1.trans e2)
theorem ok__law_shown__v2 {f : Addr} {fd : FuncData} (F : Fun K "_law_shown" "_law_shown" s__law_shown f fd) (T : Txt K mg a_OPEN_PARTS C_Both C_Either C_Form C_GlueError C_NoForm C_NoText) (D__law_shown__v1 : Df P w K mg base "_law_shown" ["shape", "drawn"] 2 (spShown 1)) : FnOk P w K mg base CX0 3 f fd ["shape", "drawn"] (spShown 2) := by
  refine F.ok sc__law_shown (fun vs H Q E h => ?_) (fun cdv A outer s0 H vs Q E hr h => ?_)
  · obtain ⟨a, fl, us, ds, i, sh, rfl, _⟩ := h
    rfl
  · obtain ⟨a, fl, us, ds, i, sh, rfl, hS, hf, hR, hg, hi, hd, h4, q⟩ := h
    refine ⟨_, (pss_cons (ps_if (pt_cmpR op_eq (pe_callB call_len_seq (by rfl) T.n_len PySem.boot_len (pa_cons (pv 0) pa_nil)) pe_int (nomark _))
      (pss_one (ps_ret (pe_join pe_str (pe_ix ix_list (pv 1) (pe_ix ix_list (pv 0) pe_int (fun _ _ => rfl)) (fun _ _ => rfl)))))
      pss_nil)
      (pss_one (ps_ret (pe_op op_add_str (pe_op op_add_str (pe_op op_add_str (pe_op op_add_str (pe_op op_add_str (pe_op op_add_str pe_str (pe_df D__law_shown__v1 (hr.mono (by decide)) (by rfl) (pa_cons (pe_ix ix_list (pv 0) pe_int (fun _ _ => rfl)) (pa_cons (pv 1) pa_nil)))) pe_str) (pe_ix ix_list (pv 0) pe_int (fun _ _ => rfl))) pe_str) (pe_df D__law_shown__v1 (hr.mono (by decide)) (by rfl) (pa_cons (pe_ix ix_list (pv 0) pe_int (fun _ _ => rfl)) (pa_cons (pv 1) pa_nil)))) pe_str)))), ?_⟩
    cases hS with
    | f ha =>
      obtain ⟨pf, hp, hF⟩ := pt_get hR hi
      have hm : ds.getD i [] ∈ ds := by
        have hi : i + 1 ≤ ds.length := hi
        rw [List.getD_eq_getElem?_getD, List.getElem?_eq_getElem (by omega)]
        exact List.getElem_mem _
      have hgi := hg _ hm
      refine q_when (b := decide ((([.int (i : Int)] : List V).length : Int) = 1)) (et_test (ev_op (ev_lenL (ev_var rfl) (sq_of ha)) ev_c rv_eqI)) (fun _ H1 e1 => ?_) (fun hb => by cases hb)
      refine s_ret (ev_joinL (ev_op (ev_var rfl) (ev_op (ev_var rfl) ev_c (rv_ixL (sq_of (e1 _ _ ha)) rfl)) (rv_ixL (sq_of (e1 _ _ hf)) hp)) (sq_of (e1 _ _ hF)) hgi) fun H2 e2 => q H2 (e1.trans e2)
    | @n _ and l r _ p q' ha hl hr' =>
      have hd' : max l.depth r.depth + 1 ≤ 2 := hd
      have h4' : l.leaves + r.leaves ≤ 4 := h4
      have hi' : i + (l.leaves + r.leaves) ≤ ds.length := hi
      have l1 := l.leaves_pos
      have l2 := r.leaves_pos
      have t1 := Sh.text_len ds hg l i (by omega)
      have t2 := Sh.text_len ds hg r (i + l.leaves) (by omega)
      have a1 : ∀ a b : Str, (a ++ b).length = a.length + b.length := app_len
      have k1 : ("(" : Str).length = 1 := by decide +kernel
      have k2 : (" " : Str).length = 1 := by decide +kernel
      have k3 : (signB and).length = 1 := by cases and <;> decide +kernel
      have k4 : (")" : Str).length = 1 := by decide +kernel
      refine q_when (b := decide ((([.str (signB and), .ref p, .ref q'] : List V).length : Int) = 1)) (et_test (ev_op (ev_lenL (ev_var rfl) (sq_of ha)) ev_c rv_eqI)) (fun hb => by cases hb) (fun _ H1 e1 => ?_)
      have ix : ∀ (n : Nat) (v : V), ([.str (signB and), .ref p, .ref q'] : List V)[n]? = some v → Ev (tOp (rIxL K) (tVar 0) (tC (.int (n : Int)))) [some (.ref a), some (.ref fl)] H1 v := fun n v hn => ev_op (ev_var rfl) ev_c (rv_ixL (sq_of (e1 _ _ ha)) (at_nat hn))
      refine s_ret (v := .str ((((((("(" : Str) ++ (l.pt ds i).text) ++ " ") ++ signB and) ++ " ") ++ (r.pt ds (i + l.leaves)).text) ++ ")")) (ev_op (ev_op (ev_op (ev_op (ev_op (ev_op ev_c (ev_call (ea_cons (ix 1 _ rfl) (ea_cons (ev_var rfl) ea_nil)) fun H2 e2 Q' q2 E' => ?_) (rv_cat ?_)) ev_c (rv_cat ?_)) (ix 0 _ rfl) (rv_cat ?_)) ev_c (rv_cat ?_)) (ev_call (ea_cons (ix 2 _ rfl) (ea_cons (ev_var rfl) ea_nil)) fun H2 e2 Q' q2 E' => ?_) (rv_cat ?_)) ev_c (rv_cat ?_)) fun H2 e2 => ?_
      · exact ⟨p, fl, us, ds, i, l, rfl, hl.ex (e1.trans e2), e2 _ _ (e1 _ _ hf), hR.ex upL (e1.trans e2), hg, by omega, by omega, by omega, q2⟩
      · omega
      · rw [a1]; omega
      · rw [a1, a1]; omega
      · rw [a1, a1, a1]; omega
      · exact ⟨q', fl, us, ds, i + l.leaves, r, rfl, hr'.ex (e1.trans e2), e2 _ _ (e1 _ _ hf), hR.ex upL (e1.trans e2), hg, by omega, by omega, by omega, q2⟩
      · rw [a1, a1, a1, a1]; omega
      · rw [a1, a1, a1, a1, a1]; omega
      · rw [shown_eq]
        exact q H2 (e1.trans e2)
theorem ok__law_shown__v3 {f : Addr} {fd : FuncData} (F : Fun K "_law_shown" "_law_shown" s__law_shown f fd) (T : Txt K mg a_OPEN_PARTS C_Both C_Either C_Form C_GlueError C_NoForm C_NoText) (D__law_shown__v2 : Df P w K mg base "_law_shown" ["shape", "drawn"] 3 (spShown 2)) : FnOk P w K mg base CX0 4 f fd ["shape", "drawn"] (spShown 3) := by
  refine F.ok sc__law_shown (fun vs H Q E h => ?_) (fun cdv A outer s0 H vs Q E hr h => ?_)
  · obtain ⟨a, fl, us, ds, i, sh, rfl, _⟩ := h
    rfl
  · obtain ⟨a, fl, us, ds, i, sh, rfl, hS, hf, hR, hg, hi, hd, h4, q⟩ := h
    refine ⟨_, (pss_cons (ps_if (pt_cmpR op_eq (pe_callB call_len_seq (by rfl) T.n_len PySem.boot_len (pa_cons (pv 0) pa_nil)) pe_int (nomark _))
      (pss_one (ps_ret (pe_join pe_str (pe_ix ix_list (pv 1) (pe_ix ix_list (pv 0) pe_int (fun _ _ => rfl)) (fun _ _ => rfl)))))
      pss_nil)
      (pss_one (ps_ret (pe_op op_add_str (pe_op op_add_str (pe_op op_add_str (pe_op op_add_str (pe_op op_add_str (pe_op op_add_str pe_str (pe_df D__law_shown__v2 (hr.mono (by decide)) (by rfl) (pa_cons (pe_ix ix_list (pv 0) pe_int (fun _ _ => rfl)) (pa_cons (pv 1) pa_nil)))) pe_str) (pe_ix ix_list (pv 0) pe_int (fun _ _ => rfl))) pe_str) (pe_df D__law_shown__v2 (hr.mono (by decide)) (by rfl) (pa_cons (pe_ix ix_list (pv 0) pe_int (fun _ _ => rfl)) (pa_cons (pv 1) pa_nil)))) pe_str)))), ?_⟩
    cases hS with
    | f ha =>
      obtain ⟨pf, hp, hF⟩ := pt_get hR hi
      have hm : ds.getD i [] ∈ ds := by
        have hi : i + 1 ≤ ds.length := hi
        rw [List.getD_eq_getElem?_getD, List.getElem?_eq_getElem (by omega)]
        exact List.getElem_mem _
      have hgi := hg _ hm
      refine q_when (b := decide ((([.int (i : Int)] : List V).length : Int) = 1)) (et_test (ev_op (ev_lenL (ev_var rfl) (sq_of ha)) ev_c rv_eqI)) (fun _ H1 e1 => ?_) (fun hb => by cases hb)
      refine s_ret (ev_joinL (ev_op (ev_var rfl) (ev_op (ev_var rfl) ev_c (rv_ixL (sq_of (e1 _ _ ha)) rfl)) (rv_ixL (sq_of (e1 _ _ hf)) hp)) (sq_of (e1 _ _ hF)) hgi) fun H2 e2 => q H2 (e1.trans e2)
    | @n _ and l r _ p q' ha hl hr' =>
      have hd' : max l.depth r.depth + 1 ≤ 3 := hd
      have h4' : l.leaves + r.leaves ≤ 4 := h4
      have hi' : i + (l.leaves + r.leaves) ≤ ds.length := hi
      have l1 := l.leaves_pos
      have l2 := r.leaves_pos
      have t1 := Sh.text_len ds hg l i (by omega)
      have t2 := Sh.text_len ds hg r (i + l.leaves) (by omega)
      have a1 : ∀ a b : Str, (a ++ b).length = a.length + b.length := app_len
      have k1 : ("(" : Str).length = 1 := by decide +kernel
      have k2 : (" " : Str).length = 1 := by decide +kernel
      have k3 : (signB and).length = 1 := by cases and <;> decide +kernel
      have k4 : (")" : Str).length = 1 := by decide +kernel
      refine q_when (b := decide ((([.str (signB and), .ref p, .ref q'] : List V).length : Int) = 1)) (et_test (ev_op (ev_lenL (ev_var rfl) (sq_of ha)) ev_c rv_eqI)) (fun hb => by cases hb) (fun _ H1 e1 => ?_)
      have ix : ∀ (n : Nat) (v : V), ([.str (signB and), .ref p, .ref q'] : List V)[n]? = some v → Ev (tOp (rIxL K) (tVar 0) (tC (.int (n : Int)))) [some (.ref a), some (.ref fl)] H1 v := fun n v hn => ev_op (ev_var rfl) ev_c (rv_ixL (sq_of (e1 _ _ ha)) (at_nat hn))
      refine s_ret (v := .str ((((((("(" : Str) ++ (l.pt ds i).text) ++ " ") ++ signB and) ++ " ") ++ (r.pt ds (i + l.leaves)).text) ++ ")")) (ev_op (ev_op (ev_op (ev_op (ev_op (ev_op ev_c (ev_call (ea_cons (ix 1 _ rfl) (ea_cons (ev_var rfl) ea_nil)) fun H2 e2 Q' q2 E' => ?_) (rv_cat ?_)) ev_c (rv_cat ?_)) (ix 0 _ rfl) (rv_cat ?_)) ev_c (rv_cat ?_)) (ev_call (ea_cons (ix 2 _ rfl) (ea_cons (ev_var rfl) ea_nil)) fun H2 e2 Q' q2 E' => ?_) (rv_cat ?_)) ev_c (rv_cat ?_)) fun H2 e2 => ?_
      · exact ⟨p, fl, us, ds, i, l, rfl, hl.ex (e1.trans e2), e2 _ _ (e1 _ _ hf), hR.ex upL (e1.trans e2), hg, by omega, by omega, by omega, q2⟩
      · omega
      · rw [a1]; omega
      · rw [a1, a1]; omega
      · rw [a1, a1, a1]; omega
      · exact ⟨q', fl, us, ds, i + l.leaves, r, rfl, hr'.ex (e1.trans e2), e2 _ _ (e1 _ _ hf), hR.ex upL (e1.trans e2), hg, by omega, by omega, by omega, q2⟩
      · rw [a1, a1, a1, a1]; omega
      · rw [a1, a1, a1, a1, a1]; omega
      · rw [shown_eq]
        exact q H2 (e1.trans e2)

/-! ### patterns joined by & and |, or refused -/
def RaiseN (CN : Addr) (H : Hp) (E : XK) : Prop := ∀ d H', Ex H H' → H' d = some (.xd [("at", .int 3)]) → E (.ref CN) (some d) H'
def Two (CF CB CE : Addr) (H : Hp) (l r : Pt) (p q : Addr) : Prop := PatAt CF CB CE H l p ∧ PatAt CF CB CE H r q ∧ l.depth ≤ 2 ∧ r.depth ≤ 2 ∧ l.leaves ≤ 3 ∧ r.leaves ≤ 3
theorem Two.ex {CF CB CE : Addr} {H H' : Hp} {l r : Pt} {p q : Addr} (h : Two CF CB CE H l r p q) (e : Ex H H') : Two CF CB CE H' l r p q := ⟨h.1.ex e, h.2.1.ex e, h.2.2⟩
def spRoom (CF CB CE CN : Addr) : Sp := fun vs H Q E => ∃ (p q : Addr) (l r : Pt), vs = [.ref p, .ref q] ∧ Two CF CB CE H l r p q ∧ (l.leaves + r.leaves ≤ 3 → RetV .non H Q) ∧ (3 < l.leaves + r.leaves → RaiseN CN H E)
def spPairI (C CF CB CE CN : Addr) : Sp := fun vs H Q E => ∃ (a dx p q : Addr) (l r : Pt), vs = [.ref a, .ref p, .ref q] ∧ H a = some (.ins C dx []) ∧ Two CF CB CE H l r p q ∧
  (l.leaves + r.leaves ≤ 3 → ∀ H', Ex (hide a H) H' → H' a = some (.ins C dx (pairF p q)) → Q .non H') ∧ (3 < l.leaves + r.leaves → RaiseN CN H E)
theorem okx__check_room {f : Addr} {fd : FuncData} (F : Fun K "_check_room" "_check_room" s__check_room f fd) (T : Txt K mg a_OPEN_PARTS C_Both C_Either C_Form C_GlueError C_NoForm C_NoText) (D_Form_forms : DfM P w K mg base C_Form "forms" ["self"] 1 (spForms C_Form C_Both C_Either none 0)) (D_Both_forms__v2 : DfM P w K mg base C_Both "forms" ["self"] 3 (spForms C_Form C_Both C_Either (some true) 2)) (D_Either_forms__v2 : DfM P w K mg base C_Either "forms" ["self"] 3 (spForms C_Form C_Both C_Either (some false) 2)) (D_NoForm___init__ : DfX P w K mg base "NoForm" C_NoForm ["self", "at"] 1 (spXI C_NoForm "at")) : FnOk P w K mg base (L2.CX P w) 4 f fd ["one", "other"] (spRoom C_Form C_Both C_Either C_NoForm) := by
  refine F.okX sc__check_room (fun vs H Q E h => ?_) (fun cdv A outer s0 H vs Q E hr h => ?_)
  · obtain ⟨p, q, l, r, rfl, _⟩ := h
    rfl
  · obtain ⟨p, q, l, r, rfl, ⟨hl, hq, d1, d2, n1, n2⟩, qok, qno⟩ := h
    refine ⟨_, (pss_one (ps_if (pt_cmpR op_gt (pe_op op_add (pe_callB call_len_seq (by rfl) T.n_len PySem.boot_len (pa_cons (pe_alt (pe_mth0 T.k_Form D_Form_forms (hr.mono (by decide)) (pv 0))
        (pe_alt (pe_mth0 T.k_Both D_Both_forms__v2 (hr.mono (by decide)) (pv 0))
        (pe_mth0 T.k_Either D_Either_forms__v2 (hr.mono (by decide)) (pv 0)))) pa_nil)) (pe_callB call_len_seq (by rfl) T.n_len PySem.boot_len (pa_cons (pe_alt (pe_mth0 T.k_Form D_Form_forms (hr.mono (by decide)) (pv 1))
        (pe_alt (pe_mth0 T.k_Both D_Both_forms__v2 (hr.mono (by decide)) (pv 1))
        (pe_mth0 T.k_Either D_Either_forms__v2 (hr.mono (by decide)) (pv 1)))) pa_nil))) (pe_cst T.c_MOST_FORMS (by rfl)) (nomark _))
      (pss_one (ps_raiseX D_NoForm___init__ (hr.mono (by decide)) (by rfl) rfl (takes_of rfl rfl rfl rfl) (pa_cons (pe_cst T.c_MOST_FORMS (by rfl)) pa_nil)))
      pss_nil)), ?_⟩
    have L1 := Pt.forms_len l
    have L2 := Pt.forms_len r
    refine s_when (b := decide ((3 : Int) < (l.forms.length : Int) + (r.forms.length : Int))) (et_test (ev_op (ev_op (ev_lenN (v_forms (ev_var rfl) hl d1 n1)) (ev_lenN (v_forms (ev_var rfl) hq d2 n2)) rv_add) ev_c rv_I0)) (fun hb H1 e1 => ?_) (fun hb H1 e1 => ?_)
    · have := of_decide_eq_true hb
      exact mkX (C := C_NoForm) (f := "at") ev_c fun d H2 hd e2 h2 => qno (by omega) d H2 (e1.trans e2) h2
    · have := of_decide_eq_false hb
      exact qok (by omega) H1 e1
theorem okx_Both___init__ {f : Addr} {fd : FuncData} (F : Fun K "__init__" "Both.__init__" s_Both___init__ f fd) (T : Txt K mg a_OPEN_PARTS C_Both C_Either C_Form C_GlueError C_NoForm C_NoText) (D__check_room : DfR P w K mg base "_check_room" ["one", "other"] 4 (spRoom C_Form C_Both C_Either C_NoForm)) : FnOk P w K mg base (L2.CX P w) 5 f fd ["self", "one", "other"] (spPairI C_Both C_Form C_Both C_Either C_NoForm) := by
  refine F.okX sc_Both___init__ (fun vs H Q E h => ?_) (fun cdv A outer s0 H vs Q E hr h => ?_)
  · obtain ⟨a, dx, p, q, l, r, rfl, _⟩ := h
    rfl
  · obtain ⟨a, dx, p, q, l, r, rfl, ha, h2, qok, qno⟩ := h
    refine ⟨_, (pss_cons (ps_expr (pe_dfR D__check_room (hr.mono (by decide)) (by rfl) (takes_of rfl rfl rfl rfl) (pa_cons (pv 1) (pa_cons (pv 2) pa_nil))))
      (pss_cons (ps_fld (pv 0) (pv 1) rfl)
      (pss_one (ps_fld (pv 0) (pv 2) rfl)))), ?_⟩
    refine ⟨_, rfl, _, rfl, p, q, l, r, rfl, h2, fun hn H1 e1 => ?_, qno⟩
    exact ⟨_, rfl, _, rfl, a, C_Both, dx, [], rfl, e1 _ _ ha, T.k_Both, T.a_Both__one, by decide, _, rfl, _, rfl, a, C_Both, dx, _, rfl, upd_same, T.k_Both, T.a_Both__other, by
      have := length_putF ("_one" : Str) (.ref p) []
      simp only [List.length_nil] at this
      omega, qok hn _ (fun b o hb => by
        obtain ⟨nb, hb⟩ := hide_some hb
        rw [upd_ne nb, upd_ne nb]
        exact e1 _ _ hb) upd_same⟩
theorem okx_Either___init__ {f : Addr} {fd : FuncData} (F : Fun K "__init__" "Either.__init__" s_Either___init__ f fd) (T : Txt K mg a_OPEN_PARTS C_Both C_Either C_Form C_GlueError C_NoForm C_NoText) (D__check_room : DfR P w K mg base "_check_room" ["one", "other"] 4 (spRoom C_Form C_Both C_Either C_NoForm)) : FnOk P w K mg base (L2.CX P w) 5 f fd ["self", "one", "other"] (spPairI C_Either C_Form C_Both C_Either C_NoForm) := by
  refine F.okX sc_Either___init__ (fun vs H Q E h => ?_) (fun cdv A outer s0 H vs Q E hr h => ?_)
  · obtain ⟨a, dx, p, q, l, r, rfl, _⟩ := h
    rfl
  · obtain ⟨a, dx, p, q, l, r, rfl, ha, h2, qok, qno⟩ := h
    refine ⟨_, (pss_cons (ps_expr (pe_dfR D__check_room (hr.mono (by decide)) (by rfl) (takes_of rfl rfl rfl rfl) (pa_cons (pv 1) (pa_cons (pv 2) pa_nil))))
      (pss_cons (ps_fld (pv 0) (pv 1) rfl)
      (pss_one (ps_fld (pv 0) (pv 2) rfl)))), ?_⟩
    refine ⟨_, rfl, _, rfl, p, q, l, r, rfl, h2, fun hn H1 e1 => ?_, qno⟩
    exact ⟨_, rfl, _, rfl, a, C_Either, dx, [], rfl, e1 _ _ ha, T.k_Either, T.a_Either__one, by decide, _, rfl, _, rfl, a, C_Either, dx, _, rfl, upd_same, T.k_Either, T.a_Either__other, by
      have := length_putF ("_one" : Str) (.ref p) []
      simp only [List.length_nil] at this
      omega, qok hn _ (fun b o hb => by
        obtain ⟨nb, hb⟩ := hide_some hb
        rw [upd_ne nb, upd_ne nb]
        exact e1 _ _ hb) upd_same⟩
/-! compared by their texts -/

theorem while_iff {α : Type} (p : α → Bool) : ∀ (l : List α) (j : Nat), j ≤ (l.takeWhile p).length → (j < (l.takeWhile p).length ↔ ∃ x, l[j]? = some x ∧ p x = true)
  | [], j, _ => by simp
  | x :: l, 0, _ => by
    by_cases h : p x = true
    · simp [List.takeWhile_cons, h]
    · simp [List.takeWhile_cons, h]
  | x :: l, j + 1, h => by
    by_cases hx : p x = true
    · have e : (x :: l).takeWhile p = x :: l.takeWhile p := by simp [List.takeWhile_cons, hx]
      rw [e, List.length_cons] at h ⊢
      have := while_iff p l j (by omega)
      rw [show (x :: l)[j + 1]? = l[j]? from rfl]
      constructor
      · intro q
        exact this.mp (by omega)
      · intro q
        have := this.mpr q
        omega
    · have e : (x :: l).takeWhile p = [] := by simp [List.takeWhile_cons, hx]
      rw [e] at h
      simp at h

/-! ### parts of a text: _part_at, _parts_of -/
def tx (l : List Nat) : Str := ⟨l.toArray⟩
theorem tx_list (A : List Nat) : (tx A).cps.toList = A := by
  show A.toArray.toList = A
  simp
theorem tx_of (z : Str) : tx z.cps.toList = z := cps_inj (tx_list _)
theorem tx_eq {A : List Nat} {z : Str} : tx A = z ↔ A = z.cps.toList := ⟨fun h => by rw [← h, tx_list], fun h => by rw [h, tx_of]⟩
def isSg (c : Nat) : Bool := decide (c ∈ signsS.cps.toList)
def opens : List Str := [digP, wordP, anyP]
def isAt (l : List Nat) (p : Str) : Bool := decide (tx (l.take p.length) = p)
def partS (l : List Nat) : Str := if isAt l digP = true then digP else if isAt l wordP = true then wordP else if isAt l anyP = true then anyP else tx (l.takeWhile isSg)
theorem digC : digP.cps.toList = [60, 100, 105, 103, 105, 116, 115, 62] := by decide +kernel
theorem wordC : wordP.cps.toList = [60, 119, 111, 114, 100, 62] := by decide +kernel
theorem anyC : anyP.cps.toList = [60, 97, 110, 121, 62] := by decide +kernel
theorem digL : digP.length = 8 := by decide +kernel
theorem wordL : wordP.length = 6 := by decide +kernel
theorem anyL : anyP.length = 5 := by decide +kernel
theorem sg60 : isSg 60 = false := by decide +kernel
theorem sg40 : isSg 40 = false := by decide +kernel
theorem isAt_dig (R : List Nat) : isAt (digP.cps.toList ++ R) digP = true := by
  unfold isAt
  rw [digL]
  exact decide_eq_true (tx_eq.mpr (by rw [digC]; rfl))
theorem isAt_word (R : List Nat) : isAt (wordP.cps.toList ++ R) wordP = true ∧ isAt (wordP.cps.toList ++ R) digP = false := by
  unfold isAt
  rw [digL, wordL]
  refine ⟨decide_eq_true (tx_eq.mpr (by rw [wordC]; rfl)), decide_eq_false fun h => ?_⟩
  have h := tx_eq.mp h
  rw [wordC, digC] at h
  injection h with _ h
  injection h with h _
  omega
theorem isAt_any (R : List Nat) : isAt (anyP.cps.toList ++ R) anyP = true ∧ isAt (anyP.cps.toList ++ R) digP = false ∧ isAt (anyP.cps.toList ++ R) wordP = false := by
  unfold isAt
  rw [digL, wordL, anyL]
  refine ⟨decide_eq_true (tx_eq.mpr (by rw [anyC]; rfl)), decide_eq_false fun h => ?_, decide_eq_false fun h => ?_⟩
  · have h := tx_eq.mp h
    rw [anyC, digC] at h
    injection h with _ h
    injection h with h _
    omega
  · have h := tx_eq.mp h
    rw [anyC, wordC] at h
    injection h with _ h
    injection h with h _
    omega
theorem isAt_no {c : Nat} {l : List Nat} (hc : c ≠ 60) : isAt (c :: l) digP = false ∧ isAt (c :: l) wordP = false ∧ isAt (c :: l) anyP = false := by
  unfold isAt
  rw [digL, wordL, anyL]
  refine ⟨decide_eq_false fun h => ?_, decide_eq_false fun h => ?_, decide_eq_false fun h => ?_⟩
  all_goals
    have h := tx_eq.mp h
    first | rw [digC] at h | rw [wordC] at h | rw [anyC] at h
    injection h with h _
    exact hc h
theorem partS_no {c : Nat} {l : List Nat} (hc : c ≠ 60) : partS (c :: l) = tx ((c :: l).takeWhile isSg) := by
  obtain ⟨h1, h2, h3⟩ := isAt_no (l := l) hc
  unfold partS
  rw [h1, h2, h3]
  rfl
theorem partS_open {p : Str} (h : isOpen p = true) (R : List Nat) : partS (p.cps.toList ++ R) = p := by
  rw [isOpen_eq] at h
  unfold partS
  have h := of_decide_eq_true h
  simp only [List.mem_cons, List.not_mem_nil, or_false] at h
  rcases h with h | h | h
  · subst h
    rw [if_pos (isAt_dig R)]
  · subst h
    obtain ⟨h1, h2⟩ := isAt_word R
    rw [h2, if_neg (by decide), if_pos h1]
  · subst h
    obtain ⟨h1, h2, h3⟩ := isAt_any R
    rw [h2, h3, if_neg (by decide), if_neg (by decide), if_pos h1]
/-- what stands behind a fixed text: nothing, or one of the three others -/
theorem open_head {p : Str} (h : isOpen p = true) (R : List Nat) : (p.cps.toList ++ R).takeWhile isSg = [] := by
  rw [isOpen_eq] at h
  have h := of_decide_eq_true h
  simp only [List.mem_cons, List.not_mem_nil, or_false] at h
  rcases h with h | h | h <;> subst h
  · rw [digC]; show List.takeWhile isSg (60 :: _) = []; rw [List.takeWhile_cons, sg60]; rfl
  · rw [wordC]; show List.takeWhile isSg (60 :: _) = []; rw [List.takeWhile_cons, sg60]; rfl
  · rw [anyC]; show List.takeWhile isSg (60 :: _) = []; rw [List.takeWhile_cons, sg60]; rfl
theorem partS_fixed {p : Str} (h : fixedP p) {R : List Nat} (hR : R.takeWhile isSg = []) : partS (p.cps.toList ++ R) = p := by
  obtain ⟨hl, h1, _⟩ := h
  have ha : ∀ c ∈ p.cps.toList, isSg c = true := fun c hc => decide_eq_true (hl c hc)
  have tw : (p.cps.toList ++ R).takeWhile isSg = p.cps.toList := by
    rw [List.takeWhile_append_of_pos ha, hR, List.append_nil]
  rw [str_len] at h1
  cases hp : p.cps.toList with
  | nil =>
    rw [hp] at h1
    simp at h1
  | cons c cs =>
    have hc : c ≠ 60 := fun w' => by
      have := ha c (by rw [hp]; exact List.mem_cons_self)
      rw [w', sg60] at this
      cases this
    rw [hp] at tw
    show partS (c :: (cs ++ R)) = p
    rw [partS_no hc]
    have tw : (c :: (cs ++ R)).takeWhile isSg = c :: cs := tw
    rw [tw]
    exact tx_eq.mpr hp.symm
def codes (ps : List Str) : List Nat := ps.flatMap fun p => p.cps.toList
theorem partS_head {ps : List Str} {i : Nat} {p : Str} (h : GoodP ps) (hi : ps[i]? = some p) : partS (codes (ps.drop i)) = p := by
  have lt := (List.getElem?_eq_some_iff.mp hi).1
  have e : ps.drop i = p :: ps.drop (i + 1) := by
    rw [List.drop_eq_getElem_cons lt]
    congr 1
    rw [List.getElem?_eq_getElem lt] at hi
    exact Option.some.inj hi
  rw [e]
  show partS (p.cps.toList ++ codes (ps.drop (i + 1))) = p
  rcases h.1.each p (List.mem_of_getElem? hi) with o | f
  · exact partS_open o _
  · by_cases o : isOpen p = true
    · exact partS_open o _
    · refine partS_fixed f ?_
      cases hd : ps.drop (i + 1) with
      | nil => rfl
      | cons q qs =>
        have hq : ps[i + 1]? = some q := by
          have : (ps.drop (i + 1))[0]? = some q := by rw [hd]; rfl
          rw [List.getElem?_drop] at this
          exact this
        have := (h.1.adj i p q hi hq).resolve_left o
        exact open_head this _
def spPartAt : Sp := fun vs H Q _ => ∃ (z : Str) (a : Nat), vs = [.str z, .int (a : Int)] ∧ a ≤ z.length ∧ z.length ≤ 1000 ∧ RetV (.str (partS (z.cps.toList.drop a))) H Q
theorem ok__part_at {f : Addr} {fd : FuncData} (F : Fun K "_part_at" "_part_at" s__part_at f fd) (T : Txt K mg a_OPEN_PARTS C_Both C_Either C_Form C_GlueError C_NoForm C_NoText) : FnOk P w K mg base CX0 1 f fd ["text", "at"] spPartAt := by
  refine F.ok sc__part_at (fun vs H Q E h => ?_) (fun cdv A outer s0 H vs Q E hr h => ?_)
  · obtain ⟨z, a, rfl, _⟩ := h
    rfl
  · obtain ⟨z, a, rfl, ha, hz, q⟩ := h
    refine ⟨_, (pss_cons (ps_for PassesOwn.never rfl (pi_tup (pe_cst T.c_OPEN_PARTS (by rfl))) (pg_name (i := 2) sc__part_at.nd rfl (Or.inl rfl))
      (pss_one (ps_if (pt_cmpR op_eq (pe_slice sl_str (pv 0) (po_some (pv 1)) (po_some (pe_op op_add (pv 1) (pe_callB call_len_str (by rfl) T.n_len PySem.boot_len (pa_cons (pv 2) pa_nil))))) (pv 2) (nomark _))
      (pss_one (ps_ret (pv 2)))
      pss_nil)))
      (pss_cons (ps_set (i := 3) sc__part_at.nd rfl (Or.inl rfl) (pv 1))
      (pss_cons (ps_while PassesOwn.never (PW.pt (pw_and (pt_cmpR op_lt (pv 3) (pe_callB call_len_str (by rfl) T.n_len PySem.boot_len (pa_cons (pv 0) pa_nil)) (nomark _)) (pw_and1 (pt_cmpR op_in_sign (pe_ix ix_str (pv 0) (pv 3) (fun _ _ => rfl)) (pe_cst T.c_SIGNS (by rfl)) (by rfl)))))
      (pss_one (ps_aug (i := 3) sc__part_at.nd rfl (Or.inl rfl) pe_int ip_add)))
      (pss_one (ps_ret (pe_slice sl_str (pv 0) (po_some (pv 1)) (po_some (pv 3)))))))), ?_⟩
    have zl := str_len z
    generalize hL : z.cps.toList.drop a = L at q
    have lenL : L.length = z.length - a := by rw [← hL, List.length_drop, ← zl]
    have cutE : ∀ {n : Nat}, cutS z (some (a : Int)) (some ((a + n : Nat) : Int)) = tx (L.take n) := fun {n} => by
      rw [cut_in, hL, show a + n - a = n by omega]
      rfl
    have body : ∀ (p : Str) (H1 : Hp) (y : Option V), p.length ≤ 100 → EvT (tTest (tOp rEq (tSl rSlS (tVar 0) (tPart (tVar 1)) (tPart (tOp (rI0 fun i j => .int (i + j)) (tVar 1) (tCB (fun xs H Q => ∃ z, xs = [.str z] ∧ z.length ≤ sizeLine ∧ Q (.int z.length) H) (tCons (tVar 2) tNil))))) (tVar 2))) [some (.str z), some (.int (a : Int)), some (.str p), y] H1 (isAt L p) := fun p H1 y hp => by
      have e : ((a + p.length : Nat) : Int) = (a : Int) + (p.length : Int) := by omega
      have := ev_slS (te := tVar 0) (tl := tPart (tVar 1)) (th := tPart (tOp (rI0 fun i j => .int (i + j)) (tVar 1) (tCB (fun xs H Q => ∃ z, xs = [.str z] ∧ z.length ≤ sizeLine ∧ Q (.int z.length) H) (tCons (tVar 2) tNil)))) (σ := [some (.str z), some (.int (a : Int)), some (.str p), y]) (H := H1) (ev_var rfl) (eo_some (ev_var rfl)) (eo_some (ev_op (ev_var rfl) (ev_lenS (ev_var rfl) (by omega)) rv_add)) (zt := z) (by omega)
      rw [← e, cutE] at this
      exact et_test (ev_op this (ev_var rfl) rv_eqS)
    refine q_forT (xs := [V.str digP, V.str wordP, V.str anyP]) ev_c T.o_OPEN_PARTS.at_ (fun i σ' H' => ∃ y2 : Option V, σ' = [some (.str z), some (.int (a : Int)), y2, none] ∧ Ex H H' ∧ (0 < i → isAt L digP = false) ∧ (1 < i → isAt L wordP = false) ∧ (2 < i → isAt L anyP = false)) (fun H1 e1 => ⟨_, rfl, e1, fun h => by omega, fun h => by omega, fun h => by omega⟩) (fun i σ' H' _ _ => T.o_OPEN_PARTS.at_) ?_ ?_
    · rintro i x σ' H1 hx ⟨y2, rfl, e1, h0, h1, h2⟩
      match i, hx with
      | 0, hx =>
        cases hx
        refine s_when (body digP H1 _ (by decide +kernel)) (fun hb H2 e2 => ?_) (fun hb H2 e2 => ⟨_, rfl, e1.trans e2, fun _ => hb, fun h => by omega, fun h => by omega⟩)
        refine s_ret (ev_var rfl) fun H3 e3 => ?_
        have := q H3 ((e1.trans e2).trans e3)
        unfold partS at this
        rw [if_pos hb] at this
        exact this
      | 1, hx =>
        cases hx
        refine s_when (body wordP H1 _ (by decide +kernel)) (fun hb H2 e2 => ?_) (fun hb H2 e2 => ⟨_, rfl, e1.trans e2, fun _ => h0 (by omega), fun _ => hb, fun h => by omega⟩)
        refine s_ret (ev_var rfl) fun H3 e3 => ?_
        have := q H3 ((e1.trans e2).trans e3)
        unfold partS at this
        rw [h0 (by omega), if_neg (by decide), if_pos hb] at this
        exact this
      | 2, hx =>
        cases hx
        refine s_when (body anyP H1 _ (by decide +kernel)) (fun hb H2 e2 => ?_) (fun hb H2 e2 => ⟨_, rfl, e1.trans e2, fun _ => h0 (by omega), fun _ => h1 (by omega), fun _ => hb⟩)
        refine s_ret (ev_var rfl) fun H3 e3 => ?_
        have := q H3 ((e1.trans e2).trans e3)
        unfold partS at this
        rw [h0 (by omega), h1 (by omega), if_neg (by decide), if_neg (by decide), if_pos hb] at this
        exact this
      | n + 3, hx => cases hx
    · rintro σ' H1 ⟨y2, rfl, e1, h0, h1, h2⟩
      have hps : partS L = tx (L.takeWhile isSg) := by
        unfold partS
        rw [h0 (by decide), h1 (by decide), h2 (by decide)]
        rfl
      rw [hps] at q
      have hr : (L.takeWhile isSg).length ≤ L.length := (List.takeWhile_prefix isSg).length_le
      refine q_asg (ev_var rfl) fun H2 e2 => ?_
      refine q_while (fun m σ' H' => ∃ e : Nat, σ' = [some (.str z), some (.int (a : Int)), y2, some (.int (e : Int))] ∧ Ex H H' ∧ a ≤ e ∧ e ≤ a + (L.takeWhile isSg).length ∧ m = a + (L.takeWhile isSg).length - e) _ ⟨a, rfl, e1.trans e2, Nat.le_refl _, by omega, rfl⟩ ?_
      rintro m σ' H3 ⟨e, rfl, e3, g1, g2, rfl⟩
      have hw := while_iff isSg L (e - a) (by omega)
      rw [← hL, List.getElem?_drop, show a + (e - a) = e by omega, hL] at hw
      have ix : e < z.length → z.cps.toList[e]? = some (z.cps.toList.getD e 0) ∧ atI z.cps.toList (e : Int) = some (z.cps.toList.getD e 0) := fun he => by
        have he2 : e < z.cps.toList.length := by rw [← str_len]; exact he
        have h1 : z.cps.toList[e]? = some (z.cps.toList.getD e 0) := by
          rw [List.getElem?_eq_getElem he2, List.getD_eq_getElem?_getD, List.getElem?_eq_getElem he2]
          rfl
        refine ⟨h1, ?_⟩
        unfold atI ixN
        rw [if_pos (by omega), if_pos (by omega)]
        exact h1
      refine ⟨decide (e < z.length) && isSg (z.cps.toList.getD e 0), et_and (et_test (ev_is (ev_op (ev_var rfl) (ev_lenS (ev_var rfl) (by omega)) rv_I0) (congrArg V.bl lt_len))) fun hd => et_test (ev_op (ev_op (ev_var rfl) (ev_var rfl) (rv_ixS (by omega) (ix (of_decide_eq_true hd)).2)) ev_c rv_sgn), fun hd H4 e4 => ?_, fun hd H4 e4 => ?_⟩
      · obtain ⟨d1, d2⟩ := Bool.and_eq_true _ _ ▸ hd
        have d3 := of_decide_eq_true d1
        have hlt : e - a < (L.takeWhile isSg).length := hw.mpr ⟨_, (ix d3).1, d2⟩
        refine ⟨fun σ2 H7 => σ2 = [some (.str z), some (.int (a : Int)), y2, some (.int ((e + 1 : Nat) : Int))] ∧ Ex H H7, fun σ2 H7 ⟨w1, w2⟩ => ⟨_, by omega, e + 1, w1, w2, by omega, by omega, rfl⟩, ?_⟩
        exact s_aug rfl ev_c fun H5 e5 => ⟨rfl, (e3.trans e4).trans e5⟩
      · have he : e = a + (L.takeWhile isSg).length := by
          by_cases hlt : e - a < (L.takeWhile isSg).length
          · obtain ⟨x, hx, hp⟩ := hw.mp hlt
            have hez : e < z.length := by
              have := (List.getElem?_eq_some_iff.mp hx).1
              rw [← str_len] at this
              exact this
            rw [(ix hez).1] at hx
            cases hx
            rw [decide_eq_true hez, hp] at hd
            cases hd
          · omega
        subst he
        refine s_ret (ev_slS (zt := z) (ev_var rfl) (eo_some (ev_var rfl)) (eo_some (ev_var rfl)) (by omega)) fun H5 e5 => ?_
        rw [cutE, ← List.prefix_iff_eq_take.mp (List.takeWhile_prefix isSg)]
        exact q H5 ((e3.trans e4).trans e5)

/-! ### _parts_of -/
theorem codes_join (ps : List Str) : (Txt.join "" ps).cps.toList = codes ps := join_list ps
theorem codes_len : ∀ {ps : List Str}, (∀ p ∈ ps, p.length ≤ 8) → (codes ps).length ≤ 8 * ps.length
  | [], _ => Nat.zero_le _
  | p :: ps, h => by
    have h1 := h p List.mem_cons_self
    have h2 := codes_len (ps := ps) fun q hq => h q (List.mem_cons_of_mem _ hq)
    show (p.cps.toList ++ codes ps).length ≤ 8 * (ps.length + 1)
    rw [str_len] at h1
    rw [List.length_append]
    omega
theorem codes_split (ps : List Str) (i : Nat) : codes ps = codes (ps.take i) ++ codes (ps.drop i) := by
  unfold codes
  rw [← List.flatMap_append, List.take_append_drop]
/-! ### _middle -/
def dep (l : List Nat) : Int := (l.count 40 : Int) - (l.count 41 : Int)
theorem dep_app (a b : List Nat) : dep (a ++ b) = dep a + dep b := by
  unfold dep
  rw [List.count_append, List.count_append]
  omega
/-- nothing to stop at within -/
structure Bal (L : List Nat) : Prop where
  zero : dep L = 0
  pos : ∀ i, 0 ≤ dep (L.take i)
  in_ : ∀ i c, L[i]? = some c → (c = 38 ∨ c = 124) → dep (L.take i) ≠ 0
def signC (and : Bool) : Nat := if and = true then 38 else 124
theorem one_eq {c d : Nat} : ((⟨#[c]⟩ : Str) = ⟨#[d]⟩) ↔ c = d := ⟨fun h => by
  have := congrArg (fun s : Str => s.cps.toList) h
  simpa using this, fun h => by rw [h]⟩
theorem sLp : ("(" : Str) = ⟨#[40]⟩ := by decide +kernel
theorem sRp : (")" : Str) = ⟨#[41]⟩ := by decide +kernel
theorem sAO : (("&|" : Str).cps.toList) = [38, 124] := by decide +kernel

/-! ### the texts of patterns -/
def PtG : Pt → Prop
  | .f ps => GoodP ps
  | .n _ l r => PtG l ∧ PtG r
def quiet (c : Nat) : Prop := c ≠ 40 ∧ c ≠ 41 ∧ c ≠ 38 ∧ c ≠ 124
theorem quiet_signs : ∀ c ∈ signsS.cps.toList, quiet c := by unfold quiet; decide +kernel
theorem quiet_open {p : Str} (h : isOpen p = true) : ∀ c ∈ p.cps.toList, quiet c := by
  rw [isOpen_eq] at h
  have h := of_decide_eq_true h
  simp only [List.mem_cons, List.not_mem_nil, or_false] at h
  rcases h with h | h | h <;> subst h <;> unfold quiet
  · rw [digC]; decide
  · rw [wordC]; decide
  · rw [anyC]; decide
theorem quiet_codes {ps : List Str} (h : Parts ps) : ∀ c ∈ codes ps, quiet c := fun c hc => by
  obtain ⟨p, hp, hcp⟩ := List.mem_flatMap.mp hc
  rcases h.each p hp with o | f
  · exact quiet_open o c hcp
  · exact quiet_signs c (f.1 c hcp)
theorem dep_quiet {l : List Nat} (h : ∀ c ∈ l, quiet c) : dep l = 0 := by
  unfold dep
  rw [List.count_eq_zero.mpr fun w' => (h 40 w').1 rfl, List.count_eq_zero.mpr fun w' => (h 41 w').2.1 rfl]
  rfl
theorem bal_quiet {l : List Nat} (h : ∀ c ∈ l, quiet c) : Bal l := by
  have ht : ∀ i, dep (l.take i) = 0 := fun i => dep_quiet fun c hc => h c (List.mem_of_mem_take hc)
  refine ⟨dep_quiet h, fun i => by rw [ht]; exact Int.le_refl _, fun i c hc hcc => ?_⟩
  have := h c (List.mem_of_getElem? hc)
  rcases hcc with w' | w'
  · exact absurd w' this.2.2.1
  · exact absurd w' this.2.2.2
theorem pos_app {a b : List Nat} (h1 : ∀ i, 0 ≤ dep (a.take i)) (h2 : ∀ i, 0 ≤ dep (b.take i)) : ∀ i, 0 ≤ dep ((a ++ b).take i) := fun i => by
  rw [List.take_append, dep_app]
  have := h1 i
  have := h2 (i - a.length)
  omega
theorem dep_cons (l : List Nat) : dep (40 :: l) = 1 + dep l := by
  show dep ([40] ++ l) = _
  rw [dep_app]
  rfl
theorem bal_wrap {M : List Nat} (h0 : dep M = 0) (hp : ∀ i, 0 ≤ dep (M.take i)) : Bal (40 :: (M ++ [41])) := by
  have d41 : ∀ k, -1 ≤ dep (([41] : List Nat).take k) := fun k => by
    match k with
    | 0 => decide
    | k + 1 => rw [List.take_succ_cons, List.take_nil]; decide
  refine ⟨?_, fun i => ?_, fun i c hc hcc => ?_⟩
  · rw [dep_cons, dep_app, h0]
    decide
  · match i with
    | 0 =>
      show (0 : Int) ≤ dep []
      decide
    | i + 1 =>
      rw [List.take_succ_cons, dep_cons, List.take_append, dep_app]
      have := hp i
      have := d41 (i - M.length)
      omega
  · match i with
    | 0 =>
      have : 40 = c := Option.some.inj hc
      omega
    | i + 1 =>
      rw [List.take_succ_cons, dep_cons]
      have hc : (M ++ [41])[i]? = some c := hc
      rcases Nat.lt_or_ge i M.length with hl | hl
      · rw [List.take_append_of_le_length (by omega)]
        have := hp i
        omega
      · rw [List.getElem?_append_right hl] at hc
        have hz : i - M.length = 0 := by
          rcases Nat.eq_zero_or_pos (i - M.length) with h | h
          · exact h
          · rw [List.getElem?_eq_none_iff.mpr (by simp; omega)] at hc
            cases hc
        rw [hz] at hc
        have : 41 = c := Option.some.inj hc
        omega
def tcodes (t : Pt) : List Nat := t.text.cps.toList
def inner (and : Bool) (l r : Pt) : List Nat := tcodes l ++ ([32, signC and, 32] ++ tcodes r)
theorem tcodes_n (and : Bool) (l r : Pt) : tcodes (.n and l r) = 40 :: (inner and l r ++ [41]) := by
  have c1 : ("(" : Str).cps.toList = [40] := by decide +kernel
  have c2 : (")" : Str).cps.toList = [41] := by decide +kernel
  have c3 : (Str.ofString (if and = true then " & " else " | ")).cps.toList = [32, signC and, 32] := by cases and <;> decide +kernel
  have c4 : (if and = true then (" & " : Str) else " | ").cps.toList = [32, signC and, 32] := by cases and <;> decide +kernel
  show ((("(" : Str) ++ l.text ++ (if and then " & " else " | ") ++ r.text) ++ ")").cps.toList = _
  rw [app_list, app_list, app_list, app_list, c1, c2]
  simp only [c3, c4]
  show ((([40] ++ tcodes l) ++ [32, signC and, 32]) ++ tcodes r) ++ [41] = _
  unfold inner
  simp
theorem inner_dep {and : Bool} {l r : Pt} (hl : Bal (tcodes l)) (hr : Bal (tcodes r)) : dep (inner and l r) = 0 ∧ ∀ i, 0 ≤ dep ((inner and l r).take i) := by
  have qs : ∀ c ∈ [32, signC and, 32], quiet c ∨ c = signC and := fun c hc => by
    simp only [List.mem_cons, List.not_mem_nil, or_false] at hc
    rcases hc with h | h | h
    · exact .inl (by rw [h]; unfold quiet; decide)
    · exact .inr h
    · exact .inl (by rw [h]; unfold quiet; decide)
  have ds : ∀ m : List Nat, (∀ c ∈ m, c ∈ [32, signC and, 32]) → dep m = 0 := fun m hm => by
    unfold dep
    have n0 : (40 : Nat) ∉ m := fun w' => by
      rcases qs 40 (hm 40 w') with h | h
      · exact h.1 rfl
      · unfold signC at h
        cases and <;> exact absurd h (by decide)
    have n1 : (41 : Nat) ∉ m := fun w' => by
      rcases qs 41 (hm 41 w') with h | h
      · exact h.2.1 rfl
      · unfold signC at h
        cases and <;> exact absurd h (by decide)
    rw [List.count_eq_zero.mpr n0, List.count_eq_zero.mpr n1]
    rfl
  refine ⟨?_, pos_app hl.pos (pos_app (fun i => by rw [ds _ fun c hc => List.mem_of_mem_take hc]; exact Int.le_refl _) hr.pos)⟩
  unfold inner
  rw [dep_app, dep_app, hl.zero, hr.zero, ds _ fun c hc => hc]
  rfl
theorem bal_text : ∀ {t : Pt}, PtG t → Bal (tcodes t)
  | .f ps, h => by
    have e : tcodes (.f ps) = codes ps := codes_join ps
    rw [e]
    exact bal_quiet (quiet_codes h.1)
  | .n and l r, h => by
    rw [tcodes_n]
    obtain ⟨h0, hp⟩ := inner_dep (and := and) (bal_text h.1) (bal_text h.2)
    exact bal_wrap h0 hp
theorem ptg_len : ∀ {t : Pt}, PtG t → t.text.length + 5 ≤ 40 * t.leaves
  | .f ps, h => by
    show (Txt.join "" ps).length + 5 ≤ 40 * 1
    have := join_len5 h
    omega
  | .n and l r, h => by
    have h1 := ptg_len h.1
    have h2 := ptg_len h.2
    have e : (Pt.n and l r).text.length = l.text.length + r.text.length + 5 := by
      rw [str_len, show (Pt.n and l r).text.cps.toList = _ from tcodes_n and l r]
      unfold inner tcodes
      simp only [List.length_cons, List.length_append, List.length_nil]
      rw [str_len l.text, str_len r.text]
      omega
    rw [e]
    show l.text.length + r.text.length + 5 + 5 ≤ 40 * (l.leaves + r.leaves)
    omega
theorem starts_n {z : Str} {X : List Nat} (h : z.cps.toList = 40 :: X) : Txt.startswith z "(" = true := by
  have hz : z.length = X.length + 1 := by rw [str_len, h]; rfl
  have h1 : ("(" : Str).length = 1 := by decide +kernel
  have h2 : ("(" : Str).cps.toList = [40] := by decide +kernel
  unfold Txt.startswith
  rw [StrLaws.subAt_eq, h, h1, h2, hz]
  simp
theorem ends_n {z : Str} {X : List Nat} (h : z.cps.toList = X ++ [41]) : Txt.endswith z ")" = true := by
  have hz : z.length = X.length + 1 := by rw [str_len, h]; simp
  have h1 : (")" : Str).length = 1 := by decide +kernel
  have h2 : (")" : Str).cps.toList = [41] := by decide +kernel
  unfold Txt.endswith
  rw [StrLaws.subAt_eq, h, h1, h2, hz]
  simp
theorem cut_mid {z : Str} {M : List Nat} (h : z.cps.toList = 40 :: (M ++ [41])) : cutS z (some 1) (some (-1)) = tx M := by
  have hz : z.length = M.length + 2 := by rw [str_len, h]; simp
  unfold cutS
  have e1 : HT.sIx z.length 0 (some 1) = 1 := by
    rw [hz]
    show (if (1 : Int) < 0 then ((1 : Int) + ((M.length + 2 : Nat) : Int)).toNat else min (1 : Int).toNat (M.length + 2)) = 1
    rw [if_neg (by decide)]
    show min 1 (M.length + 2) = 1
    omega
  have e2 : HT.sIx z.length z.length (some (-1)) = M.length + 1 := by
    rw [hz]
    show (if (-1 : Int) < 0 then ((-1 : Int) + ((M.length + 2 : Nat) : Int)).toNat else min (-1 : Int).toNat (M.length + 2)) = M.length + 1
    rw [if_pos (by decide)]
    omega
  rw [e1, e2, h]
  show (⟨((M ++ [41]).take M.length).toArray⟩ : Str) = tx M
  rw [List.take_left]
  rfl
/-! ### patterns read -/
section
variable {σ : L2.St} {G : Hp} {te : TE} {CF CB CE CN : Addr} {Q : VK}
theorem et_isNf {v : V} (h : Ev te σ G v) (hv : v ≠ .non) : EvT (tTest (tOp (fun x y H Q => y = .non ∧ Q (.bl (decide (x = .non))) H) te (tC .non))) σ G false := et_test (ev_is (ev_op h ev_c fun H1 e Q q => ⟨rfl, q H1 (Ex.refl _)⟩) (congrArg V.bl (decide_eq_false hv)))
theorem et_isNt (h : Ev te σ G .non) : EvT (tTest (tOp (fun x y H Q => y = .non ∧ Q (.bl (decide (x = .non))) H) te (tC .non))) σ G true := et_test (ev_is (ev_op h ev_c fun H1 e Q q => ⟨rfl, q H1 (Ex.refl _)⟩) (congrArg V.bl (decide_eq_true rfl)))
theorem et_notNt {v : V} (h : Ev te σ G v) (hv : v ≠ .non) : EvT (tTest (tOp (fun x y H Q => y = .non ∧ Q (.bl (!decide (x = .non))) H) te (tC .non))) σ G true := et_test (ev_is (ev_op h ev_c fun H1 e Q q => ⟨rfl, q H1 (Ex.refl _)⟩) (by rw [decide_eq_false hv]; rfl))
theorem et_notNf (h : Ev te σ G .non) : EvT (tTest (tOp (fun x y H Q => y = .non ∧ Q (.bl (!decide (x = .non))) H) te (tC .non))) σ G false := et_test (ev_is (ev_op h ev_c fun H1 e Q q => ⟨rfl, q H1 (Ex.refl _)⟩) (by rw [decide_eq_true rfl]; rfl))
end

/-! ### reading as a function (begun, for k07): the parts of any text -/
theorem partS_pre (l : List Nat) : (partS l).cps.toList = l.take (partS l).length := by
  have key : ∀ p : Str, isAt l p = true → p.cps.toList = l.take p.length := fun p h => by
    have := tx_eq.mp (of_decide_eq_true h)
    exact this.symm
  unfold partS
  split
  · exact key _ ‹_›
  · split
    · exact key _ ‹_›
    · split
      · exact key _ ‹_›
      · rw [str_len, tx_list]
        exact List.prefix_iff_eq_take.mp (List.takeWhile_prefix isSg)
/-- the parts one behind the other, none where a sign begins no part -/
def partsM : Nat → List Nat → Option (List Str)
  | 0, _ => none
  | n + 1, l => if l = [] then some [] else if partS l = "" then none else (partsM n (l.drop (partS l).length)).map fun ps => partS l :: ps
theorem partsM_codes : ∀ (n : Nat) (l : List Nat) (ps : List Str), partsM n l = some ps → codes ps = l
  | 0, _, _, h => by cases h
  | n + 1, l, ps, h => by
    unfold partsM at h
    by_cases h0 : l = []
    · rw [if_pos h0] at h
      rw [h0, ← Option.some.inj h]
      rfl
    · rw [if_neg h0] at h
      by_cases h1 : partS l = ""
      · rw [if_pos h1] at h
        cases h
      · rw [if_neg h1] at h
        cases hr : partsM n (l.drop (partS l).length) with
        | none => rw [hr] at h; cases h
        | some qs =>
          rw [hr] at h
          rw [← Option.some.inj h]
          show (partS l).cps.toList ++ codes qs = l
          rw [partsM_codes n _ qs hr, partS_pre l]
          have e : (l.take (partS l).length).length = (partS l).length := by
            have := congrArg List.length (partS_pre l)
            rw [← str_len] at this
            exact this.symm
          exact List.take_append_drop _ _
def spPartsAny : Sp := fun vs H Q _ => ∃ z : Str, vs = [.str z] ∧ z.length ≤ 1000 ∧
  (∀ ps l H', partsM (z.length + 1) z.cps.toList = some ps → ps ≠ [] → H l = none → Ex H H' → H' l = some (.lst (ps.map V.str)) → Q (.ref l) H') ∧
  ((partsM (z.length + 1) z.cps.toList = none ∨ partsM (z.length + 1) z.cps.toList = some []) → RetV .non H Q)
theorem partS_len {l : List Nat} (h : partS l ≠ "") : 1 ≤ (partS l).length ∧ (partS l).length ≤ l.length := by
  have e := partS_pre l
  constructor
  · rcases Nat.eq_zero_or_pos (partS l).length with h0 | h0
    · exfalso
      rw [h0, List.take_zero] at e
      exact h (cps_inj (by rw [e]; decide +kernel))
    · exact h0
  · have := congrArg List.length e
    rw [← str_len, List.length_take] at this
    omega
theorem ok__parts_of {f : Addr} {fd : FuncData} (F : Fun K "_parts_of" "_parts_of" s__parts_of f fd) (T : Txt K mg a_OPEN_PARTS C_Both C_Either C_Form C_GlueError C_NoForm C_NoText) (D__part_at : Df P w K mg base "_part_at" ["text", "at"] 1 spPartAt) : FnOk P w K mg base CX0 2 f fd ["text"] spPartsAny := by
  refine F.ok sc__parts_of (fun vs H Q E h => ?_) (fun cdv A outer s0 H vs Q E hr h => ?_)
  · obtain ⟨z, rfl, _⟩ := h
    rfl
  · obtain ⟨z, rfl, hz, qy, qn⟩ := h
    refine ⟨_, (pss_cons (ps_set (i := 1) sc__parts_of.nd rfl (Or.inl rfl) (pe_lst pa_nil))
      (pss_cons (ps_set (i := 2) sc__parts_of.nd rfl (Or.inl rfl) pe_int)
      (pss_cons (ps_while PassesOwn.never (pt_cmpR op_lt (pv 2) (pe_callB call_len_str (by rfl) T.n_len PySem.boot_len (pa_cons (pv 0) pa_nil)) (nomark _))
      (pss_cons (ps_set (i := 3) sc__parts_of.nd rfl (Or.inl rfl) (pe_df D__part_at (hr.mono (by decide)) (by rfl) (pa_cons (pv 0) (pa_cons (pv 2) pa_nil))))
      (pss_cons (ps_if (pt_cmpR op_eq (pv 3) pe_str (nomark _))
      (pss_one (ps_ret pe_non))
      pss_nil)
      (pss_cons (ps_expr (pe_bm PySem.F.plainAttrs_list PySem.F.slot_list_append PySem.F.type_list_append mt_append (pv 1) (pa_cons (pv 3) pa_nil)))
      (pss_one (ps_set (i := 2) sc__parts_of.nd rfl (Or.inl rfl) (pe_op op_add (pv 2) (pe_callB call_len_str (by rfl) T.n_len PySem.boot_len (pa_cons (pv 3) pa_nil)))))))))
      (pss_one (ps_ret (pe_ifExp (pt_cmpR op_gt (pe_callB call_len_seq (by rfl) T.n_len PySem.boot_len (pa_cons (pv 1) pa_nil)) pe_int (nomark _)) (pv 1) pe_non)))))), ?_⟩
    have zl := str_len z
    refine q_asgL (el_lst ea_nil (Nat.zero_le _)) fun l H1 hl0 e1 h1 => ?_
    refine q_asg ev_c fun H2 e2 => ?_
    have lenT : ∀ {σ : L2.St} {H' : Hp} {at_ : Nat}, σ[0]? = some (some (.str z)) → σ[2]? = some (some (.int (at_ : Int))) → EvT (tTest (tOp (rI0 fun i j => .bl (decide (i < j))) (tVar 2) (tCB (fun xs H Q => ∃ z, xs = [.str z] ∧ z.length ≤ sizeLine ∧ Q (.int z.length) H) (tCons (tVar 0) tNil)))) σ H' (decide (at_ < z.length)) := fun i0 i2 => et_test (ev_is (ev_op (ev_var i2) (ev_lenS (ev_var i0) (by omega)) rv_I0) (congrArg V.bl lt_len))
    refine q_while (fun m σ' H' => ∃ (a : Nat) (ds : List Str) (y3 : Option V), σ' = [some (.str z), some (.ref l), some (.int (a : Int)), y3] ∧ Ex H H' ∧ H' l = some (.lst (ds.map V.str)) ∧ a ≤ z.length ∧ ds.length ≤ a ∧ partsM (z.length + 1) z.cps.toList = (partsM (z.length + 1 - ds.length) (z.cps.toList.drop a)).map (fun ps => ds ++ ps) ∧ m = z.length - a) z.length
      ⟨0, [], none, rfl, e1.trans e2, e2 _ _ h1, Nat.zero_le _, Nat.le_refl _, by simp, rfl⟩ ?_
    rintro m σ' H3 ⟨a, ds, y3, rfl, e3, h3, ha, hda, hp, rfl⟩
    refine ⟨_, lenT rfl rfl, fun hb H4 e4 => ?_, fun hb H4 e4 => ?_⟩
    · have hb := of_decide_eq_true hb
      have hne : z.cps.toList.drop a ≠ [] := fun w' => by
        have := congrArg List.length w'
        rw [List.length_drop, ← zl] at this
        simp at this
        omega
      obtain ⟨n, hn⟩ : ∃ n, z.length + 1 - ds.length = n + 1 := ⟨z.length - ds.length, by omega⟩
      have hstep : partsM (n + 1) (z.cps.toList.drop a) = if partS (z.cps.toList.drop a) = "" then none else (partsM n ((z.cps.toList.drop a).drop (partS (z.cps.toList.drop a)).length)).map fun ps => partS (z.cps.toList.drop a) :: ps := by
        conv => lhs; unfold partsM
        rw [if_neg hne]
      rw [hn, hstep] at hp
      refine ⟨fun σ2 H5 => ∃ (a2 : Nat) (ds : List Str) (y3 : Option V), a < a2 ∧ σ2 = [some (.str z), some (.ref l), some (.int (a2 : Int)), y3] ∧ Ex H H5 ∧ H5 l = some (.lst (ds.map V.str)) ∧ a2 ≤ z.length ∧ ds.length ≤ a2 ∧ partsM (z.length + 1) z.cps.toList = (partsM (z.length + 1 - ds.length) (z.cps.toList.drop a2)).map (fun ps => ds ++ ps), fun σ2 H5 ⟨a2, ds, y3, w0, w1, w2, w3, w4, w5, w6⟩ => ⟨_, by omega, a2, ds, y3, w1, w2, w3, w4, w5, w6, rfl⟩, ?_⟩
      refine q_asg (v := .str (partS (z.cps.toList.drop a))) (ev_call (ea_cons (ev_var rfl) (ea_cons (ev_var rfl) ea_nil)) fun H5 e5 Q' q' E' => ⟨z, a, rfl, ha, hz, q'⟩) fun H5 e5 => ?_
      have ld : (z.cps.toList.drop a).length = z.length - a := by rw [List.length_drop, ← zl]
      have hdd : (z.cps.toList.drop a).drop (partS (z.cps.toList.drop a)).length = z.cps.toList.drop (a + (partS (z.cps.toList.drop a)).length) := List.drop_drop
      rw [hdd] at hp
      generalize hps : partS (z.cps.toList.drop a) = p at hp
      refine q_when (b := decide (p = "")) (et_test (ev_op (ev_var rfl) ev_c rv_eqS)) (fun hc H6 e6 => ?_) (fun hc H6 e6 => ?_)
      · rw [if_pos (of_decide_eq_true hc)] at hp
        exact s_ret ev_c fun H7 e7 => qn (.inl hp) H7 ((((e3.trans e4).trans e5).trans e6).trans e7)
      · have hpe := of_decide_eq_false hc
        rw [if_neg hpe] at hp
        obtain ⟨k1, k2⟩ := partS_len (l := z.cps.toList.drop a) (by rw [hps]; exact hpe)
        rw [hps] at k1 k2
        have e46 := (e4.trans e5).trans e6
        refine q_app (e46 _ _ h3) (ev_var rfl) (ev_var rfl) (by simp; omega) fun H7 e7 => ?_
        refine s_asg (v := .int ((a + p.length : Nat) : Int)) (ev_is (ev_op (ev_var rfl) (ev_lenS (ev_var rfl) (by omega)) rv_add) (congrArg V.int (by omega))) fun H8 e8 => ⟨a + p.length, ds ++ [p], _, by omega, rfl, (Ex.mut ((e3.trans e46).trans e7) hl0).trans e8, ?_, by omega, by rw [List.length_append]; simp; omega, ?_⟩
        · refine e8 _ _ ?_
          rw [upd_same, List.map_append]
          rfl
        · rw [hp, show z.length + 1 - (ds ++ [p]).length = n by rw [List.length_append]; simp; omega, Option.map_map]
          congr 1
          funext ps
          simp
    · have hb := of_decide_eq_false hb
      have haz : a = z.length := by omega
      subst haz
      obtain ⟨n, hn⟩ : ∃ n, z.length + 1 - ds.length = n + 1 := ⟨z.length - ds.length, by omega⟩
      have hnil : z.cps.toList.drop z.length = [] := by rw [zl]; exact List.drop_of_length_le (Nat.le_refl _)
      rw [hn, hnil] at hp
      have hs : partsM (n + 1) ([] : List Nat) = some [] := by unfold partsM; rw [if_pos rfl]
      rw [hs] at hp
      have hp : partsM (z.length + 1) z.cps.toList = some ds := by rw [hp]; simp
      have h4 := e4 _ _ h3
      refine s_ret (v := if 0 < ds.length then .ref l else .non) (ev_if (b := decide (0 < ds.length)) (et_test (ev_is (ev_op (ev_lenL (ev_var rfl) (sq_of h4)) ev_c rv_I0) (congrArg V.bl (decide_eq_decide.mpr (by rw [List.length_map]; omega))))) (fun hb => by rw [if_pos (of_decide_eq_true hb)]; exact ev_var rfl) (fun hb => by rw [if_neg (of_decide_eq_false hb)]; exact ev_c)) fun H5 e5 => ?_
      by_cases h0 : 0 < ds.length
      · rw [if_pos h0]
        exact qy ds l H5 hp (fun w' => by rw [w'] at h0; simp at h0) hl0 ((e3.trans e4).trans e5) (e5 _ _ h4)
      · rw [if_neg h0]
        exact qn (.inr (by rw [hp]; congr 1; exact List.length_eq_zero_iff.mp (by omega))) H5 ((e3.trans e4).trans e5)
/-! ### _middle of any text -/
def findM : Int → Nat → List Nat → Option Nat
  | _, _, [] => none
  | d, i, c :: l => if c = 40 then findM (d + 1) (i + 1) l else if c = 41 then findM (d - 1) (i + 1) l else if (c = 38 ∨ c = 124) ∧ d = 0 then some i else findM d (i + 1) l
def sepAt (z : Str) (i : Nat) : Bool := decide (0 < i) && (decide (cutS z (some ((i : Int) - 1)) (some ((i : Int) + 2)) = " & ") || decide (cutS z (some ((i : Int) - 1)) (some ((i : Int) + 2)) = " | "))
def midM (z : Str) : Option Nat :=
  match findM 0 0 z.cps.toList with
  | some i => if sepAt z i = true then some i else none
  | none => none
def optV : Option Nat → V
  | some i => .int (i : Int)
  | none => .non
def spMidAny : Sp := fun vs H Q _ => ∃ z : Str, vs = [.str z] ∧ z.length ≤ 1000 ∧ RetV (optV (midM z)) H Q
theorem ok__middle {f : Addr} {fd : FuncData} (F : Fun K "_middle" "_middle" s__middle f fd) (T : Txt K mg a_OPEN_PARTS C_Both C_Either C_Form C_GlueError C_NoForm C_NoText) : FnOk P w K mg base CX0 1 f fd ["inner"] spMidAny := by
  refine F.ok sc__middle (fun vs H Q E h => ?_) (fun cdv A outer s0 H vs Q E hr h => ?_)
  · obtain ⟨z, rfl, _⟩ := h
    rfl
  · obtain ⟨z, rfl, hz, q⟩ := h
    refine ⟨_, (pss_cons (ps_set (i := 1) sc__middle.nd rfl (Or.inl rfl) pe_int)
      (pss_cons (ps_for PassesOwn.never rfl (pi_enumT (by rfl) T.n_enumerate (pa_cons (pv 0) pa_nil)) (pg_tup rfl (pgs_cons (pg_name (i := 2) sc__middle.nd rfl (Or.inl rfl)) (pgs_cons (pg_name (i := 3) sc__middle.nd rfl (Or.inl rfl)) pgs_nil)))
      (pss_one (ps_if (pt_cmpR op_eq (pv 3) pe_str (nomark _))
      (pss_one (ps_aug (i := 1) sc__middle.nd rfl (Or.inl rfl) pe_int ip_add))
      (pss_one (ps_if (pt_cmpR op_eq (pv 3) pe_str (nomark _))
      (pss_one (ps_aug (i := 1) sc__middle.nd rfl (Or.inl rfl) pe_int ip_sub))
      (pss_one (ps_if (PW.pt (pw_and (pt_cmpR op_in_sign (pv 3) pe_str (by rfl)) (pw_and1 (pt_cmpR op_eq (pv 1) pe_int (nomark _)))))
      (pss_one (ps_ret (pe_ifExp (PW.pt (pw_and (pt_cmpR op_gt (pv 2) pe_int (nomark _)) (pw_and1 (pt_cmpR op_in_seq (pe_slice sl_str (pv 0) (po_some (pe_op op_sub (pv 2) pe_int)) (po_some (pe_op op_add (pv 2) pe_int))) (pe_tup (pa_cons pe_str (pa_cons pe_str pa_nil))) (by rfl))))) (pv 2) pe_non)))
      pss_nil)))))))
      (pss_one (ps_ret pe_non)))), ?_⟩
    have zs : z.cps.size = z.length := rfl
    have zl := str_len z
    refine q_asg ev_c fun H1 e1 => ?_
    refine q_forET (z := z) (ev_var rfl) (fun i σ' H' => ∃ (d : Int) (y2 y3 : Option V), σ' = [some (.str z), some (.int d), y2, y3] ∧ Ex H H' ∧ findM 0 0 z.cps.toList = findM d i (z.cps.toList.drop i)) (fun H2 e2 => ⟨0, _, _, rfl, e1.trans e2, rfl⟩) ?_ ?_
    · rintro i c σ' H' Tp hc ⟨d, y2, y3, rfl, e, hf⟩ hTp
      have e' : Ex H (upd H' Tp (.tup [.int (i : Int), .str ⟨#[c]⟩])) := e.trans (Ex.new hTp)
      generalize upd H' Tp (.tup [.int (i : Int), .str ⟨#[c]⟩]) = H2 at e'
      have hcl : z.cps.toList[i]? = some c := by rw [← hc]; simp
      have lt := (List.getElem?_eq_some_iff.mp hcl).1
      have hd : z.cps.toList.drop i = c :: z.cps.toList.drop (i + 1) := by
        rw [List.drop_eq_getElem_cons lt]
        congr 1
        rw [List.getElem?_eq_getElem lt] at hcl
        exact Option.some.inj hcl
      rw [hd] at hf
      show tIfS _ _ _ _ [some (.str z), some (.int d), some (.int (i : Int)), some (.str ⟨#[c]⟩)] H2
      refine s_if (b := decide (c = 40)) (et_test (ev_is (ev_op (ev_var rfl) ev_c rv_eqS) (by rw [sLp]; congr 1; exact decide_eq_decide.mpr one_eq))) (fun hb H3 e3 => ?_) (fun hb H3 e3 => ?_)
      · have hcc := of_decide_eq_true hb
        refine s_aug (b := 1) rfl ev_c fun H4 e4 => ⟨_, _, _, rfl, (e'.trans e3).trans e4, ?_⟩
        rw [hf]
        conv => lhs; unfold findM
        rw [if_pos hcc]
      · have nc := of_decide_eq_false hb
        refine s_if (b := decide (c = 41)) (et_test (ev_is (ev_op (ev_var rfl) ev_c rv_eqS) (by rw [sRp]; congr 1; exact decide_eq_decide.mpr one_eq))) (fun hb H4 e4 => ?_) (fun hb H4 e4 => ?_)
        · have hcc := of_decide_eq_true hb
          refine s_aug (b := 1) rfl ev_c fun H5 e5 => ⟨_, _, _, rfl, ((e'.trans e3).trans e4).trans e5, ?_⟩
          rw [hf]
          conv => lhs; unfold findM
          rw [if_neg nc, if_pos hcc]
        · have nc2 := of_decide_eq_false hb
          refine s_when (b := decide (c ∈ ("&|" : Str).cps.toList) && decide (d = 0)) (et_and (et_test (ev_op (ev_var rfl) ev_c rv_sgn)) fun _ => et_test (ev_op (ev_var rfl) ev_c rv_eqI)) (fun hb H5 e5 => ?_) (fun hb H5 e5 => ⟨_, _, _, rfl, ((e'.trans e3).trans e4).trans e5, ?_⟩)
          · obtain ⟨b1, b2⟩ := Bool.and_eq_true _ _ ▸ hb
            have b1 := of_decide_eq_true b1
            have b2 := of_decide_eq_true b2
            rw [sAO] at b1
            simp only [List.mem_cons, List.not_mem_nil, or_false] at b1
            have hfi : findM 0 0 z.cps.toList = some i := by
              rw [hf]
              unfold findM
              rw [if_neg nc, if_neg nc2, if_pos ⟨b1, b2⟩]
            have hm : midM z = if sepAt z i = true then some i else none := by
              unfold midM
              rw [hfi]
            have iz : i < z.length := by rw [zl]; exact lt
            have sl : Ev (tSl rSlS (tVar 0) (tPart (tOp (rI0 fun i j => .int (i - j)) (tVar 2) (tC (.int 1)))) (tPart (tOp (rI0 fun i j => .int (i + j)) (tVar 2) (tC (.int 2))))) [some (.str z), some (.int d), some (.int (i : Int)), some (.str ⟨#[c]⟩)] H5 (.str (cutS z (some ((i : Int) - 1)) (some ((i : Int) + 2)))) :=
              ev_slS (zt := z) (ev_var rfl) (eo_some (ev_op (ev_var rfl) ev_c rv_I0)) (eo_some (ev_op (ev_var rfl) ev_c rv_I0)) (by omega)
            have tst := et_is (et_and (et_test (ev_is (ev_op (r := rI0 fun i j => .bl (decide (j < i))) (ta := tVar 2) (tb := tC (.int 0)) (σ := [some (.str z), some (.int d), some (.int (i : Int)), some (.str ⟨#[c]⟩)]) (H := H5) (ev_var rfl) ev_c rv_I0) (congrArg V.bl (decide_eq_decide.mpr (by omega : (0 : Int) < (i : Int) ↔ 0 < i))))) fun _ => et_test (ev_inU (K := K) sl (eu_tup (ea_cons (ev_c (v := .str " & ")) (ea_cons (ev_c (v := .str " | ")) ea_nil)) (by simp)) (by rfl) (by rfl))) (show _ = sepAt z i by
              unfold sepAt
              congr 1
              refine (inV_str _ [" & ", " | "]).trans ?_
              generalize cutS z (some ((i : Int) - 1)) (some ((i : Int) + 2)) = x
              by_cases h1 : x = " & " <;> by_cases h2 : x = " | " <;> simp [h1, h2])
            refine s_ret (v := optV (if sepAt z i = true then some i else none)) (ev_if tst (fun hb => by rw [if_pos hb]; exact ev_var rfl) (fun hb => by rw [if_neg (by rw [hb]; decide)]; exact ev_c)) fun H6 e6 => ?_
            rw [hm] at q
            exact q H6 ((((e'.trans e3).trans e4).trans e5).trans e6)
          · rw [hf]
            conv => lhs; unfold findM
            rw [if_neg nc, if_neg nc2, if_neg]
            rintro ⟨w1, w2⟩
            rw [sAO, decide_eq_true w2, Bool.and_true] at hb
            refine absurd ?_ (of_decide_eq_false hb)
            rcases w1 with w1 | w1 <;> simp [w1]
    · rintro σ' H' ⟨d, y2, y3, rfl, e, hf⟩
      rw [zs, zl, List.drop_of_length_le (Nat.le_refl _)] at hf
      have hm : midM z = none := by
        unfold midM
        rw [hf]
        rfl
      rw [hm] at q
      exact s_ret ev_c fun H2 e2 => q H2 (e.trans e2)

/-! ### reading as a function -/
def okB (ps : List Str) : Bool := !ps.isEmpty && (List.range ps.length).all fun j => !badAt (ps.map V.str) j
/-- a text that has the shape of a form: what form it is, if it may be one -/
def formM (z : Str) : Option (Option Pt) :=
  match partsM (z.length + 1) z.cps.toList with
  | some (p :: ps) => some (if okB (p :: ps) = true then some (.f (p :: ps)) else none)
  | _ => none
def ampAt (z : Str) (i : Nat) : Bool := decide (z.cps.toList[i]? = some 38)
def midT (z : Str) : Str := cutS z (some 1) (some (-1))
def joinM (rd : Str → Option Pt) (z : Str) : Option Pt :=
  if (Txt.startswith z "(" && Txt.endswith z ")") = true then
    match midM (midT z) with
    | none => none
    | some i =>
      match rd (cutS (midT z) none (some ((i : Int) - 1))), rd (cutS (midT z) (some ((i : Int) + 2)) none) with
      | some l, some r => if l.leaves + r.leaves ≤ 3 then some (.n (ampAt (midT z) i) l r) else none
      | _, _ => none
  else none
def pattM : Nat → Str → Option Pt
  | 0, z => match formM z with | some r => r | none => none
  | d + 1, z => match formM z with | some r => r | none => joinM (pattM d) z
def joinAt : Nat → Str → Option Pt
  | 0, _ => none
  | d + 1, z => joinM (pattM d) z
theorem pattM_eq (d : Nat) (z : Str) : pattM d z = match formM z with | some r => r | none => joinAt d z := by cases d <;> rfl
theorem okB_iff {ps : List Str} : okB ps = true ↔ ps ≠ [] ∧ ∀ j < ps.length, badAt (ps.map V.str) j = false := by
  unfold okB
  rw [Bool.and_eq_true, List.all_eq_true]
  constructor
  · rintro ⟨h1, h2⟩
    refine ⟨fun z => by rw [z] at h1; exact absurd h1 (by decide), fun j hj => ?_⟩
    have := h2 j (List.mem_range.mpr hj)
    simpa using this
  · rintro ⟨h1, h2⟩
    refine ⟨?_, fun j hj => ?_⟩
    · cases ps with
      | nil => exact absurd rfl h1
      | cons _ _ => rfl
    · rw [h2 j (List.mem_range.mp hj)]
      rfl
theorem okB_all {ps : List Str} (h : okB ps = true) : AllOk (ps.map V.str) ps := by
  obtain ⟨h1, h2⟩ := okB_iff.mp h
  exact ⟨rfl, fun z => h1 (List.map_eq_nil_iff.mp z), fun j hj => h2 j (by rwa [List.length_map] at hj)⟩
theorem okB_of_all {xs : List V} {ps qs : List Str} (h : AllOk xs ps) (e : xs = qs.map V.str) : okB qs = true ∧ ps = qs := by
  obtain ⟨h1, h2, h3⟩ := h
  have inj : ∀ (a b : List Str), a.map V.str = b.map V.str → a = b := fun a b => by
    induction a generalizing b with
    | nil => intro z; cases b with
      | nil => rfl
      | cons _ _ => cases z
    | cons x a ih => intro z; cases b with
      | nil => cases z
      | cons y b =>
        injection z with z1 z2
        injection z1 with z1
        rw [z1, ih b z2]
  subst e
  refine ⟨okB_iff.mpr ⟨fun z => h2 (by rw [z]; rfl), fun j hj => h3 j (by rw [List.length_map]; exact hj)⟩, (inj _ _ h1).symm⟩
theorem okB_no {ps : List Str} {v : V} (h : NoAt (ps.map V.str) v) : okB ps = false := by
  cases hb : okB ps with
  | false => rfl
  | true =>
    obtain ⟨h1, h2⟩ := okB_iff.mp hb
    rcases h with ⟨e, _⟩ | ⟨k, hk, bk, _, _⟩
    · exact absurd (List.map_eq_nil_iff.mp e) h1
    · rw [h2 k (by rwa [List.length_map] at hk)] at bk
      cases bk
/-- parts that make a form are allowed -/
theorem okB_good {ps : List Str} (h : GoodP ps) : okB ps = true := by
  obtain ⟨hP, h1, h4⟩ := h
  refine okB_iff.mpr ⟨fun z => by rw [z] at h1; simp at h1, fun j hj => ?_⟩
  have gx : ∀ {k : Nat} (hk : k < ps.length), (ps.map V.str).getD k .non = .str ps[k] := fun {k} hk => by
    rw [List.getD_eq_getElem?_getD, List.getElem?_map, List.getElem?_eq_getElem hk]
    rfl
  have fx : ∀ {p : Str}, p ∈ ps → isOpen p = false → fixM p = true := fun {p} hp ho => by
    rcases hP.each p hp with o | ⟨f1, f2, f3⟩
    · rw [ho] at o
      cases o
    · unfold fixM
      rw [ho]
      simp only [Bool.not_false, Bool.true_and, Bool.and_eq_true, decide_eq_true_eq, List.all_eq_true]
      exact ⟨⟨by omega, by omega⟩, f1⟩
  unfold badAt
  rw [gx hj]
  show ((decide (3 < j) || (!isOpen ps[j] && !fixM ps[j])) || ((!isOpen ps[j] && prevFix (ps.map V.str) j) || (decide (ps[j] = anyP) && ((ps.map V.str).take j).any anyV))) = false
  have a1 : decide (3 < j) = false := decide_eq_false (by omega)
  have a2 : (!isOpen ps[j] && !fixM ps[j]) = false := by
    cases ho : isOpen ps[j] with
    | true => rfl
    | false => rw [fx (List.getElem_mem hj) ho]; rfl
  have a3 : (!isOpen ps[j] && prevFix (ps.map V.str) j) = false := by
    cases ho : isOpen ps[j] with
    | true => rfl
    | false =>
      unfold prevFix
      rcases Nat.eq_zero_or_pos j with z | z
      · rw [decide_eq_false (by omega)]
        rfl
      · rw [gx (k := j - 1) (by omega)]
        have ho1 : isOpen ps[j - 1] = true := by
          rcases hP.adj (j - 1) _ _ (List.getElem?_eq_getElem (by omega)) (by rw [show j - 1 + 1 = j by omega]; exact List.getElem?_eq_getElem hj) with w' | w'
          · exact w'
          · rw [ho] at w'
            cases w'
        show (!false && (decide (0 < j) && fixM ps[j - 1])) = false
        unfold fixM
        rw [ho1]
        simp
  have a4 : (decide (ps[j] = anyP) && ((ps.map V.str).take j).any anyV) = false := by
    by_cases he : ps[j] = anyP
    · rw [← List.map_take, any_strs, decide_eq_true he, Bool.true_and]
      refine decide_eq_false fun hm => ?_
      obtain ⟨i, hi⟩ := List.mem_iff_getElem?.mp hm
      have hij : i < j := by
        have := (List.getElem?_eq_some_iff.mp hi).1
        rw [List.length_take] at this
        omega
      rw [List.getElem?_take_of_lt hij] at hi
      have := hP.one i j hi (by rw [List.getElem?_eq_getElem hj, he])
      omega
    · rw [decide_eq_false he]
      rfl
  rw [a1, a2, a3, a4]
  rfl
/-! what is read has the text -/
theorem starts_of {z : Str} (h : Txt.startswith z "(" = true) : ∃ X, z.cps.toList = 40 :: X := by
  have h1 : ("(" : Str).length = 1 := by decide +kernel
  have h2 : ("(" : Str).cps.toList = [40] := by decide +kernel
  unfold Txt.startswith at h
  rw [StrLaws.subAt_eq, h1, h2] at h
  simp only [Bool.and_eq_true, decide_eq_true_eq, beq_iff_eq] at h
  cases hz : z.cps.toList with
  | nil => rw [hz] at h; simp at h
  | cons c l =>
    rw [hz] at h
    simp at h
    exact ⟨l, by rw [h.2]⟩
theorem ends_of {z : Str} (h : Txt.endswith z ")" = true) : ∃ Y, z.cps.toList = Y ++ [41] := by
  have h1 : (")" : Str).length = 1 := by decide +kernel
  have h2 : (")" : Str).cps.toList = [41] := by decide +kernel
  have zl := str_len z
  unfold Txt.endswith at h
  rw [StrLaws.subAt_eq, h1, h2] at h
  simp only [Bool.and_eq_true, decide_eq_true_eq, beq_iff_eq] at h
  obtain ⟨k1, k2⟩ := h
  refine ⟨z.cps.toList.take (z.length - 1), ?_⟩
  have e : (z.cps.toList.drop (z.length - 1)).take 1 = z.cps.toList.drop (z.length - 1) := List.take_of_length_le (by rw [List.length_drop]; omega)
  rw [← k2, e, List.take_append_drop]
theorem wrap_of {z : Str} (h : (Txt.startswith z "(" && Txt.endswith z ")") = true) : ∃ M, z.cps.toList = 40 :: (M ++ [41]) := by
  obtain ⟨h1, h2⟩ := Bool.and_eq_true _ _ ▸ h
  obtain ⟨X, hX⟩ := starts_of h1
  obtain ⟨Y, hY⟩ := ends_of h2
  rw [hX] at hY
  cases Y with
  | nil =>
    injection hY with z _
    omega
  | cons y Y =>
    injection hY with z1 z2
    exact ⟨Y, by rw [hX, z2]; rfl⟩
theorem sep_of {y : Str} {i : Nat} (h : sepAt y i = true) : 0 < i ∧ ∃ and, y.cps.toList = y.cps.toList.take (i - 1) ++ ([32, signC and, 32] ++ y.cps.toList.drop (i + 2)) ∧ ampAt y i = and := by
  unfold sepAt at h
  rw [Bool.and_eq_true, Bool.or_eq_true, decide_eq_true_eq, decide_eq_true_eq, decide_eq_true_eq] at h
  obtain ⟨h0, h⟩ := h
  have e1 : (i : Int) - 1 = ((i - 1 : Nat) : Int) := by omega
  have e2 : (i : Int) + 2 = ((i + 2 : Nat) : Int) := by omega
  have e3 : i + 2 - (i - 1) = 3 := by omega
  rw [e1, e2, cut_in, e3] at h
  have a1 : (" & " : Str).cps.toList = [32, 38, 32] := by decide +kernel
  have a2 : (" | " : Str).cps.toList = [32, 124, 32] := by decide +kernel
  have key : ∃ and, (y.cps.toList.drop (i - 1)).take 3 = [32, signC and, 32] := by
    rcases h with h | h
    · exact ⟨true, (tx_eq.mp h).trans a1⟩
    · exact ⟨false, (tx_eq.mp h).trans a2⟩
  obtain ⟨and, hk⟩ := key
  have dd : y.cps.toList.drop (i - 1) = [32, signC and, 32] ++ y.cps.toList.drop (i + 2) := by
    have := List.take_append_drop 3 (y.cps.toList.drop (i - 1))
    rw [hk, List.drop_drop, show i - 1 + 3 = i + 2 by omega] at this
    exact this.symm
  refine ⟨h0, and, ?_, ?_⟩
  · rw [← dd, List.take_append_drop]
  · have hi : y.cps.toList[i]? = some (signC and) := by
      have : (y.cps.toList.drop (i - 1))[1]? = some (signC and) := by rw [dd]; rfl
      rw [List.getElem?_drop, show i - 1 + 1 = i by omega] at this
      exact this
    unfold ampAt
    rw [hi]
    cases and <;> decide +kernel
theorem mid_sep {y : Str} {i : Nat} (h : midM y = some i) : sepAt y i = true := by
  unfold midM at h
  split at h
  · split at h
    · rename_i hs
      rw [← Option.some.inj h]
      exact hs
    · cases h
  · cases h
theorem joinM_text {rd : Str → Option Pt} {z : Str} {t : Pt} (hrd : ∀ y u, rd y = some u → u.text = y) (h : joinM rd z = some t) : t.text = z ∧ ∃ and l r y1 y2, t = .n and l r ∧ rd y1 = some l ∧ rd y2 = some r ∧ l.leaves + r.leaves ≤ 3 := by
  unfold joinM at h
  split at h
  · rename_i hw
    obtain ⟨M, hM⟩ := wrap_of hw
    have hm : midT z = tx M := cut_mid hM
    rw [hm] at h
    split at h
    · cases h
    · rename_i i hi
      obtain ⟨h0, and, hy, ha⟩ := sep_of (mid_sep hi)
      rw [tx_list] at hy
      split at h
      · rename_i l r hl hr
        split at h
        · rename_i h3
          rw [← Option.some.inj h, ha]
          refine ⟨?_, and, l, r, _, _, rfl, hl, hr, h3⟩
          have e1 : (i : Int) - 1 = ((i - 1 : Nat) : Int) := by omega
          have e2 : (i : Int) + 2 = ((i + 2 : Nat) : Int) := by omega
          have tl : tcodes l = M.take (i - 1) := by
            unfold tcodes
            rw [hrd _ _ hl, e1, cut_lt, tx_list]
          have tr : tcodes r = M.drop (i + 2) := by
            unfold tcodes
            rw [hrd _ _ hr, e2, cut_ge, tx_list]
          refine cps_inj ?_
          show tcodes (.n and l r) = _
          rw [tcodes_n, hM]
          unfold inner
          rw [tl, tr, ← hy]
        · cases h
      · cases h
  · cases h
theorem formM_text {z : Str} {t : Pt} (h : formM z = some (some t)) : t.text = z ∧ PtG t ∧ t.leaves ≤ 3 ∧ t.depth = 0 := by
  unfold formM at h
  split at h
  · rename_i p ps hp
    have h := Option.some.inj h
    split at h
    · rename_i hb
      rw [← Option.some.inj h]
      exact ⟨cps_inj ((codes_join _).trans (partsM_codes _ _ _ hp)), AllOk.good (okB_all hb), by show 1 ≤ 3; decide, rfl⟩
    · cases h
  · cases h
theorem pattM_text : ∀ (d : Nat) (z : Str) (t : Pt), pattM d z = some t → t.text = z ∧ PtG t ∧ t.leaves ≤ 3 ∧ t.depth ≤ d
  | 0, z, t, h => by
    unfold pattM at h
    cases hf : formM z with
    | none => rw [hf] at h; cases h
    | some r =>
      rw [hf] at h
      have h : r = some t := h
      rw [h] at hf
      obtain ⟨a, b, c, d⟩ := formM_text hf
      exact ⟨a, b, c, by omega⟩
  | d + 1, z, t, h => by
    unfold pattM at h
    cases hf : formM z with
    | some r =>
      rw [hf] at h
      have h : r = some t := h
      rw [h] at hf
      obtain ⟨a, b, c, d⟩ := formM_text hf
      exact ⟨a, b, c, by omega⟩
    | none =>
      rw [hf] at h
      have h : joinM (pattM d) z = some t := h
      obtain ⟨e, and, l, r, y1, y2, rfl, hl, hr, h3⟩ := joinM_text (fun y u hu => (pattM_text d y u hu).1) h
      obtain ⟨_, gl, _, dl⟩ := pattM_text d y1 l hl
      obtain ⟨_, gr, _, dr⟩ := pattM_text d y2 r hr
      refine ⟨e, ⟨gl, gr⟩, h3, ?_⟩
      show max l.depth r.depth + 1 ≤ d + 1
      omega
/-! a pattern's text is read -/
theorem part_len {ps : List Str} (h : GoodP ps) {p : Str} (hp : p ∈ ps) : 1 ≤ p.length := by
  rcases h.1.each p hp with o | f
  · rw [isOpen_eq] at o
    have o := of_decide_eq_true o
    simp only [List.mem_cons, List.not_mem_nil, or_false] at o
    rcases o with o | o | o <;> rw [o]
    · rw [digL]; decide
    · rw [wordL]; decide
    · rw [anyL]; decide
  · exact f.2.1
theorem partsM_of {ps : List Str} (h : GoodP ps) : ∀ (k i n : Nat), k = ps.length - i → k < n → partsM n (codes (ps.drop i)) = some (ps.drop i)
  | 0, i, n + 1, hk, _ => by
    rw [List.drop_of_length_le (by omega)]
    unfold partsM
    rw [if_pos (show codes ([] : List Str) = [] from rfl)]
  | k + 1, i, n + 1, hk, hn => by
    have lt : i < ps.length := by omega
    have e : ps.drop i = ps[i] :: ps.drop (i + 1) := List.drop_eq_getElem_cons lt
    have hh := partS_head h (List.getElem?_eq_getElem lt)
    have l1 := part_len h (List.getElem_mem lt)
    have ec : codes (ps.drop i) = ps[i].cps.toList ++ codes (ps.drop (i + 1)) := by rw [e]; rfl
    unfold partsM
    rw [if_neg (fun w' => by
      have := congrArg List.length (ec.symm.trans w')
      rw [List.length_append, ← str_len] at this
      simp at this
      omega), hh, if_neg (fun w' => by
      rw [w'] at l1
      exact absurd l1 (by decide +kernel)), ec, str_len, List.drop_left, partsM_of h k (i + 1) n (by omega) (by omega), e]
    rfl
theorem codes_ge {ps : List Str} (h : GoodP ps) : ∀ qs : List Str, (∀ q ∈ qs, q ∈ ps) → qs.length ≤ (codes qs).length
  | [], _ => Nat.zero_le _
  | q :: qs, hq => by
    have l1 := part_len h (hq q List.mem_cons_self)
    have l2 := codes_ge h qs fun x hx => hq x (List.mem_cons_of_mem _ hx)
    show qs.length + 1 ≤ (q.cps.toList ++ codes qs).length
    rw [List.length_append, ← str_len]
    omega
theorem formM_of {ps : List Str} (h : GoodP ps) : formM (Txt.join "" ps) = some (some (.f ps)) := by
  have hc := codes_join ps
  have hl := codes_ge h ps fun _ hx => hx
  have hp : partsM ((Txt.join "" ps).length + 1) (Txt.join "" ps).cps.toList = some ps := by
    have := partsM_of h ps.length 0 ((Txt.join "" ps).length + 1) rfl (by rw [str_len, hc]; omega)
    rw [List.drop_zero] at this
    rw [hc]
    exact this
  unfold formM
  rw [hp]
  cases ps with
  | nil => exact absurd h.2.1 (by simp)
  | cons p ps =>
    show some (if okB (p :: ps) = true then some (Pt.f (p :: ps)) else none) = _
    rw [if_pos (okB_good h)]
theorem partS_40 (l : List Nat) : partS (40 :: l) = "" := by
  rw [partS_no (by decide), List.takeWhile_cons, sg40]
  show tx [] = ""
  decide +kernel
theorem formM_40 {z : Str} {l : List Nat} (h : z.cps.toList = 40 :: l) : formM z = none := by
  have hp : partsM (z.length + 1) z.cps.toList = none := by
    rw [h]
    unfold partsM
    rw [if_neg (by simp), partS_40, if_pos rfl]
  unfold formM
  rw [hp]
theorem dep_c (c : Nat) (l : List Nat) : dep (c :: l) = dep [c] + dep l := dep_app [c] l
theorem findM_cons (d : Int) (i c : Nat) (l : List Nat) : findM d i (c :: l) = if c = 40 then findM (d + 1) (i + 1) l else if c = 41 then findM (d - 1) (i + 1) l else if (c = 38 ∨ c = 124) ∧ d = 0 then some i else findM d (i + 1) l := rfl
theorem findM_app (S : List Nat) : ∀ (l : List Nat) (d : Int) (i : Nat), (∀ j c, l[j]? = some c → (c = 38 ∨ c = 124) → d + dep (l.take j) ≠ 0) → findM d i (l ++ S) = findM (d + dep l) (i + l.length) S
  | [], d, i, _ => by
    have : dep [] = 0 := by decide
    rw [this, Int.add_zero]
    rfl
  | c :: l, d, i, h => by
    have h0 := h 0 c rfl
    rw [List.take_zero, show dep [] = 0 by decide, Int.add_zero] at h0
    have step : ∀ d' : Int, d' = d + dep [c] → findM d' (i + 1) (l ++ S) = findM (d + dep (c :: l)) (i + (c :: l).length) S := fun d' hd => by
      rw [findM_app S l d' (i + 1) (fun j x hj hx => by
        have := h (j + 1) x hj hx
        rw [List.take_succ_cons, dep_c] at this
        rw [hd]
        omega), hd, dep_c c l, List.length_cons, Int.add_assoc, show i + 1 + l.length = i + (l.length + 1) by omega]
    show findM d i (c :: (l ++ S)) = _
    rw [findM_cons]
    by_cases c40 : c = 40
    · rw [if_pos c40]
      exact step _ (by rw [c40, show dep [40] = 1 by decide])
    · rw [if_neg c40]
      by_cases c41 : c = 41
      · rw [if_pos c41]
        exact step _ (by rw [c41, show dep [41] = -1 by decide]; rfl)
      · rw [if_neg c41, if_neg (fun w' => h0 w'.1 w'.2)]
        refine step _ ?_
        have : dep [c] = 0 := by
          unfold dep
          rw [List.count_singleton, List.count_singleton]
          simp [c40, c41]
        omega
theorem midM_of {and : Bool} {l r : Pt} (hl : Bal (tcodes l)) : midM (tx (inner and l r)) = some ((tcodes l).length + 1) := by
  have il : (tx (inner and l r)).cps.toList = tcodes l ++ ([32, signC and, 32] ++ tcodes r) := tx_list _
  have hf : findM 0 0 (tx (inner and l r)).cps.toList = some ((tcodes l).length + 1) := by
    rw [il, findM_app _ _ 0 0 (fun j c hj hc => by rw [Int.zero_add]; exact hl.in_ j c hj hc), hl.zero]
    show findM 0 (0 + (tcodes l).length) (32 :: signC and :: 32 :: tcodes r) = _
    rw [Nat.zero_add]
    unfold findM
    rw [if_neg (by decide), if_neg (by decide), if_neg (by decide)]
    unfold findM
    cases and
    · rw [if_neg (by decide), if_neg (by decide), if_pos (by decide)]
    · rw [if_neg (by decide), if_neg (by decide), if_pos (by decide)]
  have hs : sepAt (tx (inner and l r)) ((tcodes l).length + 1) = true := by
    unfold sepAt
    have e1 : (((tcodes l).length + 1 : Nat) : Int) - 1 = (((tcodes l).length : Nat) : Int) := by omega
    have e2 : (((tcodes l).length + 1 : Nat) : Int) + 2 = (((tcodes l).length + 3 : Nat) : Int) := by omega
    have e3 : cutS (tx (inner and l r)) (some (((tcodes l).length : Nat) : Int)) (some (((tcodes l).length + 3 : Nat) : Int)) = (if and = true then (" & " : Str) else " | ") := by
      rw [cut_in, il, List.drop_left, show (tcodes l).length + 3 - (tcodes l).length = 3 by omega]
      cases and
      · show tx [32, 124, 32] = (" | " : Str)
        decide +kernel
      · show tx [32, 38, 32] = (" & " : Str)
        decide +kernel
    rw [e1, e2, e3, decide_eq_true (by omega)]
    cases and <;> decide +kernel
  unfold midM
  rw [hf]
  show (if sepAt _ _ = true then _ else _) = _
  rw [if_pos hs]
theorem pattM_of : ∀ {t : Pt} (d : Nat), PtG t → t.leaves ≤ 3 → t.depth ≤ d → pattM d t.text = some t
  | .f ps, d, h, _, _ => by
    rw [pattM_eq]
    show (match formM (Txt.join "" ps) with | some r => r | none => _) = _
    rw [formM_of h]
  | .n and l r, 0, _, _, hd => by
    have hd : max l.depth r.depth + 1 ≤ 0 := hd
    omega
  | .n and l r, d + 1, h, h3, hd => by
    have hd : max l.depth r.depth + 1 ≤ d + 1 := hd
    have h3 : l.leaves + r.leaves ≤ 3 := h3
    have l1 := l.leaves_pos
    have l2 := r.leaves_pos
    have hc : (Pt.n and l r).text.cps.toList = 40 :: (inner and l r ++ [41]) := tcodes_n and l r
    have bl := bal_text h.1
    have hm : midT (Pt.n and l r).text = tx (inner and l r) := cut_mid hc
    have il : (tx (inner and l r)).cps.toList = tcodes l ++ ([32, signC and, 32] ++ tcodes r) := tx_list _
    rw [pattM_eq, formM_40 hc]
    show joinM (pattM d) (Pt.n and l r).text = _
    unfold joinM
    rw [starts_n hc, ends_n (X := 40 :: inner and l r) (by rw [hc]; rfl), if_pos (by decide), hm, midM_of bl]
    have e1 : (((tcodes l).length + 1 : Nat) : Int) - 1 = (((tcodes l).length : Nat) : Int) := by omega
    have e2 : (((tcodes l).length + 1 : Nat) : Int) + 2 = (((tcodes l).length + 3 : Nat) : Int) := by omega
    have cl : cutS (tx (inner and l r)) none (some (((tcodes l).length : Nat) : Int)) = l.text := by
      rw [cut_lt, il, List.take_left]
      exact tx_of _
    have cr : cutS (tx (inner and l r)) (some (((tcodes l).length + 3 : Nat) : Int)) none = r.text := by
      rw [cut_ge, il, List.drop_append, List.drop_of_length_le (by omega), show (tcodes l).length + 3 - (tcodes l).length = 3 by omega]
      exact tx_of _
    have am : ampAt (tx (inner and l r)) ((tcodes l).length + 1) = and := by
      unfold ampAt
      rw [il, List.getElem?_append_right (by omega), show (tcodes l).length + 1 - (tcodes l).length = 1 by omega]
      show decide (some (signC and) = some 38) = and
      cases and <;> decide +kernel
    show (match pattM d (cutS (tx (inner and l r)) none (some ((((tcodes l).length + 1 : Nat) : Int) - 1))), pattM d (cutS (tx (inner and l r)) (some ((((tcodes l).length + 1 : Nat) : Int) + 2)) none) with
      | some l', some r' => if l'.leaves + r'.leaves ≤ 3 then some (Pt.n (ampAt (tx (inner and l r)) ((tcodes l).length + 1)) l' r') else none
      | _, _ => none) = _
    rw [e1, e2, cl, cr, pattM_of d h.1 (by omega) (by omega), pattM_of d h.2 (by omega) (by omega)]
    show (if l.leaves + r.leaves ≤ 3 then some (Pt.n (ampAt (tx (inner and l r)) ((tcodes l).length + 1)) l r) else none) = _
    rw [if_pos h3, am]
/-! the odd texts -/
def odd1 : List Str := ["", "<", ">a<", "<any", "any>>(", "<any><any>", "abcde", "<any>a<any>", "(a)", "(a & b", "a & b", "a | b"]
def odd2 : List Str := ["(a &b)", "(a& b)", "(a & )", "( & b)", "(a ^ b)", "(a & b) ", " (a & b)", "((a & b))", "()"]
def odd3 : List Str := ["(a & b & c)", "(a | b) | c", "((a & b) | (c & d))", "(a & b)c", "<Any>", "<digits", "a_b", "a\n"]
def odd4 : List Str := ["<word><word><word><word><word>", "a<digits>b<digits>c", "<digits>abcd<word>efghi", "(a && b)"]
def odd5 : List Str := ["(ab &cd)", "(ab & cd"]
def odd6 : List Str := [repS "(" 40 ++ "a", (repS "(a & " 20 ++ "a") ++ repS ")" 20, ")(", "(a & b))", "<any>(a & b)", "(a | abcde)"]
def oddS : List Str := ((((odd1 ++ odd2) ++ odd3) ++ odd4) ++ odd5) ++ odd6
theorem odd_none : ∀ z ∈ oddS, pattM 2 z = none ∧ z.length ≤ 1000 := by
  have h : (oddS.all fun z => (pattM 2 z).isNone && decide (z.length ≤ 1000)) = true := by decide +kernel
  intro z hz
  have := List.all_eq_true.mp h z hz
  rw [Bool.and_eq_true, decide_eq_true_eq, Option.isNone_iff_eq_none] at this
  exact this

/-! ### texts read, or refused -/
theorem partsM_len : ∀ (n : Nat) (l : List Nat) (ps : List Str), partsM n l = some ps → ps.length ≤ l.length ∧ ∀ p ∈ ps, p.length ≤ l.length
  | 0, _, _, h => by cases h
  | n + 1, l, ps, h => by
    unfold partsM at h
    by_cases h0 : l = []
    · rw [if_pos h0] at h
      rw [← Option.some.inj h]
      exact ⟨Nat.zero_le _, fun p hp => (nomatch hp)⟩
    · rw [if_neg h0] at h
      by_cases h1 : partS l = ""
      · rw [if_pos h1] at h
        cases h
      · rw [if_neg h1] at h
        obtain ⟨k1, k2⟩ := partS_len h1
        cases hr : partsM n (l.drop (partS l).length) with
        | none => rw [hr] at h; cases h
        | some qs =>
          rw [hr] at h
          rw [← Option.some.inj h]
          obtain ⟨j1, j2⟩ := partsM_len n _ qs hr
          rw [List.length_drop] at j1 j2
          refine ⟨by rw [List.length_cons]; omega, fun p hp => ?_⟩
          rcases List.mem_cons.mp hp with rfl | hp
          · exact k2
          · have := j2 p hp
            omega
theorem formM_some {z : Str} {ps : List Str} (h : partsM (z.length + 1) z.cps.toList = some ps) (hne : ps ≠ []) : formM z = some (if okB ps = true then some (.f ps) else none) := by
  unfold formM
  rw [h]
  cases ps with
  | nil => exact absurd rfl hne
  | cons _ _ => rfl
theorem formM_none {z : Str} (h : partsM (z.length + 1) z.cps.toList = none ∨ partsM (z.length + 1) z.cps.toList = some []) : formM z = none := by
  unfold formM
  rcases h with h | h <;> rw [h]
theorem pvs_of {H : Hp} {ps : List Str} (h : ∀ p ∈ ps, p.length ≤ 1000) : PVs H (ps.map V.str) := fun v hv => by
  obtain ⟨p, hp, rfl⟩ := List.mem_map.mp hv
  exact .str ⟨h p hp, trivial⟩
def GotR (CF CB CE : Addr) (r : Option Pt) (v : V) (H : Hp) : Prop := match r with | some t => ∃ x, v = .ref x ∧ PatAt CF CB CE H t x | none => v = .non
theorem GotR.ex {CF CB CE : Addr} {r : Option Pt} {v : V} {H H' : Hp} (h : GotR CF CB CE r v H) (e : Ex H H') : GotR CF CB CE r v H' := by
  cases r with
  | none => exact h
  | some t =>
    obtain ⟨x, hv, hp⟩ := h
    exact ⟨x, hv, hp.ex e⟩
theorem GotR.non {CF CB CE : Addr} {r : Option Pt} {v : V} {H : Hp} (h : GotR CF CB CE r v H) : decide (v = .non) = r.isNone := by
  cases r with
  | none => exact decide_eq_true h
  | some t =>
    obtain ⟨x, hv, _⟩ := h
    exact decide_eq_false fun w' => by rw [hv] at w'; cases w'
def spReadA (CF CB CE : Addr) (d : Nat) : Sp := fun vs H Q _ => ∃ z : Str, vs = [.str z, .int (d : Int)] ∧ z.length ≤ 1000 ∧ ∀ v H', Ex H H' → GotR CF CB CE (pattM d z) v H' → Q v H'
def spJoinA (CF CB CE : Addr) (d : Nat) : Sp := fun vs H Q _ => ∃ z : Str, vs = [.str z, .int (d : Int)] ∧ z.length ≤ 1000 ∧ ∀ v H', Ex H H' → GotR CF CB CE (joinAt d z) v H' → Q v H'
theorem et_isN {σ : L2.St} {G : Hp} {te : TE} {v : V} (h : Ev te σ G v) : EvT (tTest (tOp (fun x y H Q => y = .non ∧ Q (.bl (decide (x = .non))) H) te (tC .non))) σ G (decide (v = .non)) := et_test (ev_op h ev_c fun H1 e Q q => ⟨rfl, q H1 (Ex.refl _)⟩)
/-- Both(one, other), Either(one, other), in a try -/
theorem mkS_two {CF CB CE CN : Addr} {l r : Pt} {p q : Addr} {and : Bool} {i j : Nat} {σ : L2.St} {G : Hp} {Q : VK} {W : WX} (hi : σ[i]? = some (some (.ref p))) (hj : σ[j]? = some (some (.ref q))) (h : Two CF CB CE G l r p q) (qok : l.leaves + r.leaves ≤ 3 → ∀ x H', Ex G H' → PatAt CF CB CE H' (.n and l r) x → Q (.ref x) H')
    (qno : 3 < l.leaves + r.leaves → ∀ d H', Ex G H' → H' d = some (.xd [("at", .int 3)]) → W (.ref CN) (some d) σ H') :
    tMakeS (if and = true then CB else CE) (fun vs H Q E => spPairI (if and = true then CB else CE) CF CB CE CN (vs ++ []) H Q E) W (tCons (tVar i) (tCons (tVar j) tNil)) σ G Q := ⟨_, hi, _, hj, fun x dx hx hdx hne => by
  have hx1 : upd G dx (.own x) x = none := by
    rw [upd_ne (Ne.symm hne)]
    exact hx
  have e2 : Ex G (upd (upd G dx (.own x)) x (.ins (if and = true then CB else CE) dx [])) := (Ex.new hdx).trans (Ex.new hx1)
  refine ⟨x, dx, p, q, l, r, rfl, upd_same, h.ex e2, fun hn H1 e1 h1 => ⟨rfl, ?_⟩, fun hn d H1 e1 h1 => qno hn d H1 (e2.trans e1) h1⟩
  have e3 : Ex G H1 := fun b o hb => e1 b o (by
    rw [hide_ne (ne_of_none hb hx)]
    exact e2 b o hb)
  exact qok hn x H1 e3 (.n (and := and) h1 (h.1.ex e3) (h.2.1.ex e3))⟩
theorem ok__joined__v0 {f : Addr} {fd : FuncData} (F : Fun K "_joined" "_joined" s__joined f fd) (T : Txt K mg a_OPEN_PARTS C_Both C_Either C_Form C_GlueError C_NoForm C_NoText) : FnOk P w K mg base CX0 1 f fd ["text", "depth"] (spJoinA C_Form C_Both C_Either 0) := by
  refine F.ok sc__joined (fun vs H Q E h => ?_) (fun cdv A outer s0 H vs Q E hr h => ?_)
  · obtain ⟨z, rfl, _⟩ := h
    rfl
  · obtain ⟨z, rfl, hz, q⟩ := h
    refine ⟨_, (pss_cons (ps_if (PW.pt (pw_or (pt_cmpR op_eq (pv 1) pe_int (nomark _)) (pw_or1 (pt_not (PW.pt (pw_and (pt_val (pe_startswith (pv 0) pe_str)) (pw_and1 (pt_val (pe_endswith (pv 0) pe_str)))))))))
      (pss_one (ps_ret pe_non))
      pss_nil)
      (pss_cons ps_never
      (pss_cons ps_never
      (pss_cons ps_never
      (pss_cons ps_never
      (pss_cons ps_never
      (pss_cons ps_never
      (pss_one ps_never)))))))), ?_⟩
    refine q_when (b := true || false) (et_or (et_test (ev_op (ev_var rfl) ev_c rv_eqI)) fun w' => by cases w') (fun _ H1 e1 => ?_) (fun w' => by cases w')
    exact s_ret ev_c fun H2 e2 => q _ H2 (e1.trans e2) rfl
theorem ok__pattern_in__v0 {f : Addr} {fd : FuncData} (F : Fun K "_pattern_in" "_pattern_in" s__pattern_in f fd) (T : Txt K mg a_OPEN_PARTS C_Both C_Either C_Form C_GlueError C_NoForm C_NoText) (D__parts_of : Df P w K mg base "_parts_of" ["text"] 2 spPartsAny) (D_Form___init__ : DfSN P w K mg base "Form" C_Form 3 (spFormX C_Form C_NoForm))
    (D__joined__v0 : Df P w K mg base "_joined" ["text", "depth"] 1 (spJoinA C_Form C_Both C_Either 0)) : FnOk P w K mg base CX0 6 f fd ["text", "depth"] (spReadA C_Form C_Both C_Either 0) := by
  refine F.ok sc__pattern_in (fun vs H Q E h => ?_) (fun cdv A outer s0 H vs Q E hr h => ?_)
  · obtain ⟨z, rfl, _⟩ := h
    rfl
  · obtain ⟨z, rfl, hz, q⟩ := h
    refine ⟨_, (pss_cons (ps_set (i := 2) sc__pattern_in.nd rfl (Or.inl rfl) (pe_df D__parts_of (hr.mono (by decide)) (by rfl) (pa_cons (pv 0) pa_nil)))
      (pss_cons (ps_if (pt_cmpR op_isN (pv 2) pe_non (nomark _))
      (pss_one (ps_ret (pe_df D__joined__v0 (hr.mono (by decide)) (by rfl) (pa_cons (pv 0) (pa_cons (pv 1) pa_nil)))))
      pss_nil)
      (pss_one (ps_try_only (x := "NoForm") (c := .ref C_NoForm) rfl rfl ⟨rfl, by decide, .inl T.m_NoForm⟩ takes0 (fun W pn xe tk _ => (pss_one (ps_ret (pe_mkSN1 K rfl D_Form___init__ (hr.mono (by decide)) (by rfl) (takesN tk) (pv 2))))) (fun a oe cls d pn hz hf => (pss_one (ps_ret pe_non))))))), ?_⟩
    rw [pattM_eq] at q
    have zl := str_len z
    refine ⟨_, rfl, z, rfl, hz, fun ps l H1 hp hne hl e1 h1 => ?_, fun hp H1 e1 => ?_⟩
    · rw [formM_some hp hne] at q
      obtain ⟨n1, n2⟩ := partsM_len _ _ _ hp
      refine q_when (b := false) (et_isNf (ev_var rfl) (by intro w'; cases w')) (fun w' => by cases w') (fun _ H2 e2 => ?_)
      refine mkS_form (i := 2) rfl (e2 _ _ h1) (by rw [List.length_map]; omega) (pvs_of fun p hp => by have := n2 p hp; omega) (fun ps' fm H3 ho e3 hF => ?_) (fun v d H3 hn e3 hd => ?_)
      · obtain ⟨ob, rfl⟩ := okB_of_all ho rfl
        refine q _ H3 ((e1.trans e2).trans e3) ?_
        show GotR _ _ _ (if okB ps' = true then some (Pt.f ps') else none) _ _
        rw [if_pos ob]
        exact ⟨fm, rfl, .f ⟨hF, AllOk.good ho⟩⟩
      · refine ⟨true, T.x_NoForm.s, fun _ a ha => ?_, fun w' => by cases w'⟩
        refine s_ret ev_c fun H4 e4 => q _ H4 (((e1.trans e2).trans e3).trans e4) ?_
        show GotR _ _ _ (if okB ps = true then some (Pt.f ps) else none) _ _
        rw [okB_no hn, if_neg (by decide)]
        rfl
    · rw [formM_none hp] at q
      refine q_when (b := true) (et_isNt (ev_var rfl)) (fun _ H2 e2 => ?_) (fun w' => by cases w')
      exact ⟨_, rfl, _, rfl, z, rfl, hz, fun v H3 e3 g => q v H3 ((e1.trans e2).trans e3) g⟩
theorem ok__joined__v1 {f : Addr} {fd : FuncData} (F : Fun K "_joined" "_joined" s__joined f fd) (T : Txt K mg a_OPEN_PARTS C_Both C_Either C_Form C_GlueError C_NoForm C_NoText) (D__middle : Df P w K mg base "_middle" ["inner"] 1 spMidAny) (D__pattern_in__v0 : Df P w K mg base "_pattern_in" ["text", "depth"] 6 (spReadA C_Form C_Both C_Either 0))
    (D_Both___init__ : DfIX P w K mg base "Both" C_Both ["self", "one", "other"] 5 (spPairI C_Both C_Form C_Both C_Either C_NoForm)) (D_Either___init__ : DfIX P w K mg base "Either" C_Either ["self", "one", "other"] 5 (spPairI C_Either C_Form C_Both C_Either C_NoForm)) : FnOk P w K mg base CX0 7 f fd ["text", "depth"] (spJoinA C_Form C_Both C_Either 1) := by
  refine F.ok sc__joined (fun vs H Q E h => ?_) (fun cdv A outer s0 H vs Q E hr h => ?_)
  · obtain ⟨z, rfl, _⟩ := h
    rfl
  · obtain ⟨z, rfl, hz, q⟩ := h
    refine ⟨_, (pss_cons (ps_if (PW.pt (pw_or (pt_cmpR op_eq (pv 1) pe_int (nomark _)) (pw_or1 (pt_not (PW.pt (pw_and (pt_val (pe_startswith (pv 0) pe_str)) (pw_and1 (pt_val (pe_endswith (pv 0) pe_str)))))))))
      (pss_one (ps_ret pe_non))
      pss_nil)
      (pss_cons (ps_set (i := 2) sc__joined.nd rfl (Or.inl rfl) (pe_slice sl_str (pv 0) (po_some pe_int) (po_some (pe_un un_neg pe_int))))
      (pss_cons (ps_set (i := 3) sc__joined.nd rfl (Or.inl rfl) (pe_df D__middle (hr.mono (by decide)) (by rfl) (pa_cons (pv 2) pa_nil)))
      (pss_cons (ps_if (pt_cmpR op_isN (pv 3) pe_non (nomark _))
      (pss_one (ps_ret pe_non))
      pss_nil)
      (pss_cons (ps_set (i := 4) sc__joined.nd rfl (Or.inl rfl) (pe_df D__pattern_in__v0 (hr.mono (by decide)) (by rfl) (pa_cons (pe_slice sl_str (pv 2) po_none (po_some (pe_op op_sub (pv 3) pe_int))) (pa_cons (pe_op op_sub (pv 1) pe_int) pa_nil))))
      (pss_cons (ps_set (i := 5) sc__joined.nd rfl (Or.inl rfl) (pe_df D__pattern_in__v0 (hr.mono (by decide)) (by rfl) (pa_cons (pe_slice sl_str (pv 2) (po_some (pe_op op_add (pv 3) pe_int)) po_none) (pa_cons (pe_op op_sub (pv 1) pe_int) pa_nil))))
      (pss_cons (ps_if (PW.pt (pw_or (pt_cmpR op_isN (pv 4) pe_non (nomark _)) (pw_or1 (pt_cmpR op_isN (pv 5) pe_non (nomark _)))))
      (pss_one (ps_ret pe_non))
      pss_nil)
      (pss_one (ps_try_only (x := "NoForm") (c := .ref C_NoForm) rfl rfl ⟨rfl, by decide, .inl T.m_NoForm⟩ takes0 (fun W pn xe tk _ => (pss_one (ps_ret (pe_ifExp (pt_cmpR op_eq (pe_ix ix_str (pv 2) (pv 3) (fun _ _ => rfl)) pe_str (nomark _)) (pe_mkIXS (ds := []) D_Both___init__ (hr.mono (by decide)) (by rfl) tk (pa_cons (pv 4) (pa_cons (pv 5) pa_nil))) (pe_mkIXS (ds := []) D_Either___init__ (hr.mono (by decide)) (by rfl) tk (pa_cons (pv 4) (pa_cons (pv 5) pa_nil))))))) (fun a oe cls d pn hz hf => (pss_one (ps_ret pe_non)))))))))))), ?_⟩
    change ∀ v H', Ex H H' → GotR _ _ _ (joinM (pattM 0) z) v H' → Q v H' at q
    unfold joinM at q
    refine q_when (b := false || !(Txt.startswith z "(" && Txt.endswith z ")")) (et_or (et_test (ev_is (ev_op (ev_var rfl) ev_c rv_eqI) (by decide))) fun _ => et_not (et_and (et_B (fun H1 e Q' q' => ⟨_, rfl, ⟨_, rfl⟩, _, _, rfl, rfl, q' H1 (Ex.refl _)⟩)) fun _ => et_B (fun H1 e Q' q' => ⟨_, rfl, ⟨_, rfl⟩, _, _, rfl, rfl, q' H1 (Ex.refl _)⟩))) (fun hb H1 e1 => ?_) (fun hb H1 e1 => ?_)
    · have hb : (Txt.startswith z "(" && Txt.endswith z ")") = false := (by decide : ∀ b : Bool, (false || !b) = true → b = false) _ hb
      rw [hb, if_neg (by decide)] at q
      exact s_ret ev_c fun H2 e2 => q _ H2 (e1.trans e2) rfl
    have hb : (Txt.startswith z "(" && Txt.endswith z ")") = true := (by decide : ∀ b : Bool, (false || !b) = false → b = true) _ hb
    rw [hb, if_pos rfl] at q
    obtain ⟨M, hM⟩ := wrap_of hb
    have hy : (midT z).length ≤ 1000 := by
      show (cutS z (some 1) (some (-1))).length ≤ 1000
      rw [cut_mid hM, str_len, tx_list]
      have := congrArg List.length hM
      rw [← str_len] at this
      simp at this
      omega
    refine q_asg (v := .str (midT z)) (ev_slS (zt := z) (ev_var rfl) (eo_some ev_c) (eo_some (ev_neg ev_c)) (by omega)) fun H2 e2 => ?_
    generalize midT z = y at hy q
    have yl := str_len y
    refine q_asg (v := optV (midM y)) (ev_call (ea_cons (ev_var rfl) ea_nil) fun H3 e3 Q' q' E' => ⟨y, rfl, hy, q'⟩) fun H3 e3 => ?_
    cases hm : midM y with
    | none =>
      rw [hm] at q
      exact q_when (b := true) (et_isNt (ev_var rfl)) (fun _ H4 e4 => s_ret ev_c fun H5 e5 => q _ H5 ((((e1.trans e2).trans e3).trans e4).trans e5) rfl) (fun w' => by cases w')
    | some i =>
    rw [hm] at q
    obtain ⟨h0, and, hyc, ha⟩ := sep_of (mid_sep hm)
    refine q_when (b := false) (et_isNf (ev_var rfl) (by intro w'; cases w')) (fun w' => by cases w') (fun _ H4 e4 => ?_)
    have cutlen : ∀ (lo hi : Option Int), (cutS y lo hi).length ≤ y.length := fun lo hi => by
      unfold cutS
      rw [str_len]
      show (((y.cps.toList.drop _).take _).toArray.toList).length ≤ y.length
      rw [List.toList_toArray, List.length_take, List.length_drop, ← yl]
      omega
    have hyl := cutlen none (some ((i : Int) - 1))
    have hyr := cutlen (some ((i : Int) + 2)) none
    change ∀ v H', Ex H H' → GotR _ _ _ (match pattM 0 (cutS y none (some ((i : Int) - 1))), pattM 0 (cutS y (some ((i : Int) + 2)) none) with
      | some l, some r => if l.leaves + r.leaves ≤ 3 then some (Pt.n (ampAt y i) l r) else none
      | _, _ => none) v H' → Q v H' at q
    refine (ev_slS (zt := y) (lo := none) (hi := some ((i : Int) - 1)) (ev_var rfl) eo_none (eo_some (ev_op (ev_var rfl) ev_c rv_I0)) (by omega) : Ev _ _ H4 (.str (cutS y none (some ((i : Int) - 1))))) H4 (Ex.refl _) _ fun H5 e5 => ?_
    refine ⟨_, rfl, _, _, rfl, rfl, _, rfl, by omega, fun v1 H6 e6 g1 => ?_⟩
    refine (ev_slS (zt := y) (lo := some ((i : Int) + 2)) (hi := none) (ev_var rfl) (eo_some (ev_op (ev_var rfl) ev_c rv_I0)) eo_none (by omega) : Ev _ _ H6 (.str (cutS y (some ((i : Int) + 2)) none))) H6 (Ex.refl _) _ fun H7 e7 => ?_
    refine ⟨_, rfl, _, _, rfl, rfl, _, rfl, by omega, fun v2 H8 e8 g2 => ?_⟩
    have T1 := pattM_text 0 (cutS y none (some ((i : Int) - 1)))
    have T2 := pattM_text 0 (cutS y (some ((i : Int) + 2)) none)
    generalize pattM 0 (cutS y none (some ((i : Int) - 1))) = r1 at q g1 T1
    generalize pattM 0 (cutS y (some ((i : Int) + 2)) none) = r2 at q g2 T2
    have e18 := ((((((e1.trans e2).trans e3).trans e4).trans e5).trans e6).trans e7).trans e8
    have g1 := g1.ex (e7.trans e8)
    refine q_when (b := r1.isNone || r2.isNone) (et_or (et_is (et_isN (ev_var rfl)) g1.non) fun _ => et_is (et_isN (ev_var rfl)) g2.non) (fun hb H9 e9 => ?_) (fun hb H9 e9 => ?_)
    · refine s_ret ev_c fun H10 e10 => q _ H10 ((e18.trans e9).trans e10) ?_
      cases r1 with
      | none => rfl
      | some l =>
        cases r2 with
        | none => rfl
        | some r => cases hb
    cases r1 with
    | none => cases hb
    | some l =>
    cases r2 with
    | none => cases hb
    | some r =>
    obtain ⟨x1, rfl, hx1⟩ := g1
    obtain ⟨x2, rfl, hx2⟩ := g2
    obtain ⟨_, _, l3, ld⟩ := T1 l rfl
    obtain ⟨_, _, r3, rd⟩ := T2 r rfl
    change ∀ v H', Ex H H' → GotR _ _ _ (if l.leaves + r.leaves ≤ 3 then some (Pt.n (ampAt y i) l r) else none) v H' → Q v H' at q
    rw [ha] at q
    have two : Two C_Form C_Both C_Either H9 l r x1 x2 := ⟨hx1.ex e9, hx2.ex e9, by omega, by omega, l3, r3⟩
    have ix : atI y.cps.toList (i : Int) = some (signC and) := by
      have hl : y.cps.toList[i]? = some (signC and) := by
        have hlen : (y.cps.toList.take (i - 1)).length = i - 1 := by
          have := congrArg List.length hyc
          rw [List.length_append, List.length_append, List.length_take, List.length_drop] at this
          rw [List.length_take]
          simp only [List.length_cons, List.length_nil] at this
          omega
        rw [hyc, List.getElem?_append_right (by omega), hlen, show i - (i - 1) = 1 by omega]
        rfl
      have := (List.getElem?_eq_some_iff.mp hl).1
      unfold atI ixN
      rw [if_pos (by omega), if_pos (by omega)]
      exact hl
    have tst : EvT (tTest (tOp rEq (tOp rIxS (tVar 2) (tVar 3)) (tC (.str "&")))) _ H9 and := et_test (ev_is (ev_op (ev_op (σ := [some (.str z), some (.int ((1 : Nat) : Int)), some (.str y), some (.int (i : Int)), some (.ref x1), some (.ref x2)]) (ev_var rfl) (ev_var rfl) (rv_ixS (by omega) ix)) ev_c rv_eqS) (by cases and <;> decide +kernel))
    have e19 := e18.trans e9
    refine tst H9 (Ex.refl _) _ fun H10 e10 => ?_
    have two10 := two.ex e10
    cases and with
    | true =>
      refine mkS_two (and := true) (CN := C_NoForm) (i := 4) (j := 5) rfl rfl two10 (fun hn x H11 e11 hx => ?_) (fun hn d H11 e11 hd => ?_)
      · refine q _ H11 ((e19.trans e10).trans e11) ?_
        rw [if_pos hn]
        exact ⟨x, rfl, hx⟩
      · refine ⟨true, T.x_NoForm.s, fun _ a ha => ?_, fun w' => by cases w'⟩
        refine s_ret ev_c fun H12 e12 => q _ H12 (((e19.trans e10).trans e11).trans e12) ?_
        rw [if_neg (by omega)]
        rfl
    | false =>
      refine mkS_two (and := false) (CN := C_NoForm) (i := 4) (j := 5) rfl rfl two10 (fun hn x H11 e11 hx => ?_) (fun hn d H11 e11 hd => ?_)
      · refine q _ H11 ((e19.trans e10).trans e11) ?_
        rw [if_pos hn]
        exact ⟨x, rfl, hx⟩
      · refine ⟨true, T.x_NoForm.s, fun _ a ha => ?_, fun w' => by cases w'⟩
        refine s_ret ev_c fun H12 e12 => q _ H12 (((e19.trans e10).trans e11).trans e12) ?_
        rw [if_neg (by omega)]
        rfl
theorem ok__pattern_in__v1 {f : Addr} {fd : FuncData} (F : Fun K "_pattern_in" "_pattern_in" s__pattern_in f fd) (T : Txt K mg a_OPEN_PARTS C_Both C_Either C_Form C_GlueError C_NoForm C_NoText) (D__parts_of : Df P w K mg base "_parts_of" ["text"] 2 spPartsAny) (D_Form___init__ : DfSN P w K mg base "Form" C_Form 3 (spFormX C_Form C_NoForm))
    (D__joined__v1 : Df P w K mg base "_joined" ["text", "depth"] 7 (spJoinA C_Form C_Both C_Either 1)) : FnOk P w K mg base CX0 8 f fd ["text", "depth"] (spReadA C_Form C_Both C_Either 1) := by
  refine F.ok sc__pattern_in (fun vs H Q E h => ?_) (fun cdv A outer s0 H vs Q E hr h => ?_)
  · obtain ⟨z, rfl, _⟩ := h
    rfl
  · obtain ⟨z, rfl, hz, q⟩ := h
    refine ⟨_, (pss_cons (ps_set (i := 2) sc__pattern_in.nd rfl (Or.inl rfl) (pe_df D__parts_of (hr.mono (by decide)) (by rfl) (pa_cons (pv 0) pa_nil)))
      (pss_cons (ps_if (pt_cmpR op_isN (pv 2) pe_non (nomark _))
      (pss_one (ps_ret (pe_df D__joined__v1 (hr.mono (by decide)) (by rfl) (pa_cons (pv 0) (pa_cons (pv 1) pa_nil)))))
      pss_nil)
      (pss_one (ps_try_only (x := "NoForm") (c := .ref C_NoForm) rfl rfl ⟨rfl, by decide, .inl T.m_NoForm⟩ takes0 (fun W pn xe tk _ => (pss_one (ps_ret (pe_mkSN1 K rfl D_Form___init__ (hr.mono (by decide)) (by rfl) (takesN tk) (pv 2))))) (fun a oe cls d pn hz hf => (pss_one (ps_ret pe_non))))))), ?_⟩
    rw [pattM_eq] at q
    have zl := str_len z
    refine ⟨_, rfl, z, rfl, hz, fun ps l H1 hp hne hl e1 h1 => ?_, fun hp H1 e1 => ?_⟩
    · rw [formM_some hp hne] at q
      obtain ⟨n1, n2⟩ := partsM_len _ _ _ hp
      refine q_when (b := false) (et_isNf (ev_var rfl) (by intro w'; cases w')) (fun w' => by cases w') (fun _ H2 e2 => ?_)
      refine mkS_form (i := 2) rfl (e2 _ _ h1) (by rw [List.length_map]; omega) (pvs_of fun p hp => by have := n2 p hp; omega) (fun ps' fm H3 ho e3 hF => ?_) (fun v d H3 hn e3 hd => ?_)
      · obtain ⟨ob, rfl⟩ := okB_of_all ho rfl
        refine q _ H3 ((e1.trans e2).trans e3) ?_
        show GotR _ _ _ (if okB ps' = true then some (Pt.f ps') else none) _ _
        rw [if_pos ob]
        exact ⟨fm, rfl, .f ⟨hF, AllOk.good ho⟩⟩
      · refine ⟨true, T.x_NoForm.s, fun _ a ha => ?_, fun w' => by cases w'⟩
        refine s_ret ev_c fun H4 e4 => q _ H4 (((e1.trans e2).trans e3).trans e4) ?_
        show GotR _ _ _ (if okB ps = true then some (Pt.f ps) else none) _ _
        rw [okB_no hn, if_neg (by decide)]
        rfl
    · rw [formM_none hp] at q
      refine q_when (b := true) (et_isNt (ev_var rfl)) (fun _ H2 e2 => ?_) (fun w' => by cases w')
      exact ⟨_, rfl, _, rfl, z, rfl, hz, fun v H3 e3 g => q v H3 ((e1.trans e2).trans e3) g⟩
theorem ok__joined__v2 {f : Addr} {fd : FuncData} (F : Fun K "_joined" "_joined" s__joined f fd) (T : Txt K mg a_OPEN_PARTS C_Both C_Either C_Form C_GlueError C_NoForm C_NoText) (D__middle : Df P w K mg base "_middle" ["inner"] 1 spMidAny) (D__pattern_in__v1 : Df P w K mg base "_pattern_in" ["text", "depth"] 8 (spReadA C_Form C_Both C_Either 1))
    (D_Both___init__ : DfIX P w K mg base "Both" C_Both ["self", "one", "other"] 5 (spPairI C_Both C_Form C_Both C_Either C_NoForm)) (D_Either___init__ : DfIX P w K mg base "Either" C_Either ["self", "one", "other"] 5 (spPairI C_Either C_Form C_Both C_Either C_NoForm)) : FnOk P w K mg base CX0 9 f fd ["text", "depth"] (spJoinA C_Form C_Both C_Either 2) := by
  refine F.ok sc__joined (fun vs H Q E h => ?_) (fun cdv A outer s0 H vs Q E hr h => ?_)
  · obtain ⟨z, rfl, _⟩ := h
    rfl
  · obtain ⟨z, rfl, hz, q⟩ := h
    refine ⟨_, (pss_cons (ps_if (PW.pt (pw_or (pt_cmpR op_eq (pv 1) pe_int (nomark _)) (pw_or1 (pt_not (PW.pt (pw_and (pt_val (pe_startswith (pv 0) pe_str)) (pw_and1 (pt_val (pe_endswith (pv 0) pe_str)))))))))
      (pss_one (ps_ret pe_non))
      pss_nil)
      (pss_cons (ps_set (i := 2) sc__joined.nd rfl (Or.inl rfl) (pe_slice sl_str (pv 0) (po_some pe_int) (po_some (pe_un un_neg pe_int))))
      (pss_cons (ps_set (i := 3) sc__joined.nd rfl (Or.inl rfl) (pe_df D__middle (hr.mono (by decide)) (by rfl) (pa_cons (pv 2) pa_nil)))
      (pss_cons (ps_if (pt_cmpR op_isN (pv 3) pe_non (nomark _))
      (pss_one (ps_ret pe_non))
      pss_nil)
      (pss_cons (ps_set (i := 4) sc__joined.nd rfl (Or.inl rfl) (pe_df D__pattern_in__v1 (hr.mono (by decide)) (by rfl) (pa_cons (pe_slice sl_str (pv 2) po_none (po_some (pe_op op_sub (pv 3) pe_int))) (pa_cons (pe_op op_sub (pv 1) pe_int) pa_nil))))
      (pss_cons (ps_set (i := 5) sc__joined.nd rfl (Or.inl rfl) (pe_df D__pattern_in__v1 (hr.mono (by decide)) (by rfl) (pa_cons (pe_slice sl_str (pv 2) (po_some (pe_op op_add (pv 3) pe_int)) po_none) (pa_cons (pe_op op_sub (pv 1) pe_int) pa_nil))))
      (pss_cons (ps_if (PW.pt (pw_or (pt_cmpR op_isN (pv 4) pe_non (nomark _)) (pw_or1 (pt_cmpR op_isN (pv 5) pe_non (nomark _)))))
      (pss_one (ps_ret pe_non))
      pss_nil)
      (pss_one (ps_try_only (x := "NoForm") (c := .ref C_NoForm) rfl rfl ⟨rfl, by decide, .inl T.m_NoForm⟩ takes0 (fun W pn xe tk _ => (pss_one (ps_ret (pe_ifExp (pt_cmpR op_eq (pe_ix ix_str (pv 2) (pv 3) (fun _ _ => rfl)) pe_str (nomark _)) (pe_mkIXS (ds := []) D_Both___init__ (hr.mono (by decide)) (by rfl) tk (pa_cons (pv 4) (pa_cons (pv 5) pa_nil))) (pe_mkIXS (ds := []) D_Either___init__ (hr.mono (by decide)) (by rfl) tk (pa_cons (pv 4) (pa_cons (pv 5) pa_nil))))))) (fun a oe cls d pn hz hf => (pss_one (ps_ret pe_non)))))))))))), ?_⟩
    change ∀ v H', Ex H H' → GotR _ _ _ (joinM (pattM 1) z) v H' → Q v H' at q
    unfold joinM at q
    refine q_when (b := false || !(Txt.startswith z "(" && Txt.endswith z ")")) (et_or (et_test (ev_is (ev_op (ev_var rfl) ev_c rv_eqI) (by decide))) fun _ => et_not (et_and (et_B (fun H1 e Q' q' => ⟨_, rfl, ⟨_, rfl⟩, _, _, rfl, rfl, q' H1 (Ex.refl _)⟩)) fun _ => et_B (fun H1 e Q' q' => ⟨_, rfl, ⟨_, rfl⟩, _, _, rfl, rfl, q' H1 (Ex.refl _)⟩))) (fun hb H1 e1 => ?_) (fun hb H1 e1 => ?_)
    · have hb : (Txt.startswith z "(" && Txt.endswith z ")") = false := (by decide : ∀ b : Bool, (false || !b) = true → b = false) _ hb
      rw [hb, if_neg (by decide)] at q
      exact s_ret ev_c fun H2 e2 => q _ H2 (e1.trans e2) rfl
    have hb : (Txt.startswith z "(" && Txt.endswith z ")") = true := (by decide : ∀ b : Bool, (false || !b) = false → b = true) _ hb
    rw [hb, if_pos rfl] at q
    obtain ⟨M, hM⟩ := wrap_of hb
    have hy : (midT z).length ≤ 1000 := by
      show (cutS z (some 1) (some (-1))).length ≤ 1000
      rw [cut_mid hM, str_len, tx_list]
      have := congrArg List.length hM
      rw [← str_len] at this
      simp at this
      omega
    refine q_asg (v := .str (midT z)) (ev_slS (zt := z) (ev_var rfl) (eo_some ev_c) (eo_some (ev_neg ev_c)) (by omega)) fun H2 e2 => ?_
    generalize midT z = y at hy q
    have yl := str_len y
    refine q_asg (v := optV (midM y)) (ev_call (ea_cons (ev_var rfl) ea_nil) fun H3 e3 Q' q' E' => ⟨y, rfl, hy, q'⟩) fun H3 e3 => ?_
    cases hm : midM y with
    | none =>
      rw [hm] at q
      exact q_when (b := true) (et_isNt (ev_var rfl)) (fun _ H4 e4 => s_ret ev_c fun H5 e5 => q _ H5 ((((e1.trans e2).trans e3).trans e4).trans e5) rfl) (fun w' => by cases w')
    | some i =>
    rw [hm] at q
    obtain ⟨h0, and, hyc, ha⟩ := sep_of (mid_sep hm)
    refine q_when (b := false) (et_isNf (ev_var rfl) (by intro w'; cases w')) (fun w' => by cases w') (fun _ H4 e4 => ?_)
    have cutlen : ∀ (lo hi : Option Int), (cutS y lo hi).length ≤ y.length := fun lo hi => by
      unfold cutS
      rw [str_len]
      show (((y.cps.toList.drop _).take _).toArray.toList).length ≤ y.length
      rw [List.toList_toArray, List.length_take, List.length_drop, ← yl]
      omega
    have hyl := cutlen none (some ((i : Int) - 1))
    have hyr := cutlen (some ((i : Int) + 2)) none
    change ∀ v H', Ex H H' → GotR _ _ _ (match pattM 1 (cutS y none (some ((i : Int) - 1))), pattM 1 (cutS y (some ((i : Int) + 2)) none) with
      | some l, some r => if l.leaves + r.leaves ≤ 3 then some (Pt.n (ampAt y i) l r) else none
      | _, _ => none) v H' → Q v H' at q
    refine (ev_slS (zt := y) (lo := none) (hi := some ((i : Int) - 1)) (ev_var rfl) eo_none (eo_some (ev_op (ev_var rfl) ev_c rv_I0)) (by omega) : Ev _ _ H4 (.str (cutS y none (some ((i : Int) - 1))))) H4 (Ex.refl _) _ fun H5 e5 => ?_
    refine ⟨_, rfl, _, _, rfl, rfl, _, rfl, by omega, fun v1 H6 e6 g1 => ?_⟩
    refine (ev_slS (zt := y) (lo := some ((i : Int) + 2)) (hi := none) (ev_var rfl) (eo_some (ev_op (ev_var rfl) ev_c rv_I0)) eo_none (by omega) : Ev _ _ H6 (.str (cutS y (some ((i : Int) + 2)) none))) H6 (Ex.refl _) _ fun H7 e7 => ?_
    refine ⟨_, rfl, _, _, rfl, rfl, _, rfl, by omega, fun v2 H8 e8 g2 => ?_⟩
    have T1 := pattM_text 1 (cutS y none (some ((i : Int) - 1)))
    have T2 := pattM_text 1 (cutS y (some ((i : Int) + 2)) none)
    generalize pattM 1 (cutS y none (some ((i : Int) - 1))) = r1 at q g1 T1
    generalize pattM 1 (cutS y (some ((i : Int) + 2)) none) = r2 at q g2 T2
    have e18 := ((((((e1.trans e2).trans e3).trans e4).trans e5).trans e6).trans e7).trans e8
    have g1 := g1.ex (e7.trans e8)
    refine q_when (b := r1.isNone || r2.isNone) (et_or (et_is (et_isN (ev_var rfl)) g1.non) fun _ => et_is (et_isN (ev_var rfl)) g2.non) (fun hb H9 e9 => ?_) (fun hb H9 e9 => ?_)
    · refine s_ret ev_c fun H10 e10 => q _ H10 ((e18.trans e9).trans e10) ?_
      cases r1 with
      | none => rfl
      | some l =>
        cases r2 with
        | none => rfl
        | some r => cases hb
    cases r1 with
    | none => cases hb
    | some l =>
    cases r2 with
    | none => cases hb
    | some r =>
    obtain ⟨x1, rfl, hx1⟩ := g1
    obtain ⟨x2, rfl, hx2⟩ := g2
    obtain ⟨_, _, l3, ld⟩ := T1 l rfl
    obtain ⟨_, _, r3, rd⟩ := T2 r rfl
    change ∀ v H', Ex H H' → GotR _ _ _ (if l.leaves + r.leaves ≤ 3 then some (Pt.n (ampAt y i) l r) else none) v H' → Q v H' at q
    rw [ha] at q
    have two : Two C_Form C_Both C_Either H9 l r x1 x2 := ⟨hx1.ex e9, hx2.ex e9, by omega, by omega, l3, r3⟩
    have ix : atI y.cps.toList (i : Int) = some (signC and) := by
      have hl : y.cps.toList[i]? = some (signC and) := by
        have hlen : (y.cps.toList.take (i - 1)).length = i - 1 := by
          have := congrArg List.length hyc
          rw [List.length_append, List.length_append, List.length_take, List.length_drop] at this
          rw [List.length_take]
          simp only [List.length_cons, List.length_nil] at this
          omega
        rw [hyc, List.getElem?_append_right (by omega), hlen, show i - (i - 1) = 1 by omega]
        rfl
      have := (List.getElem?_eq_some_iff.mp hl).1
      unfold atI ixN
      rw [if_pos (by omega), if_pos (by omega)]
      exact hl
    have tst : EvT (tTest (tOp rEq (tOp rIxS (tVar 2) (tVar 3)) (tC (.str "&")))) _ H9 and := et_test (ev_is (ev_op (ev_op (σ := [some (.str z), some (.int ((2 : Nat) : Int)), some (.str y), some (.int (i : Int)), some (.ref x1), some (.ref x2)]) (ev_var rfl) (ev_var rfl) (rv_ixS (by omega) ix)) ev_c rv_eqS) (by cases and <;> decide +kernel))
    have e19 := e18.trans e9
    refine tst H9 (Ex.refl _) _ fun H10 e10 => ?_
    have two10 := two.ex e10
    cases and with
    | true =>
      refine mkS_two (and := true) (CN := C_NoForm) (i := 4) (j := 5) rfl rfl two10 (fun hn x H11 e11 hx => ?_) (fun hn d H11 e11 hd => ?_)
      · refine q _ H11 ((e19.trans e10).trans e11) ?_
        rw [if_pos hn]
        exact ⟨x, rfl, hx⟩
      · refine ⟨true, T.x_NoForm.s, fun _ a ha => ?_, fun w' => by cases w'⟩
        refine s_ret ev_c fun H12 e12 => q _ H12 (((e19.trans e10).trans e11).trans e12) ?_
        rw [if_neg (by omega)]
        rfl
    | false =>
      refine mkS_two (and := false) (CN := C_NoForm) (i := 4) (j := 5) rfl rfl two10 (fun hn x H11 e11 hx => ?_) (fun hn d H11 e11 hd => ?_)
      · refine q _ H11 ((e19.trans e10).trans e11) ?_
        rw [if_pos hn]
        exact ⟨x, rfl, hx⟩
      · refine ⟨true, T.x_NoForm.s, fun _ a ha => ?_, fun w' => by cases w'⟩
        refine s_ret ev_c fun H12 e12 => q _ H12 (((e19.trans e10).trans e11).trans e12) ?_
        rw [if_neg (by omega)]
        rfl

/-! ### a whole text read, or refused -/
def spWholeX (CF CT : Addr) : Sp := fun vs H Q E => ∃ (z : Str) (l : Addr) (ps : List Str), vs = [.str z, .ref l] ∧ H l = some (.lst (ps.map V.str)) ∧ ps.length ≤ 1000 ∧ (∀ p ∈ ps, p.length ≤ 1000) ∧ (okB ps = true → ∀ x H', Ex H H' → FormR CF ps x H' → Q (.ref x) H') ∧
  (okB ps = false → ∀ d H', Ex H H' → H' d = some (.xd [("text", .str z)]) → E (.ref CT) (some d) H')
theorem ok_NoText___init__ {f : Addr} {fd : FuncData} (F : Fun K "__init__" "NoText.__init__" s_NoText___init__ f fd) (T : Txt K mg a_OPEN_PARTS C_Both C_Either C_Form C_GlueError C_NoForm C_NoText) : FnOk P w K mg base CX0 1 f fd ["self", "text"] (spXI C_NoText "text") := by
  refine F.ok sc_NoText___init__ (fun vs H Q E h => ?_) (fun cdv A outer s0 H vs Q E hr h => ?_)
  · obtain ⟨a, v, rfl, _⟩ := h
    rfl
  · obtain ⟨a, v, rfl, ha, q⟩ := h
    refine ⟨_, (pss_one (ps_ost (pv 0) (pv 1))), ?_⟩
    exact ⟨_, rfl, _, rfl, a, C_NoText, rfl, T.x_NoText.o, T.f_NoText_text, .inl ⟨ha, q⟩⟩
theorem okh_NoText___init__ {f : Addr} {fd : FuncData} (F : Fun K "__init__" "NoText.__init__" s_NoText___init__ f fd) (T : Txt K mg a_OPEN_PARTS C_Both C_Either C_Form C_GlueError C_NoForm C_NoText) : L2H.FnH P w K mg base CX0 1 f fd ["self", "text"] (spXI C_NoText "text") := by
  refine Fun.okH F sc_NoText___init__ (fun vs H Q E h => ?_) (fun cdv A outer s0 H vs Q E p hot hr h => ?_)
  · obtain ⟨a, v, rfl, _⟩ := h
    rfl
  · obtain ⟨a, v, rfl, ha, q⟩ := h
    refine ⟨_, (pss_one (ps_ost (pv 0) (pv 1))), ?_⟩
    exact ⟨_, rfl, _, rfl, a, C_NoText, rfl, T.x_NoText.o, T.f_NoText_text, .inl ⟨ha, q⟩⟩
theorem okx__whole_form {f : Addr} {fd : FuncData} (F : Fun K "_whole_form" "_whole_form" s__whole_form f fd) (T : Txt K mg a_OPEN_PARTS C_Both C_Either C_Form C_GlueError C_NoForm C_NoText) (D_Form___init__ : DfSN P w K mg base "Form" C_Form 3 (spFormX C_Form C_NoForm)) (D_NoText___init__H : DfHX P w K mg base "NoText" C_NoText ["self", "text"] 1 (spXI C_NoText "text")) :
    FnOk P w K mg base (L2.CX P w) 5 f fd ["text", "parts"] (spWholeX C_Form C_NoText) := by
  refine F.okX sc__whole_form (fun vs H Q E h => ?_) (fun cdv A outer s0 H vs Q E hr h => ?_)
  · obtain ⟨z, l, ps, rfl, _⟩ := h
    rfl
  · obtain ⟨z, l, ps, rfl, hl, n1, n2, qok, qno⟩ := h
    refine ⟨_, (pss_one (ps_try_asX (x := "NoForm") (c := .ref C_NoForm) (i := 2) rfl rfl rfl rfl sc__whole_form.nd rfl rfl ⟨rfl, by decide, .inl T.m_NoForm⟩ (fun W pn xe tk => (pss_one (ps_ret (pe_mkSN1 K rfl D_Form___init__ (hr.mono (by decide)) (by rfl) tk (pv 1)))))
      (fun a oe cls d pn xe hz hf tk hot => (pss_one (ps_raiseXF K rfl (a0 := a) (i := 2) (q := (a, oe)) (cls := cls) (d := d) rfl D_NoText___init__H hot List.mem_cons_self hz tk (L2H.roomH_mark (hr.mono (by decide)) _) (by rfl) (pa_cons (pv 0) pa_nil) (here_name rfl rfl)))))), ?_⟩
    refine mkS_form (i := 1) rfl hl (by rw [List.length_map]; exact n1) (pvs_of n2) (fun ps' fm H3 ho e3 hF => ?_) (fun v d H3 hn e3 hd => ?_)
    · obtain ⟨ob, rfl⟩ := okB_of_all ho rfl
      exact qok ob fm H3 e3 ⟨hF, AllOk.good ho⟩
    · refine ⟨T.x_NoForm.s, fun a ha => ⟨⟨T.x_NoForm.o.exC, T.x_NoForm.o.tyC⟩, rfl, ?_⟩⟩
      exact mkX (C := C_NoText) (f := "text") (ev_var rfl) fun d2 H4 hd2 e4 h4 => qno (okB_no hn) d2 H4 (e3.trans e4) h4
def spReadX (CF CB CE CT : Addr) : Sp := fun vs H Q E => ∃ z : Str, vs = [.str z] ∧ z.length ≤ 1000 ∧ (∀ t x H', pattM 2 z = some t → Ex H H' → PatAt CF CB CE H' t x → Q (.ref x) H') ∧ (pattM 2 z = none → ∀ d H', Ex H H' → H' d = some (.xd [("text", .str z)]) → E (.ref CT) (some d) H')
theorem okx_read_pattern {f : Addr} {fd : FuncData} (F : Fun K "read_pattern" "read_pattern" s_read_pattern f fd) (T : Txt K mg a_OPEN_PARTS C_Both C_Either C_Form C_GlueError C_NoForm C_NoText) (D__parts_of : Df P w K mg base "_parts_of" ["text"] 2 spPartsAny) (D__whole_form : DfR P w K mg base "_whole_form" ["text", "parts"] 5 (spWholeX C_Form C_NoText))
    (D__joined__v2 : Df P w K mg base "_joined" ["text", "depth"] 9 (spJoinA C_Form C_Both C_Either 2)) (D_NoText___init__ : DfX P w K mg base "NoText" C_NoText ["self", "text"] 1 (spXI C_NoText "text")) : FnOk P w K mg base (L2.CX P w) 10 f fd ["text"] (spReadX C_Form C_Both C_Either C_NoText) := by
  refine F.okX sc_read_pattern (fun vs H Q E h => ?_) (fun cdv A outer s0 H vs Q E hr h => ?_)
  · obtain ⟨z, rfl, _⟩ := h
    rfl
  · obtain ⟨z, rfl, hz, qok, qno⟩ := h
    refine ⟨_, (pss_cons (ps_if (pt_not (pt_val (pe_callB call_isi (by rfl) T.n_isinstance (by decide +kernel) (pa_cons (pv 0) (pa_cons (pe_bltn (v := .ty "str") (by rfl) T.n_str (by decide +kernel) rfl) pa_nil)))))
      (pss_one (ps_raiseX D_NoText___init__ (hr.mono (by decide)) (by rfl) rfl (takes_of rfl rfl rfl rfl) (pa_cons (pv 0) pa_nil)))
      pss_nil)
      (pss_cons (ps_set (i := 1) sc_read_pattern.nd rfl (Or.inl rfl) (pe_df D__parts_of (hr.mono (by decide)) (by rfl) (pa_cons (pv 0) pa_nil)))
      (pss_cons (ps_if (pt_cmpR op_notN (pv 1) pe_non (nomark _))
      (pss_one (ps_ret (pe_dfR D__whole_form (hr.mono (by decide)) (by rfl) (takes_of rfl rfl rfl rfl) (pa_cons (pv 0) (pa_cons (pv 1) pa_nil)))))
      pss_nil)
      (pss_cons (ps_set (i := 2) sc_read_pattern.nd rfl (Or.inl rfl) (pe_df D__joined__v2 (hr.mono (by decide)) (by rfl) (pa_cons (pv 0) (pa_cons (pe_op op_sub (pe_cst T.c_MOST_FORMS (by rfl)) pe_int) pa_nil))))
      (pss_cons (ps_if (pt_cmpR op_isN (pv 2) pe_non (nomark _))
      (pss_one (ps_raiseX D_NoText___init__ (hr.mono (by decide)) (by rfl) rfl (takes_of rfl rfl rfl rfl) (pa_cons (pv 0) pa_nil)))
      pss_nil)
      (pss_one (ps_ret (pv 2)))))))), ?_⟩
    rw [pattM_eq] at qok qno
    have zl := str_len z
    refine q_when (b := false) (et_is (et_not (et_B (ev_isi (b := true) (ev_var rfl) (.base (.str _)) (by decide +kernel)))) rfl) (fun w' => by cases w') (fun _ H1 e1 => ?_)
    refine ⟨_, rfl, z, rfl, hz, fun ps l H2 hp hne hl e2 h2 => ?_, fun hp H2 e2 => ?_⟩
    · rw [formM_some hp hne] at qok qno
      obtain ⟨n1, n2⟩ := partsM_len _ _ _ hp
      refine q_when (b := true) (et_notNt (ev_var rfl) (by intro w'; cases w')) (fun _ H3 e3 => ?_) (fun w' => by cases w')
      refine ⟨_, rfl, _, rfl, z, l, ps, rfl, e3 _ _ h2, by omega, fun p hp => by have := n2 p hp; omega, fun ob x H4 e4 hF => ?_, fun ob d H4 e4 hd => ?_⟩
      · exact qok (.f ps) x H4 (by show (if okB ps = true then some (Pt.f ps) else none) = _; rw [if_pos ob]) (((e1.trans e2).trans e3).trans e4) (.f hF)
      · exact qno (by show (if okB ps = true then some (Pt.f ps) else none) = _; rw [ob, if_neg (by decide)]) d H4 (((e1.trans e2).trans e3).trans e4) hd
    · rw [formM_none hp] at qok qno
      refine q_when (b := false) (et_notNf (ev_var rfl)) (fun w' => by cases w') (fun _ H3 e3 => ?_)
      refine ⟨_, rfl, _, _, rfl, rfl, z, rfl, hz, fun v H4 e4 g => ?_⟩
      change ∀ t x H', joinAt 2 z = some t → _ at qok
      change joinAt 2 z = none → _ at qno
      generalize joinAt 2 z = r at g qok qno
      have e14 := ((e1.trans e2).trans e3).trans e4
      have tst : EvT (tTest (tOp (fun x y H Q => y = .non ∧ Q (.bl (decide (x = .non))) H) (tVar 2) (tC .non))) [some (.str z), some .non, some v] H4 r.isNone := et_is (et_isN (ev_var rfl)) g.non
      dsimp only [gName]
      refine q_when tst (fun hb H5 e5 => ?_) (fun hb H5 e5 => ?_)
      · cases r with
        | some t => cases hb
        | none => exact mkX (C := C_NoText) (f := "text") (ev_var rfl) fun d2 H6 hd2 e6 h6 => qno rfl d2 H6 ((e14.trans e5).trans e6) h6
      · cases r with
        | none => cases hb
        | some t =>
          obtain ⟨x, rfl, hx⟩ := g
          exact s_ret (ev_var rfl) fun H6 e6 => qok t x H6 rfl ((e14.trans e5).trans e6) (hx.ex (e5.trans e6))

/-! ### the law of spoiled texts -/
theorem Sh.ptg {ds : List (List Str)} (hg : ∀ ps ∈ ds, GoodP ps) : ∀ (sh : Sh) (i : Nat), i + sh.leaves ≤ ds.length → PtG (sh.pt ds i)
  | .f, i, h => by
    have h : i + 1 ≤ ds.length := h
    refine hg _ ?_
    rw [List.getD_eq_getElem?_getD, List.getElem?_eq_getElem (by omega)]
    exact List.getElem_mem _
  | .n _ l r, i, h => by
    have h : i + (l.leaves + r.leaves) ≤ ds.length := h
    exact ⟨l.ptg hg i (by omega), r.ptg hg (i + l.leaves) (by omega)⟩
def nineS : Str := "()&| <>a1"
def sg1 : Str := " !\"#$&'()*+,-./0123456789:;<=>?@ABCDEFGHIJKLMNOPQRSTUVWXYZ[\\]^_`"
def sg2 : Str := "abcdefghijklmnopqrstuvwxyz{|}~\n\t"
def lawSign (s : Int × Int) : Str × (Int × Int) :=
  if (take s 2).1 = 0 then (⟨#[sgn nineS (take (take s 2).2 9).1]⟩, (take (take s 2).2 9).2) else (⟨#[sgn (sg1 ++ sg2) (take (take s 2).2 96).1]⟩, (take (take s 2).2 96).2)
theorem lawSign_ok {s : Int × Int} (h : Pk s) : Pk (lawSign s).2 ∧ (lawSign s).1.length = 1 := by
  unfold lawSign
  split
  · exact ⟨take_pk (take_pk h), rfl⟩
  · exact ⟨take_pk (take_pk h), rfl⟩
theorem ok__law_sign {f : Addr} {fd : FuncData} (F : Fun K "_law_sign" "_law_sign" s__law_sign f fd) (T : Txt K mg a_OPEN_PARTS C_Both C_Either C_Form C_GlueError C_NoForm C_NoText) (D__law_take : Df P w K mg base "_law_take" ["pool", "many"] 1 spTake) : FnOk P w K mg base CX0 2 f fd ["pool"] (spPT lawSign) := by
  refine F.ok sc__law_sign (fun vs H Q E h => ?_) (fun cdv A outer s0 H vs Q E hr h => ?_)
  · obtain ⟨p, s, rfl, _⟩ := h
    rfl
  · obtain ⟨p, s, rfl, hp, hk, q⟩ := h
    refine ⟨_, (pss_cons (ps_set (i := 1) sc__law_sign.nd rfl (Or.inl rfl) pe_str)
      (pss_cons (ps_set (i := 1) sc__law_sign.nd rfl (Or.inl rfl) (pe_op op_add_str (pv 1) pe_str))
      (pss_cons (ps_if (pt_cmpR op_eq (pe_df D__law_take (hr.mono (by decide)) (by rfl) (pa_cons (pv 0) (pa_cons pe_int pa_nil))) pe_int (nomark _))
      (pss_one (ps_ret (pe_ix ix_str pe_str (pe_df D__law_take (hr.mono (by decide)) (by rfl) (pa_cons (pv 0) (pa_cons pe_int pa_nil))) (fun _ _ => rfl))))
      pss_nil)
      (pss_one (ps_ret (pe_ix ix_str (pv 1) (pe_df D__law_take (hr.mono (by decide)) (by rfl) (pa_cons (pv 0) (pa_cons pe_int pa_nil))) (fun _ _ => rfl))))))), ?_⟩
    have K0 := Kn.here hp
    unfold lawSign at q
    refine q_asg (v := .str sg1) ev_c fun H1 e1 => ?_
    refine q_asg (v := .str (sg1 ++ sg2)) (ev_op (ev_var rfl) ev_c (rv_cat (by decide +kernel))) fun H2 e2 => ?_
    have K2 := (K0.same e1).same e2
    have e12 : Ex (hide p H) H2 := hx_of (e1.trans e2)
    have hk1 : Pk (take s 2).2 := take_pk hk
    refine qp_when K2 (evtp_test (evp_op (evp_take rfl hk (by decide) (by decide)) (EvP.of ev_c) rv_eqI)) (fun hb H3 K3 e3 => ?_) (fun hb H3 K3 e3 => ?_)
    · rw [if_pos (of_decide_eq_true hb)] at q
      have t9 := take_lt (s := (take s 2).2) (n := 9) (by decide)
      refine sp_ret K3 (evp_op (EvP.of ev_c) (evp_take rfl hk1 (by decide) (by decide)) (rv_ixS (w := nineS) (by decide +kernel) (sgn_ix t9.1 (by rw [show nineS.length = 9 by decide +kernel]; exact t9.2)))) fun H4 K4 e4 => q H4 K4.ex K4.at_
    · rw [if_neg (of_decide_eq_false hb)] at q
      have t9 := take_lt (s := (take s 2).2) (n := 96) (by decide)
      refine sp_ret K3 (evp_op (EvP.of (ev_var rfl)) (evp_take rfl hk1 (by decide) (by decide)) (rv_ixS (w := sg1 ++ sg2) (by decide +kernel) (sgn_ix t9.1 (by rw [show (sg1 ++ sg2).length = 96 by decide +kernel]; exact t9.2)))) fun H4 K4 e4 => q H4 K4.ex K4.at_
def lawBent (s : Int × Int) (z : Str) : Str × (Int × Int) :=
  if (take (take s ((z.length : Int) + 1)).2 3).1 = 0 then ((cutS z none (some (take s ((z.length : Int) + 1)).1) ++ (lawSign (take (take s ((z.length : Int) + 1)).2 3).2).1) ++ cutS z (some (take s ((z.length : Int) + 1)).1) none, (lawSign (take (take s ((z.length : Int) + 1)).2 3).2).2)
  else if (take (take s ((z.length : Int) + 1)).2 3).1 = 1 then (cutS z none (some (take s ((z.length : Int) + 1)).1) ++ cutS z (some ((take s ((z.length : Int) + 1)).1 + 1)) none, (take (take s ((z.length : Int) + 1)).2 3).2)
  else ((cutS z none (some (take s ((z.length : Int) + 1)).1) ++ (lawSign (take (take s ((z.length : Int) + 1)).2 3).2).1) ++ cutS z (some ((take s ((z.length : Int) + 1)).1 + 1)) none, (lawSign (take (take s ((z.length : Int) + 1)).2 3).2).2)
theorem cut_len {z : Str} {lo hi : Option Int} : (cutS z lo hi).length ≤ z.length := by
  rw [str_len, str_len z]
  unfold cutS
  show ((z.cps.toList.drop _).take _).length ≤ _
  rw [List.length_take, List.length_drop]
  omega
theorem bent_ok {s : Int × Int} {z : Str} (h : Pk s) : Pk (lawBent s z).2 ∧ (lawBent s z).1.length ≤ 2 * z.length + 1 := by
  have hk : Pk (take (take s ((z.length : Int) + 1)).2 3).2 := take_pk (take_pk h)
  obtain ⟨h1, h2⟩ := lawSign_ok hk
  have c1 := cut_len (z := z) (lo := none) (hi := some (take s ((z.length : Int) + 1)).1)
  have c2 := cut_len (z := z) (lo := some (take s ((z.length : Int) + 1)).1) (hi := none)
  have c3 := cut_len (z := z) (lo := some ((take s ((z.length : Int) + 1)).1 + 1)) (hi := none)
  unfold lawBent
  split
  · exact ⟨h1, by rw [app_len, app_len]; omega⟩
  · split
    · exact ⟨hk, by rw [app_len]; omega⟩
    · exact ⟨h1, by rw [app_len, app_len]; omega⟩
def spBent : Sp := fun vs H Q _ => ∃ (p : Addr) (s : Int × Int) (z : Str), vs = [.ref p, .str z] ∧ H p = some (pl s) ∧ Pk s ∧ z.length ≤ 1000 ∧ RetP p (lawBent s z).2 (.str (lawBent s z).1) H Q
theorem ok__law_bent {f : Addr} {fd : FuncData} (F : Fun K "_law_bent" "_law_bent" s__law_bent f fd) (T : Txt K mg a_OPEN_PARTS C_Both C_Either C_Form C_GlueError C_NoForm C_NoText) (D__law_take : Df P w K mg base "_law_take" ["pool", "many"] 1 spTake) (D__law_sign : Df P w K mg base "_law_sign" ["pool"] 2 (spPT lawSign)) : FnOk P w K mg base CX0 3 f fd ["pool", "text"] spBent := by
  refine F.ok sc__law_bent (fun vs H Q E h => ?_) (fun cdv A outer s0 H vs Q E hr h => ?_)
  · obtain ⟨p, s, z, rfl, _⟩ := h
    rfl
  · obtain ⟨p, s, z, rfl, hp, hk, hz, q⟩ := h
    refine ⟨_, (pss_cons (ps_set (i := 2) sc__law_bent.nd rfl (Or.inl rfl) (pe_df D__law_take (hr.mono (by decide)) (by rfl) (pa_cons (pv 0) (pa_cons (pe_op op_add (pe_callB call_len_str (by rfl) T.n_len PySem.boot_len (pa_cons (pv 1) pa_nil)) pe_int) pa_nil))))
      (pss_cons (ps_set (i := 3) sc__law_bent.nd rfl (Or.inl rfl) (pe_df D__law_take (hr.mono (by decide)) (by rfl) (pa_cons (pv 0) (pa_cons pe_int pa_nil))))
      (pss_cons (ps_if (pt_cmpR op_eq (pv 3) pe_int (nomark _))
      (pss_one (ps_ret (pe_op op_add_str (pe_op op_add_str (pe_slice sl_str (pv 1) po_none (po_some (pv 2))) (pe_df D__law_sign (hr.mono (by decide)) (by rfl) (pa_cons (pv 0) pa_nil))) (pe_slice sl_str (pv 1) (po_some (pv 2)) po_none))))
      pss_nil)
      (pss_cons (ps_if (pt_cmpR op_eq (pv 3) pe_int (nomark _))
      (pss_one (ps_ret (pe_op op_add_str (pe_slice sl_str (pv 1) po_none (po_some (pv 2))) (pe_slice sl_str (pv 1) (po_some (pe_op op_add (pv 2) pe_int)) po_none))))
      pss_nil)
      (pss_one (ps_ret (pe_op op_add_str (pe_op op_add_str (pe_slice sl_str (pv 1) po_none (po_some (pv 2))) (pe_df D__law_sign (hr.mono (by decide)) (by rfl) (pa_cons (pv 0) pa_nil))) (pe_slice sl_str (pv 1) (po_some (pe_op op_add (pv 2) pe_int)) po_none)))))))), ?_⟩
    have K0 := Kn.here hp
    have hk1 : Pk (take s ((z.length : Int) + 1)).2 := take_pk hk
    have hk2 : Pk (take (take s ((z.length : Int) + 1)).2 3).2 := take_pk hk1
    obtain ⟨_, sl⟩ := lawSign_ok hk2
    refine qp_asg K0 (evp_call (eap_cons (EvP.of (ev_var rfl)) (eap_cons (EvP.of (ev_op (ev_lenS (ev_var rfl) (by omega)) ev_c rv_add)) eap_nil)) (sp_take hk (by omega) (by omega))) fun H1 K1 e1 => ?_
    refine qp_asg K1 (evp_take rfl hk1 (by decide) (by decide)) fun H2 K2 e2 => ?_
    have c1 := cut_len (z := z) (lo := none) (hi := some (take s ((z.length : Int) + 1)).1)
    have c2 := cut_len (z := z) (lo := some (take s ((z.length : Int) + 1)).1) (hi := none)
    have c3 := cut_len (z := z) (lo := some ((take s ((z.length : Int) + 1)).1 + 1)) (hi := none)
    unfold lawBent at q
    refine q_when (b := decide ((take (take s ((z.length : Int) + 1)).2 3).1 = 0)) (et_test (ev_op (ev_var rfl) ev_c rv_eqI)) (fun hb H3 e3 => ?_) (fun hb H3 e3 => ?_)
    · rw [if_pos (of_decide_eq_true hb)] at q
      refine sp_ret (K2.same e3) (evp_op (evp_op (EvP.of (ev_slS (ev_var rfl) eo_none (eo_some (ev_var rfl)) (by omega))) (evp_pt rfl hk2) (rv_cat ?_)) (EvP.of (ev_slS (ev_var rfl) (eo_some (ev_var rfl)) eo_none (by omega))) (rv_cat ?_)) fun H4 K4 e4 => q H4 K4.ex K4.at_
      · omega
      · rw [app_len]
        omega
    · rw [if_neg (of_decide_eq_false hb)] at q
      refine q_when (b := decide ((take (take s ((z.length : Int) + 1)).2 3).1 = 1)) (et_test (ev_op (ev_var rfl) ev_c rv_eqI)) (fun hc H4 e4 => ?_) (fun hc H4 e4 => ?_)
      · rw [if_pos (of_decide_eq_true hc)] at q
        refine sp_ret ((K2.same e3).same e4) (EvP.of (ev_op (ev_slS (ev_var rfl) eo_none (eo_some (ev_var rfl)) (by omega)) (ev_slS (ev_var rfl) (eo_some (ev_op (ev_var rfl) ev_c rv_add)) eo_none (by omega)) (rv_cat (by omega)))) fun H5 K5 e5 => q H5 K5.ex K5.at_
      · rw [if_neg (of_decide_eq_false hc)] at q
        refine sp_ret ((K2.same e3).same e4) (evp_op (evp_op (EvP.of (ev_slS (ev_var rfl) eo_none (eo_some (ev_var rfl)) (by omega))) (evp_pt rfl hk2) (rv_cat ?_)) (EvP.of (ev_slS (ev_var rfl) (eo_some (ev_op (ev_var rfl) ev_c rv_add)) eo_none (by omega))) (rv_cat ?_)) fun H5 K5 e5 => q H5 K5.ex K5.at_
        · omega
        · rw [app_len]
          omega
def spOdd : Sp := fun vs H Q _ => vs = [] ∧ ∀ l H', H l = none → Ex H H' → H' l = some (.lst (oddS.map V.str)) → Q (.ref l) H'
theorem ok__law_odd {f : Addr} {fd : FuncData} (F : Fun K "_law_odd" "_law_odd" s__law_odd f fd) (T : Txt K mg a_OPEN_PARTS C_Both C_Either C_Form C_GlueError C_NoForm C_NoText) : FnOk P w K mg base CX0 1 f fd [] spOdd := by
  refine F.ok sc__law_odd (fun vs H Q E h => ?_) (fun cdv A outer s0 H vs Q E hr h => ?_)
  · obtain ⟨rfl, _⟩ := h
    rfl
  · obtain ⟨rfl, q⟩ := h
    refine ⟨_, (pss_cons (ps_set (i := 0) sc__law_odd.nd rfl (Or.inl rfl) (pe_lst (pa_cons pe_str (pa_cons pe_str (pa_cons pe_str (pa_cons pe_str (pa_cons pe_str (pa_cons pe_str (pa_cons pe_str (pa_cons pe_str (pa_cons pe_str (pa_cons pe_str (pa_cons pe_str (pa_cons pe_str pa_nil))))))))))))))
      (pss_cons (ps_set (i := 0) sc__law_odd.nd rfl (Or.inl rfl) (pe_op op_cat (pv 0) (pe_lst (pa_cons pe_str (pa_cons pe_str (pa_cons pe_str (pa_cons pe_str (pa_cons pe_str (pa_cons pe_str (pa_cons pe_str (pa_cons pe_str (pa_cons pe_str pa_nil))))))))))))
      (pss_cons (ps_set (i := 0) sc__law_odd.nd rfl (Or.inl rfl) (pe_op op_cat (pv 0) (pe_lst (pa_cons pe_str (pa_cons pe_str (pa_cons pe_str (pa_cons pe_str (pa_cons pe_str (pa_cons pe_str (pa_cons pe_str (pa_cons pe_str pa_nil)))))))))))
      (pss_cons (ps_set (i := 0) sc__law_odd.nd rfl (Or.inl rfl) (pe_op op_cat (pv 0) (pe_lst (pa_cons pe_str (pa_cons pe_str (pa_cons pe_str (pa_cons pe_str pa_nil)))))))
      (pss_cons (ps_set (i := 0) sc__law_odd.nd rfl (Or.inl rfl) (pe_op op_cat (pv 0) (pe_lst (pa_cons pe_str (pa_cons pe_str pa_nil)))))
      (pss_one (ps_ret (pe_op op_cat (pv 0) (pe_lst (pa_cons (pe_op op_add_str (pe_op op_mulS pe_str pe_int) pe_str) (pa_cons (pe_op op_add_str (pe_op op_add_str (pe_op op_mulS pe_str pe_int) pe_str) (pe_op op_mulS pe_str pe_int)) (pa_cons pe_str (pa_cons pe_str (pa_cons pe_str (pa_cons pe_str pa_nil))))))))))))))), ?_⟩
    refine q_asgL (xs := odd1.map V.str) (el_lst (ea_cons ev_c (ea_cons ev_c (ea_cons ev_c (ea_cons ev_c (ea_cons ev_c (ea_cons ev_c (ea_cons ev_c (ea_cons ev_c (ea_cons ev_c (ea_cons ev_c (ea_cons ev_c (ea_cons ev_c (ea_nil))))))))))))) (by decide)) fun l1 H1 hl1 e1 h1 => ?_
    refine q_asgL (xs := (odd1.map V.str) ++ odd2.map V.str) (el_cat (ev_var rfl) h1 (el_lst (ea_cons ev_c (ea_cons ev_c (ea_cons ev_c (ea_cons ev_c (ea_cons ev_c (ea_cons ev_c (ea_cons ev_c (ea_cons ev_c (ea_cons ev_c (ea_nil)))))))))) (by decide)) (by decide)) fun l2 H2 hl2 e2 h2 => ?_
    refine q_asgL (xs := ((odd1.map V.str) ++ odd2.map V.str) ++ odd3.map V.str) (el_cat (ev_var rfl) h2 (el_lst (ea_cons ev_c (ea_cons ev_c (ea_cons ev_c (ea_cons ev_c (ea_cons ev_c (ea_cons ev_c (ea_cons ev_c (ea_cons ev_c (ea_nil))))))))) (by decide)) (by decide)) fun l3 H3 hl3 e3 h3 => ?_
    refine q_asgL (xs := (((odd1.map V.str) ++ odd2.map V.str) ++ odd3.map V.str) ++ odd4.map V.str) (el_cat (ev_var rfl) h3 (el_lst (ea_cons ev_c (ea_cons ev_c (ea_cons ev_c (ea_cons ev_c (ea_nil))))) (by decide)) (by decide)) fun l4 H4 hl4 e4 h4 => ?_
    refine q_asgL (xs := ((((odd1.map V.str) ++ odd2.map V.str) ++ odd3.map V.str) ++ odd4.map V.str) ++ odd5.map V.str) (el_cat (ev_var rfl) h4 (el_lst (ea_cons ev_c (ea_cons ev_c (ea_nil))) (by decide)) (by decide)) fun l5 H5 hl5 e5 h5 => ?_
    have rp : ∀ (z y : Str) (n : Nat) {σ : L2.St} {H : Hp}, z.length ≤ 1000 → n ≤ 1000 → (repS z n).length + y.length ≤ 100000 → Ev (tOp (fun x y H Q => ∃ i j, x = .str i ∧ y = .str j ∧ i.length + j.length ≤ sizeLine ∧ Q (.str (i ++ j)) H) (tOp rMulS (tC (.str z)) (tC (.int (n : Int)))) (tC (.str y))) σ H (.str (repS z n ++ y)) := fun z y n {σ H} h1 h2 h3 => ev_op (ev_op ev_c ev_c (rv_rep (by omega) (by omega) h1)) ev_c (rv_cat h3)
    refine s_retL (xs := (((((odd1.map V.str) ++ odd2.map V.str) ++ odd3.map V.str) ++ odd4.map V.str) ++ odd5.map V.str) ++ odd6.map V.str) (el_cat (ev_var rfl) h5 (el_lst (ea_cons (rp "(" "a" 40 (by decide +kernel) (by decide) (by decide +kernel)) (ea_cons (ev_op (rp "(a & " "a" 20 (by decide +kernel) (by decide) (by decide +kernel)) (ev_op ev_c ev_c (rv_rep (n := 20) (by decide) (by decide) (by decide +kernel))) (rv_cat (by decide +kernel))) (ea_cons ev_c (ea_cons ev_c (ea_cons ev_c (ea_cons ev_c (ea_nil))))))) (by decide)) (by decide)) fun l6 H6 hl6 e6 h6 => q l6 H6 (fresh_back ((((e1.trans e2).trans e3).trans e4).trans e5) hl6) (((((e1.trans e2).trans e3).trans e4).trans e5).trans e6) (by
      rw [h6]
      unfold oddS
      simp only [List.map_append])
def EvPt (CF CB CE : Addr) (te : TE) (σ : L2.St) (G : Hp) (t : Pt) : Prop := ∀ H1, Ex G H1 → ∀ Q : VK, (∀ b H2, Ex H1 H2 → PatAt CF CB CE H2 t b → Q (.ref b) H2) → te σ H1 Q
theorem v_strN {CF CB CE : Addr} {σ : L2.St} {G : Hp} {te : TE} {t : Pt} {d : Nat} (h : EvPt CF CB CE te σ G t) (hd : t.depth ≤ d) (h3 : t.leaves ≤ 3) : Ev (tAlt (tCB (rStrOwn CF (spStrP CF CB CE none 0) E0) (tCons te tNil)) (tAlt (tCB (rStrOwn CB (spStrP CF CB CE (some true) d) E0) (tCons te tNil)) (tCB (rStrOwn CE (spStrP CF CB CE (some false) d) E0) (tCons te tNil)))) σ G (.str t.text) := fun H1 e Q q => by
  cases t with
  | f ps => exact .inl (h H1 e _ fun b H2 e2 hP => r_str (d := 0) hP (Nat.le_refl _) h3 fun H3 e3 => q H3 (e2.trans e3))
  | n and l r =>
    cases and with
    | true => exact .inr (.inl (h H1 e _ fun b H2 e2 hP => r_str hP hd h3 fun H3 e3 => q H3 (e2.trans e3)))
    | false => exact .inr (.inr (h H1 e _ fun b H2 e2 hP => r_str hP hd h3 fun H3 e3 => q H3 (e2.trans e3)))
theorem text_look (v : V) : ([(("text" : Str), v)] : List (Str × V)).lookup ("text" : Str) = some v := by
  simp [List.lookup]
def spRefused : Sp := fun vs H Q _ => ∃ z : Str, vs = [.str z] ∧ z.length ≤ 1000 ∧ pattM 2 z = none ∧ RetV (.bl true) H Q
theorem ok__law_refused {f : Addr} {fd : FuncData} (F : Fun K "_law_refused" "_law_refused" s__law_refused f fd) (T : Txt K mg a_OPEN_PARTS C_Both C_Either C_Form C_GlueError C_NoForm C_NoText) (D_read_pattern : DfR P w K mg base "read_pattern" ["text"] 10 (spReadX C_Form C_Both C_Either C_NoText)) : FnOk P w K mg base CX0 11 f fd ["text"] spRefused := by
  refine F.ok sc__law_refused (fun vs H Q E h => ?_) (fun cdv A outer s0 H vs Q E hr h => ?_)
  · obtain ⟨z, rfl, _⟩ := h
    rfl
  · obtain ⟨z, rfl, hz, hn, q⟩ := h
    refine ⟨_, (pss_cons (ps_try_as (x := "NoText") (c := .ref C_NoText) (i := 1) rfl rfl sc__law_refused.nd rfl rfl ⟨rfl, by decide, .inl T.m_NoText⟩ takes0 (fun W pn xe tk _ => (pss_one (ps_expr (pe_dfR D_read_pattern (hr.mono (by decide)) (by rfl) tk (pa_cons (pv 0) pa_nil))))) (fun a oe cls d pn hz hf => (pss_one (ps_ret (pe_and (pe_cmpR op_eq (pe_xf T.x_NoText.x T.f_NoText_text hz hf (pv 1)) (pv 0) (nomark _)) (pe_and (pe_callB (call_isXK (a := a) (oe := oe) (c := cls) (d := d) K rfl List.mem_cons_self hz hf) (by rfl) T.n_isinstance (by decide +kernel) (pa_cons (pv 1) (pa_cons (pe_cst T.c_GlueError (by rfl)) pa_nil))) (pe_and (pe_callB (call_isXK (a := a) (oe := oe) (c := cls) (d := d) K rfl List.mem_cons_self hz hf) (by rfl) T.n_isinstance (by decide +kernel) (pa_cons (pv 1) (pa_cons (pe_bltn (v := .ty "ValueError") (by rfl) T.n_ValueError (by decide +kernel) rfl) pa_nil))) (pe_one (pe_not (pe_callB (call_isXK (a := a) (oe := oe) (c := cls) (d := d) K rfl List.mem_cons_self hz hf) (by rfl) T.n_isinstance (by decide +kernel) (pa_cons (pv 1) (pa_cons (pe_cst T.c_NoForm (by rfl)) pa_nil))))))))))))
      (pss_one (ps_ret pe_bl))), ?_⟩
    refine ⟨_, rfl, z, rfl, hz, fun t x H1 ht => absurd (hn.symm.trans ht) (by intro w'; cases w'), fun _ d H1 e1 hd => ⟨true, T.x_NoText.s, fun _ a ha => ?_, fun w' => by cases w'⟩⟩
    have own : ∀ {C : Addr}, ClsV (.ref C) (.ref C) := fun {C} => .own C
    refine s_ret (v := .bl (true && (true && (true && (!false))))) (ev_andV (ev_is (ev_op (ev_xf rfl hd (text_look _)) (ev_var rfl) rv_eqS) (by rw [decide_eq_true rfl])) fun _ => ev_andV (ev_xo1 T.x_NoText rfl hd ev_c own T.q_g) fun _ => ev_andV (ev_xo1 T.x_NoText rfl hd ev_c (.ty "ValueError") T.q_v) fun _ => ev_notV (ev_xo1 T.x_NoText rfl hd ev_c own T.q_n)) fun H2 e2 => q H2 (e1.trans e2)
def spSame : Sp := fun vs H Q _ => ∃ z : Str, vs = [.str z] ∧ z.length ≤ 1000 ∧ RetV (.bl true) H Q
theorem ok__law_same_or_none {f : Addr} {fd : FuncData} (F : Fun K "_law_same_or_none" "_law_same_or_none" s__law_same_or_none f fd) (T : Txt K mg a_OPEN_PARTS C_Both C_Either C_Form C_GlueError C_NoForm C_NoText) (D_read_pattern : DfR P w K mg base "read_pattern" ["text"] 10 (spReadX C_Form C_Both C_Either C_NoText))
    (D_Form___str__ : DfSt P w K mg base C_Form ["self"] 1 (spStrP C_Form C_Both C_Either none 0)) (D_Both___str____v2 : DfSt P w K mg base C_Both ["self"] 5 (spStrP C_Form C_Both C_Either (some true) 2)) (D_Either___str____v2 : DfSt P w K mg base C_Either ["self"] 5 (spStrP C_Form C_Both C_Either (some false) 2)) : FnOk P w K mg base CX0 11 f fd ["text"] spSame := by
  refine F.ok sc__law_same_or_none (fun vs H Q E h => ?_) (fun cdv A outer s0 H vs Q E hr h => ?_)
  · obtain ⟨z, rfl, _⟩ := h
    rfl
  · obtain ⟨z, rfl, hz, q⟩ := h
    refine ⟨_, (pss_cons (ps_try_as (x := "NoText") (c := .ref C_NoText) (i := 2) rfl rfl sc__law_same_or_none.nd rfl rfl ⟨rfl, by decide, .inl T.m_NoText⟩ takes0 (fun W pn xe tk _ => (pss_one (ps_set (i := 1) sc__law_same_or_none.nd rfl (Or.inl rfl) (pe_dfR D_read_pattern (hr.mono (by decide)) (by rfl) tk (pa_cons (pv 0) pa_nil))))) (fun a oe cls d pn hz hf => (pss_one (ps_ret (pe_and (pe_cmpR op_eq (pe_xf T.x_NoText.x T.f_NoText_text hz hf (pv 2)) (pv 0) (nomark _)) (pe_one (pe_callB (call_isXK (a := a) (oe := oe) (c := cls) (d := d) K rfl List.mem_cons_self hz hf) (by rfl) T.n_isinstance (by decide +kernel) (pa_cons (pv 2) (pa_cons (pe_cst T.c_GlueError (by rfl)) pa_nil)))))))))
      (pss_one (ps_ret (pe_cmpR op_eq (pe_alt (pe_callTy (call_str_df D_Form___str__ (hr.mono (by decide))) (by rfl) T.n_str (by decide +kernel) (pa_cons (pv 1) pa_nil))
        (pe_alt (pe_callTy (call_str_df D_Both___str____v2 (hr.mono (by decide))) (by rfl) T.n_str (by decide +kernel) (pa_cons (pv 1) pa_nil))
        (pe_callTy (call_str_df D_Either___str____v2 (hr.mono (by decide))) (by rfl) T.n_str (by decide +kernel) (pa_cons (pv 1) pa_nil)))) (pv 0) (nomark _))))), ?_⟩
    have own : ∀ {C : Addr}, ClsV (.ref C) (.ref C) := fun {C} => .own C
    refine ⟨_, rfl, z, rfl, hz, fun t x H1 ht e1 hx => ?_, fun hn d H1 e1 hd => ⟨true, T.x_NoText.s, fun _ a ha => ?_, fun w' => by cases w'⟩⟩
    · obtain ⟨tz, _, t3, td⟩ := pattM_text 2 z t ht
      dsimp only [gName]
      refine s_ret (v := .bl (decide (t.text = z))) (ev_op (v_str (ev_var rfl) hx td t3) (ev_var rfl) rv_eqS) fun H2 e2 => ?_
      rw [decide_eq_true tz]
      exact q H2 (e1.trans e2)
    · refine s_ret (v := .bl (true && true)) (ev_andV (ev_is (ev_op (ev_xf rfl hd (text_look _)) (ev_var rfl) rv_eqS) (by rw [decide_eq_true rfl])) fun _ => ev_xo1 T.x_NoText rfl hd ev_c own T.q_g) fun H2 e2 => q H2 (e1.trans e2)

/-! ### the law -/
def spLaw (K : PySem.W.Frag) : Sp := fun vs H Q _ => ∃ (a : Addr) (ns : List Int), vs = [.ref a] ∧ SqL K H a (ns.map V.int) ∧ ns.length ≤ 63 ∧ ∀ H', Q (.bl true) H'
theorem ok_law {f : Addr} {fd : FuncData} (F : Fun K "law" "law" s_law f fd) (T : Txt K mg a_OPEN_PARTS C_Both C_Either C_Form C_GlueError C_NoForm C_NoText) (D__law_odd : Df P w K mg base "_law_odd" [] 1 spOdd) (D__law_refused : Df P w K mg base "_law_refused" ["text"] 11 spRefused) (D__law_pool : Df P w K mg base "_law_pool" ["script", "k"] 1 (spPool K)) (D__law_take : Df P w K mg base "_law_take" ["pool", "many"] 1 spTake)
    (D__law_rich : Df P w K mg base "_law_rich" ["pool"] 3 spRich) (D__law_shape : Df P w K mg base "_law_shape" ["pool", "many"] 2 spShape) (D__law_shown__v3 : Df P w K mg base "_law_shown" ["shape", "drawn"] 4 (spShown 3)) (D__law_bent : Df P w K mg base "_law_bent" ["pool", "text"] 3 spBent)
    (D__law_same_or_none : Df P w K mg base "_law_same_or_none" ["text"] 11 spSame) (D_read_pattern : DfR P w K mg base "read_pattern" ["text"] 10 (spReadX C_Form C_Both C_Either C_NoText))
    (D_Form___str__ : DfSt P w K mg base C_Form ["self"] 1 (spStrP C_Form C_Both C_Either none 0)) (D_Both___str____v2 : DfSt P w K mg base C_Both ["self"] 5 (spStrP C_Form C_Both C_Either (some true) 2)) (D_Either___str____v2 : DfSt P w K mg base C_Either ["self"] 5 (spStrP C_Form C_Both C_Either (some false) 2)) : FnOk P w K mg base CX0 13 f fd ["script"] (spLaw K) := by
  refine F.ok sc_law (fun vs H Q E h => ?_) (fun cdv A outer s0 H vs Q E hr h => ?_)
  · obtain ⟨a, ns, rfl, _⟩ := h
    rfl
  · obtain ⟨a, ns, rfl, hS, hl, q⟩ := h
    refine ⟨_, (pss_cons (ps_for PassesOwn.never rfl (pi_list (pe_df0 D__law_odd (hr.mono (by decide)) (by rfl))) (pg_name (i := 1) sc_law.nd rfl (Or.inl rfl))
      (pss_one (ps_if (pt_not (pt_val (pe_df D__law_refused (hr.mono (by decide)) (by rfl) (pa_cons (pv 1) pa_nil))))
      (pss_one (ps_ret pe_bl))
      pss_nil)))
      (pss_cons (ps_for PassesOwn.never rfl (pi_range1 (by rfl) T.n_range (pa_cons (pe_callB (call_max2 rfl) (by rfl) T.n_max (by decide +kernel) (pa_cons pe_int (pa_cons (pe_callB (call_min2 rfl) (by rfl) T.n_min (by decide +kernel) (pa_cons pe_int (pa_cons (pe_callB call_len_seq (by rfl) T.n_len PySem.boot_len (pa_cons (pv 0) pa_nil)) pa_nil))) pa_nil))) pa_nil)) (pg_name (i := 2) sc_law.nd rfl (Or.inl rfl))
      (pss_cons (ps_set (i := 3) sc_law.nd rfl (Or.inr rfl) (pe_df D__law_pool (hr.mono (by decide)) (by rfl) (pa_cons (pv 0) (pa_cons (pv 2) pa_nil))))
      (pss_cons (ps_setLc (i := 4) (own := [("at", 6)]) (g := gName 6) rfl sc_law.nd rfl rfl (sw_true rfl rfl rfl (by decide +kernel)) (pi_range1 (by rfl) T.n_range (pa_cons (pe_op op_add pe_int (pe_df D__law_take (hr.mono (by decide)) (by rfl) (pa_cons (pv 3) (pa_cons pe_int pa_nil)))) pa_nil)) (blkOk_by (own := [("at", 6)]) (N := ["script", "text", "k", "pool", "drawn", "bent", "at"]) (sc := defScope s_law) (by decide +kernel)) (fun _ _ _ _ _ => pg_name (i := 6) sc_law.nd rfl (Or.inl rfl)) (fun _ _ _ _ _ => pts_nil) (fun _ _ _ _ _ => (pe_df (k := 3) D__law_rich (hr.mono (j := 3) (by decide)) (by rfl) (pa_cons (pv 3) pa_nil))))
      (pss_cons (ps_set (i := 1) sc_law.nd rfl (Or.inl rfl) (pe_df D__law_shown__v3 (hr.mono (by decide)) (by rfl) (pa_cons (pe_df D__law_shape (hr.mono (by decide)) (by rfl) (pa_cons (pv 3) (pa_cons (pe_callB call_len_seq (by rfl) T.n_len PySem.boot_len (pa_cons (pv 4) pa_nil)) pa_nil))) (pa_cons (pv 4) pa_nil))))
      (pss_cons (ps_set (i := 5) sc_law.nd rfl (Or.inl rfl) (pe_df D__law_bent (hr.mono (by decide)) (by rfl) (pa_cons (pv 3) (pa_cons (pv 1) pa_nil))))
      (pss_cons (ps_if (pt_cmpR op_eq (pe_df D__law_take (hr.mono (by decide)) (by rfl) (pa_cons (pv 3) (pa_cons pe_int pa_nil))) pe_int (nomark _))
      (pss_one (ps_set (i := 5) sc_law.nd rfl (Or.inl rfl) (pe_df D__law_bent (hr.mono (by decide)) (by rfl) (pa_cons (pv 3) (pa_cons (pv 5) pa_nil)))))
      pss_nil)
      (pss_one (ps_if (PW.pt (pw_or (pt_not (pt_val (pe_df D__law_same_or_none (hr.mono (by decide)) (by rfl) (pa_cons (pv 5) pa_nil)))) (pw_or1 (pt_cmpR op_ne (pe_alt (pe_callTy (call_str_df D_Form___str__ (hr.mono (by decide))) (by rfl) T.n_str (by decide +kernel) (pa_cons (pe_dfR D_read_pattern (hr.mono (by decide)) (by rfl) takes0 (pa_cons (pv 1) pa_nil)) pa_nil))
        (pe_alt (pe_callTy (call_str_df D_Both___str____v2 (hr.mono (by decide))) (by rfl) T.n_str (by decide +kernel) (pa_cons (pe_dfR D_read_pattern (hr.mono (by decide)) (by rfl) takes0 (pa_cons (pv 1) pa_nil)) pa_nil))
        (pe_callTy (call_str_df D_Either___str____v2 (hr.mono (by decide))) (by rfl) T.n_str (by decide +kernel) (pa_cons (pe_dfR D_read_pattern (hr.mono (by decide)) (by rfl) takes0 (pa_cons (pv 1) pa_nil)) pa_nil)))) (pv 1) (nomark _)))))
      (pss_one (ps_ret pe_bl))
      pss_nil))))))))
      (pss_one (ps_ret pe_bl)))), ?_⟩
    refine q_forNLn (xs := oddS.map V.str) (el_call ea_nil fun H1 e1 Q' q' E' => ⟨rfl, fun l H2 hl2 e2 h2 => q' l H2 hl2 e2 h2⟩) (fun p i σ' H' => ∃ y : Option V, σ' = [some (.ref a), y, none, none, none, none, none] ∧ Ex H H' ∧ H' p = some (.lst (oddS.map V.str))) (fun p H1 hp e1 h1 => ⟨_, rfl, e1, h1⟩) (fun p i σ' H' _ ⟨_, _, _, h1⟩ => sq_of h1) ?_ ?_
    · rintro p i x σ' H1 hx ⟨y, rfl, e1, h1⟩
      rw [List.getElem?_map] at hx
      obtain ⟨z, hz, rfl⟩ := Option.map_eq_some_iff.mp hx
      obtain ⟨k1, k2⟩ := odd_none z (List.mem_of_getElem? hz)
      exact s_when (b := !true) (et_not (et_B (ev_call (ea_cons (ev_var rfl) ea_nil) fun H2 e2 Q' q' E' => ⟨z, rfl, k2, k1, q'⟩))) (fun w' => by cases w') (fun _ H2 e2 => ⟨_, rfl, e1.trans e2, e2 _ _ h1⟩)
    rintro p0 σ' H1 ⟨y0, rfl, e1, h1⟩
    refine q_forR1 (ea_cons (ev_max ev_c (ev_min2 ev_c (ev_lenL (ev_var rfl) (ex_l e1 hS)))) ea_nil) (by rw [List.length_map]; split <;> split <;> omega)
      (fun i σ' H' => ∃ (y1 y2 y3 y4 y5 : Option V), σ' = [some (.ref a), y1, y2, y3, y4, y5, none] ∧ Ex H H') (fun H3 e3 => ⟨_, _, _, _, _, rfl, e1.trans e3⟩) ?_ ?_
    · rintro i σ' H3 hi ⟨y1, y2, y3, y4, y5, rfl, e3⟩
      have hi2 : (i : Int) ≤ 1000 := by
        rw [List.length_map] at hi
        split at hi <;> split at hi <;> omega
      refine ⟨_, rfl, _, rfl, a, ns, (i : Int), rfl, ex_l e3 hS, hl, by omega, by omega, fun p H4 hp4 e4 h4 => ?_⟩
      have hk0 := pool0_pk ns (i : Int)
      generalize pool0 ns (i : Int) = s at h4 hk0
      have t4 := take_lt (s := s) (n := 3) (by decide)
      have hk1 : Pk (take s 3).2 := take_pk hk0
      have K4 : Kn (hide p H4) p s H4 := Kn.here h4
      refine qp_asgDraw upL oneL (f := rich) (fun s hs => (rich_ok hs).1) K4 (eap_cons (evp_op (EvP.of ev_c) (evp_take rfl hk0 (by decide) (by decide)) rv_add) eap_nil) hk1 (by omega) (fun _ => rfl) (fun i H s hs hp Q q => ⟨_, rfl, p, s, rfl, hp, hs, fun l H6 hl6 e6 h6p h6l => q l H6 hl6 e6 h6p h6l⟩) (fun ld us H6 nld e6 h6p h6 r6 => ?_)
      have hg : ∀ ps ∈ (drawN rich (1 + (take s 3).1).toNat (take s 3).2).1, GoodP ps := drawN_all (fun s hs => ⟨(rich_ok hs).1, (rich_ok hs).2.1, (rich_ok hs).2.2.1, (rich_ok hs).2.2.2⟩) hk1 _
      have hk6 := drawN_pk (f := rich) (fun s hs => (rich_ok hs).1) hk1 (1 + (take s 3).1).toNat
      have hlen := drawN_len rich (take s 3).2 (1 + (take s 3).1).toNat
      generalize (drawN rich (1 + (take s 3).1).toNat (take s 3).2).1 = ds at hg hlen r6
      generalize (drawN rich (1 + (take s 3).1).toNat (take s 3).2).2 = s6 at hk6 h6p
      have lus := r6.len
      have g6 : hide p H6 ld = some (.lst us) := by rw [hide_ne nld]; exact h6
      -- text
      refine ⟨_, rfl, (ev_lenL (K := K) (ev_var rfl) (sq_of h6) : Ev _ _ H6 (.int (us.length : Int))) H6 (Ex.refl _) _ fun H7 e7 => ⟨p, s6, us.length, rfl, e7 _ _ h6p, hk6, by omega, by omega, fun sa sh s8 H8 e8 h8p hk8 hSh hsl => ⟨_, rfl, ?_⟩⟩⟩
      have e68 : Ex (hide p H6) H8 := hx_trans (hx_of e7) e8
      have h8d := e68 _ _ g6
      have r8 : Rs LstS H8 us ds := (r6.ex upL (hx_hide e68)).ex upL hide_le
      have sd := sh.depth_lt
      refine ⟨sa, ld, us, ds, 0, sh, rfl, hSh.ex hide_le, h8d, r8, hg, by omega, by omega, by omega, fun H9 e9 => ?_⟩
      have hlv := sh.pt_leaves ds 0
      have hdp := sh.pt_depth ds 0
      have hpg : PtG (sh.pt ds 0) := sh.ptg hg 0 (by omega)
      have tl := ptg_len hpg
      generalize sh.pt ds 0 = t at hlv hdp hpg tl
      have h9p := e9 _ _ h8p
      have K9 : Kn (hide p H9) p s8 H9 := Kn.here h9p
      have e39 : Ex H H9 := e3.trans (ex_fresh (p := p) hp4 e4 (hx_trans (hx_trans e6 e68) (hx_of e9)))
      have bb := bent_ok (s := s8) (z := t.text) hk8
      -- bent
      dsimp only [gName]
      refine qp_asg K9 (evp_call (eap_cons (EvP.of (ev_var rfl)) (eap_cons (EvP.of (ev_var rfl)) eap_nil)) fun H10 K10 Q' q' E' => ⟨p, s8, t.text, rfl, K10.at_, hk8, by omega, q'⟩) fun H10 K10 e10 => ?_
      generalize lawBent s8 t.text = b1 at K10 bb
      obtain ⟨hkb, lb⟩ := bb
      refine qp_ifAsgM (M := fun v H' => ∃ b : Str, v = .str b ∧ b.length ≤ 1000 ∧ Ex (hide p H9) H') K10 (evtp_test (evp_op (evp_take rfl hkb (by decide) (by decide)) (EvP.of ev_c) rv_eqI)) (fun _ H11 K11 e11 Q' q' => ?_) (fun _ H11 K11 e11 => ⟨_, rfl, b1.1, rfl, by omega, K11.ex⟩) (fun v H12 hm => ?_)
      · have bb2 := bent_ok (s := (take b1.2 2).2) (z := b1.1) (take_pk hkb)
        refine ⟨_, rfl, _, rfl, p, (take b1.2 2).2, b1.1, rfl, K11.at_, take_pk hkb, by omega, fun H12 e12 h12 => q' _ _ ⟨_, rfl, by omega, hx_trans K11.ex e12⟩⟩
      obtain ⟨b, rfl, hb, e12⟩ := hm
      have eH : Ex H H12 := e3.trans (ex_fresh (p := p) hp4 e4 (hx_trans (hx_trans (hx_trans e6 e68) (hx_of e9)) e12))
      refine s_when (b := (!true) || !decide (t.text = t.text)) (et_or (et_not (et_B (ev_call (ea_cons (ev_var rfl) ea_nil) fun H13 e13 Q' q' E' => ⟨b, rfl, hb, q'⟩))) fun _ => et_test (ev_op (v_strN (fun H13 e13 Q' q' => ⟨_, rfl, t.text, rfl, by omega, fun t' x H14 ht e14 hx => ?_, fun hn => ?_⟩) (by omega) (by omega)) (ev_var rfl) rv_neS)) (fun hc => ?_) (fun _ H13 e13 => ⟨_, _, _, _, _, rfl, eH.trans e13⟩)
      · rw [pattM_of 2 hpg (by omega) (by omega)] at ht
        rw [← Option.some.inj ht] at hx
        exact q' x H14 e14 hx
      · rw [pattM_of 2 hpg (by omega) (by omega)] at hn
        cases hn
      · rw [decide_eq_true rfl] at hc
        cases hc
    · rintro σ' H3 ⟨_, _, _, _, _, rfl, e3⟩
      exact s_ret ev_c fun H4 e4 => q H4

end
theorem all_mk {l : PySem.W.OpenLaw} {w : World} {K : PySem.W.Frag} {h : Heap} {mg : Str → Option Value} {fa : Addr} (X : K.In h) (G : h.Ns mainGlobals mg) (hfa : mg "law" = some (.ref fa))
    {C_Both : Addr}
    {C_Either : Addr}
    {C_Form : Addr}
    {C_GlueError : Addr}
    {C_NoForm : Addr}
    {C_NoText : Addr}
    {f0 : Addr} {od0 an0 : Option Addr} {sl0 : Array (Option Value)} {oc0 kV0 dc0 pm0 cd0 ct0 : Value}
    {f1 : Addr} {od1 an1 : Option Addr} {sl1 : Array (Option Value)} {oc1 kV1 dc1 pm1 cd1 ct1 : Value}
    {f2 : Addr} {od2 an2 : Option Addr} {sl2 : Array (Option Value)} {oc2 kV2 dc2 pm2 cd2 ct2 : Value}
    {f3 : Addr} {od3 an3 : Option Addr} {sl3 : Array (Option Value)} {oc3 kV3 dc3 pm3 cd3 ct3 : Value}
    {f4 : Addr} {od4 an4 : Option Addr} {sl4 : Array (Option Value)} {oc4 kV4 dc4 pm4 cd4 ct4 : Value}
    {f5 : Addr} {od5 an5 : Option Addr} {sl5 : Array (Option Value)} {oc5 kV5 dc5 pm5 cd5 ct5 : Value}
    {f6 : Addr} {od6 an6 : Option Addr} {sl6 : Array (Option Value)} {oc6 kV6 dc6 pm6 cd6 ct6 : Value}
    {f7 : Addr} {od7 an7 : Option Addr} {sl7 : Array (Option Value)} {oc7 kV7 dc7 pm7 cd7 ct7 : Value}
    {f8 : Addr} {od8 an8 : Option Addr} {sl8 : Array (Option Value)} {oc8 kV8 dc8 pm8 cd8 ct8 : Value}
    {f9 : Addr} {od9 an9 : Option Addr} {sl9 : Array (Option Value)} {oc9 kV9 dc9 pm9 cd9 ct9 : Value}
    {f10 : Addr} {od10 an10 : Option Addr} {sl10 : Array (Option Value)} {oc10 kV10 dc10 pm10 cd10 ct10 : Value}
    {f11 : Addr} {od11 an11 : Option Addr} {sl11 : Array (Option Value)} {oc11 kV11 dc11 pm11 cd11 ct11 : Value}
    {f12 : Addr} {od12 an12 : Option Addr} {sl12 : Array (Option Value)} {oc12 kV12 dc12 pm12 cd12 ct12 : Value}
    {f13 : Addr} {od13 an13 : Option Addr} {sl13 : Array (Option Value)} {oc13 kV13 dc13 pm13 cd13 ct13 : Value}
    {f14 : Addr} {od14 an14 : Option Addr} {sl14 : Array (Option Value)} {oc14 kV14 dc14 pm14 cd14 ct14 : Value}
    {f15 : Addr} {od15 an15 : Option Addr} {sl15 : Array (Option Value)} {oc15 kV15 dc15 pm15 cd15 ct15 : Value}
    {f16 : Addr} {od16 an16 : Option Addr} {sl16 : Array (Option Value)} {oc16 kV16 dc16 pm16 cd16 ct16 : Value}
    {f17 : Addr} {od17 an17 : Option Addr} {sl17 : Array (Option Value)} {oc17 kV17 dc17 pm17 cd17 ct17 : Value}
    {f18 : Addr} {od18 an18 : Option Addr} {sl18 : Array (Option Value)} {oc18 kV18 dc18 pm18 cd18 ct18 : Value}
    {f19 : Addr} {od19 an19 : Option Addr} {sl19 : Array (Option Value)} {oc19 kV19 dc19 pm19 cd19 ct19 : Value}
    {f20 : Addr} {od20 an20 : Option Addr} {sl20 : Array (Option Value)} {oc20 kV20 dc20 pm20 cd20 ct20 : Value}
    {f21 : Addr} {od21 an21 : Option Addr} {sl21 : Array (Option Value)} {oc21 kV21 dc21 pm21 cd21 ct21 : Value}
    {f22 : Addr} {od22 an22 : Option Addr} {sl22 : Array (Option Value)} {oc22 kV22 dc22 pm22 cd22 ct22 : Value}
    {f23 : Addr} {od23 an23 : Option Addr} {sl23 : Array (Option Value)} {oc23 kV23 dc23 pm23 cd23 ct23 : Value}
    {f24 : Addr} {od24 an24 : Option Addr} {sl24 : Array (Option Value)} {oc24 kV24 dc24 pm24 cd24 ct24 : Value}
    {f25 : Addr} {od25 an25 : Option Addr} {sl25 : Array (Option Value)} {oc25 kV25 dc25 pm25 cd25 ct25 : Value}
    {f26 : Addr} {od26 an26 : Option Addr} {sl26 : Array (Option Value)} {oc26 kV26 dc26 pm26 cd26 ct26 : Value}
    {f27 : Addr} {od27 an27 : Option Addr} {sl27 : Array (Option Value)} {oc27 kV27 dc27 pm27 cd27 ct27 : Value}
    {f28 : Addr} {od28 an28 : Option Addr} {sl28 : Array (Option Value)} {oc28 kV28 dc28 pm28 cd28 ct28 : Value}
    {f29 : Addr} {od29 an29 : Option Addr} {sl29 : Array (Option Value)} {oc29 kV29 dc29 pm29 cd29 ct29 : Value}
    {f30 : Addr} {od30 an30 : Option Addr} {sl30 : Array (Option Value)} {oc30 kV30 dc30 pm30 cd30 ct30 : Value}
    {f31 : Addr} {od31 an31 : Option Addr} {sl31 : Array (Option Value)} {oc31 kV31 dc31 pm31 cd31 ct31 : Value}
    {f32 : Addr} {od32 an32 : Option Addr} {sl32 : Array (Option Value)} {oc32 kV32 dc32 pm32 cd32 ct32 : Value}
    {f33 : Addr} {od33 an33 : Option Addr} {sl33 : Array (Option Value)} {oc33 kV33 dc33 pm33 cd33 ct33 : Value}
    {f34 : Addr} {od34 an34 : Option Addr} {sl34 : Array (Option Value)} {oc34 kV34 dc34 pm34 cd34 ct34 : Value}
    {t_ANY_SIGNS : Tok}
    {t_MOST_FORMS : Tok}
    {t_MOST_PARTS : Tok}
    {t_MOST_SIGNS : Tok}
    {a_OPEN_PARTS : Addr} {td_OPEN_PARTS : Option Addr} {tn_OPEN_PARTS : Nat} {tl_OPEN_PARTS : Array (Option Value)} {t_OPEN_PARTS_0 t_OPEN_PARTS_1 t_OPEN_PARTS_2 : Tok}
    {t_SIGNS : Tok}
    {nm_NoForm qn_NoForm : Str} {nd_NoForm : Addr} {bs_NoForm : List Value} {sn_NoForm : List Str} {su_NoForm : List Value} {ab_NoForm : Bool} {co_NoForm : Option Bool} {dd_NoForm : Option Addr} {m0_NoForm m1_NoForm m2_NoForm m3_NoForm m5_NoForm : Option Value}
    {nm_NoText qn_NoText : Str} {nd_NoText : Addr} {bs_NoText : List Value} {sn_NoText : List Str} {su_NoText : List Value} {ab_NoText : Bool} {co_NoText : Option Bool} {dd_NoText : Option Addr} {m0_NoText m1_NoText m2_NoText m3_NoText m5_NoText : Option Value}
    (a0 : PySem.W.nsIn K mainGlobals "_law_take" = some (some (.ref f0)))
    (l0 : K.lookup f0 = some ⟨oc0, od0, .func (PySem.W.fnOf "_law_take" "_law_take" (defArgs s__law_take) (defBody s__law_take) (defScope s__law_take) .none kV0 dc0 pm0 an0 cd0 ct0), sl0⟩)
    (c0 : PySem.W.codeIn K cd0 "_law_take" = true)
    (k0 : PySem.W.keepIn K (.ref f0) = true)
    (a1 : PySem.W.nsIn K mainGlobals "_law_pool" = some (some (.ref f1)))
    (l1 : K.lookup f1 = some ⟨oc1, od1, .func (PySem.W.fnOf "_law_pool" "_law_pool" (defArgs s__law_pool) (defBody s__law_pool) (defScope s__law_pool) .none kV1 dc1 pm1 an1 cd1 ct1), sl1⟩)
    (c1 : PySem.W.codeIn K cd1 "_law_pool" = true)
    (k1 : PySem.W.keepIn K (.ref f1) = true)
    (a2 : PySem.W.nsIn K mainGlobals "_law_all_signs" = some (some (.ref f2)))
    (l2 : K.lookup f2 = some ⟨oc2, od2, .func (PySem.W.fnOf "_law_all_signs" "_law_all_signs" (defArgs s__law_all_signs) (defBody s__law_all_signs) (defScope s__law_all_signs) .none kV2 dc2 pm2 an2 cd2 ct2), sl2⟩)
    (c2 : PySem.W.codeIn K cd2 "_law_all_signs" = true)
    (k2 : PySem.W.keepIn K (.ref f2) = true)
    (a3 : PySem.W.nsIn K mainGlobals "is_line" = some (some (.ref f3)))
    (l3 : K.lookup f3 = some ⟨oc3, od3, .func (PySem.W.fnOf "is_line" "is_line" (defArgs s_is_line) (defBody s_is_line) (defScope s_is_line) .none kV3 dc3 pm3 an3 cd3 ct3), sl3⟩)
    (c3 : PySem.W.codeIn K cd3 "is_line" = true)
    (k3 : PySem.W.keepIn K (.ref f3) = true)
    (a4 : PySem.W.nsIn K mainGlobals "cells_of" = some (some (.ref f4)))
    (l4 : K.lookup f4 = some ⟨oc4, od4, .func (PySem.W.fnOf "cells_of" "cells_of" (defArgs s_cells_of) (defBody s_cells_of) (defScope s_cells_of) .none kV4 dc4 pm4 an4 cd4 ct4), sl4⟩)
    (c4 : PySem.W.codeIn K cd4 "cells_of" = true)
    (k4 : PySem.W.keepIn K (.ref f4) = true)
    (a5 : PySem.W.nsIn K mainGlobals "_law_text" = some (some (.ref f5)))
    (l5 : K.lookup f5 = some ⟨oc5, od5, .func (PySem.W.fnOf "_law_text" "_law_text" (defArgs s__law_text) (defBody s__law_text) (defScope s__law_text) .none kV5 dc5 pm5 an5 cd5 ct5), sl5⟩)
    (c5 : PySem.W.codeIn K cd5 "_law_text" = true)
    (k5 : PySem.W.keepIn K (.ref f5) = true)
    (a6 : PySem.W.nsIn K mainGlobals "_law_rich" = some (some (.ref f6)))
    (l6 : K.lookup f6 = some ⟨oc6, od6, .func (PySem.W.fnOf "_law_rich" "_law_rich" (defArgs s__law_rich) (defBody s__law_rich) (defScope s__law_rich) .none kV6 dc6 pm6 an6 cd6 ct6), sl6⟩)
    (c6 : PySem.W.codeIn K cd6 "_law_rich" = true)
    (k6 : PySem.W.keepIn K (.ref f6) = true)
    (a7 : PySem.W.nsIn K mainGlobals "_is_allowed" = some (some (.ref f7)))
    (l7 : K.lookup f7 = some ⟨oc7, od7, .func (PySem.W.fnOf "_is_allowed" "_is_allowed" (defArgs s__is_allowed) (defBody s__is_allowed) (defScope s__is_allowed) .none kV7 dc7 pm7 an7 cd7 ct7), sl7⟩)
    (c7 : PySem.W.codeIn K cd7 "_is_allowed" = true)
    (k7 : PySem.W.keepIn K (.ref f7) = true)
    (a8 : PySem.W.findIn K (.ref C_NoForm) "__init__" = some (some (.ref f8)))
    (l8 : K.lookup f8 = some ⟨oc8, od8, .func (PySem.W.fnOf "__init__" "NoForm.__init__" (defArgs s_NoForm___init__) (defBody s_NoForm___init__) (defScope s_NoForm___init__) .none kV8 dc8 pm8 an8 cd8 ct8), sl8⟩)
    (c8 : PySem.W.codeIn K cd8 "NoForm.__init__" = true)
    (k8 : PySem.W.keepIn K (.ref f8) = true)
    (i8 : PySem.W.isFn K (.ref f8) = true)
    (j8 : PySem.W.typeIn K (.ref f8) = some (.type "function"))
    (a9 : PySem.W.findIn K (.ref C_Form) "__init__" = some (some (.ref f9)))
    (l9 : K.lookup f9 = some ⟨oc9, od9, .func (PySem.W.fnOf "__init__" "Form.__init__" (defArgs s_Form___init__) (defBody s_Form___init__) (defScope s_Form___init__) .none kV9 dc9 pm9 an9 cd9 ct9), sl9⟩)
    (c9 : PySem.W.codeIn K cd9 "Form.__init__" = true)
    (k9 : PySem.W.keepIn K (.ref f9) = true)
    (i9 : PySem.W.isFn K (.ref f9) = true)
    (j9 : PySem.W.typeIn K (.ref f9) = some (.type "function"))
    (a10 : PySem.W.findIn K (.ref C_Form) "forms" = some (some (.ref f10)))
    (l10 : K.lookup f10 = some ⟨oc10, od10, .func (PySem.W.fnOf "forms" "Form.forms" (defArgs s_Form_forms) (defBody s_Form_forms) (defScope s_Form_forms) .none kV10 dc10 pm10 an10 cd10 ct10), sl10⟩)
    (c10 : PySem.W.codeIn K cd10 "Form.forms" = true)
    (k10 : PySem.W.keepIn K (.ref f10) = true)
    (i10 : PySem.W.isFn K (.ref f10) = true)
    (j10 : PySem.W.typeIn K (.ref f10) = some (.type "function"))
    (a11 : PySem.W.findIn K (.ref C_Form) "__str__" = some (some (.ref f11)))
    (l11 : K.lookup f11 = some ⟨oc11, od11, .func (PySem.W.fnOf "__str__" "Form.__str__" (defArgs s_Form___str__) (defBody s_Form___str__) (defScope s_Form___str__) .none kV11 dc11 pm11 an11 cd11 ct11), sl11⟩)
    (c11 : PySem.W.codeIn K cd11 "Form.__str__" = true)
    (k11 : PySem.W.keepIn K (.ref f11) = true)
    (i11 : PySem.W.isFn K (.ref f11) = true)
    (j11 : PySem.W.typeIn K (.ref f11) = some (.type "function"))
    (fm_Form : PySem.W.findIn K (.ref C_Form) "__format__" = some (some (.builtin "object.__format__"))) (ob_Form : PySem.W.mroIn K C_Form (.type "object") = some true)
    (a12 : PySem.W.findIn K (.ref C_Both) "forms" = some (some (.ref f12)))
    (l12 : K.lookup f12 = some ⟨oc12, od12, .func (PySem.W.fnOf "forms" "Both.forms" (defArgs s_Both_forms) (defBody s_Both_forms) (defScope s_Both_forms) .none kV12 dc12 pm12 an12 cd12 ct12), sl12⟩)
    (c12 : PySem.W.codeIn K cd12 "Both.forms" = true)
    (k12 : PySem.W.keepIn K (.ref f12) = true)
    (i12 : PySem.W.isFn K (.ref f12) = true)
    (j12 : PySem.W.typeIn K (.ref f12) = some (.type "function"))
    (a13 : PySem.W.findIn K (.ref C_Both) "__str__" = some (some (.ref f13)))
    (l13 : K.lookup f13 = some ⟨oc13, od13, .func (PySem.W.fnOf "__str__" "Both.__str__" (defArgs s_Both___str__) (defBody s_Both___str__) (defScope s_Both___str__) .none kV13 dc13 pm13 an13 cd13 ct13), sl13⟩)
    (c13 : PySem.W.codeIn K cd13 "Both.__str__" = true)
    (k13 : PySem.W.keepIn K (.ref f13) = true)
    (i13 : PySem.W.isFn K (.ref f13) = true)
    (j13 : PySem.W.typeIn K (.ref f13) = some (.type "function"))
    (fm_Both : PySem.W.findIn K (.ref C_Both) "__format__" = some (some (.builtin "object.__format__"))) (ob_Both : PySem.W.mroIn K C_Both (.type "object") = some true)
    (a14 : PySem.W.findIn K (.ref C_Either) "forms" = some (some (.ref f14)))
    (l14 : K.lookup f14 = some ⟨oc14, od14, .func (PySem.W.fnOf "forms" "Either.forms" (defArgs s_Either_forms) (defBody s_Either_forms) (defScope s_Either_forms) .none kV14 dc14 pm14 an14 cd14 ct14), sl14⟩)
    (c14 : PySem.W.codeIn K cd14 "Either.forms" = true)
    (k14 : PySem.W.keepIn K (.ref f14) = true)
    (i14 : PySem.W.isFn K (.ref f14) = true)
    (j14 : PySem.W.typeIn K (.ref f14) = some (.type "function"))
    (a15 : PySem.W.findIn K (.ref C_Either) "__str__" = some (some (.ref f15)))
    (l15 : K.lookup f15 = some ⟨oc15, od15, .func (PySem.W.fnOf "__str__" "Either.__str__" (defArgs s_Either___str__) (defBody s_Either___str__) (defScope s_Either___str__) .none kV15 dc15 pm15 an15 cd15 ct15), sl15⟩)
    (c15 : PySem.W.codeIn K cd15 "Either.__str__" = true)
    (k15 : PySem.W.keepIn K (.ref f15) = true)
    (i15 : PySem.W.isFn K (.ref f15) = true)
    (j15 : PySem.W.typeIn K (.ref f15) = some (.type "function"))
    (fm_Either : PySem.W.findIn K (.ref C_Either) "__format__" = some (some (.builtin "object.__format__"))) (ob_Either : PySem.W.mroIn K C_Either (.type "object") = some true)
    (a16 : PySem.W.nsIn K mainGlobals "_law_shape" = some (some (.ref f16)))
    (l16 : K.lookup f16 = some ⟨oc16, od16, .func (PySem.W.fnOf "_law_shape" "_law_shape" (defArgs s__law_shape) (defBody s__law_shape) (defScope s__law_shape) .none kV16 dc16 pm16 an16 cd16 ct16), sl16⟩)
    (c16 : PySem.W.codeIn K cd16 "_law_shape" = true)
    (k16 : PySem.W.keepIn K (.ref f16) = true)
    (a17 : PySem.W.nsIn K mainGlobals "_law_shown" = some (some (.ref f17)))
    (l17 : K.lookup f17 = some ⟨oc17, od17, .func (PySem.W.fnOf "_law_shown" "_law_shown" (defArgs s__law_shown) (defBody s__law_shown) (defScope s__law_shown) .none kV17 dc17 pm17 an17 cd17 ct17), sl17⟩)
    (c17 : PySem.W.codeIn K cd17 "_law_shown" = true)
    (k17 : PySem.W.keepIn K (.ref f17) = true)
    (a18 : PySem.W.nsIn K mainGlobals "_check_room" = some (some (.ref f18)))
    (l18 : K.lookup f18 = some ⟨oc18, od18, .func (PySem.W.fnOf "_check_room" "_check_room" (defArgs s__check_room) (defBody s__check_room) (defScope s__check_room) .none kV18 dc18 pm18 an18 cd18 ct18), sl18⟩)
    (c18 : PySem.W.codeIn K cd18 "_check_room" = true)
    (k18 : PySem.W.keepIn K (.ref f18) = true)
    (a19 : PySem.W.findIn K (.ref C_Both) "__init__" = some (some (.ref f19)))
    (l19 : K.lookup f19 = some ⟨oc19, od19, .func (PySem.W.fnOf "__init__" "Both.__init__" (defArgs s_Both___init__) (defBody s_Both___init__) (defScope s_Both___init__) .none kV19 dc19 pm19 an19 cd19 ct19), sl19⟩)
    (c19 : PySem.W.codeIn K cd19 "Both.__init__" = true)
    (k19 : PySem.W.keepIn K (.ref f19) = true)
    (i19 : PySem.W.isFn K (.ref f19) = true)
    (j19 : PySem.W.typeIn K (.ref f19) = some (.type "function"))
    (a20 : PySem.W.findIn K (.ref C_Either) "__init__" = some (some (.ref f20)))
    (l20 : K.lookup f20 = some ⟨oc20, od20, .func (PySem.W.fnOf "__init__" "Either.__init__" (defArgs s_Either___init__) (defBody s_Either___init__) (defScope s_Either___init__) .none kV20 dc20 pm20 an20 cd20 ct20), sl20⟩)
    (c20 : PySem.W.codeIn K cd20 "Either.__init__" = true)
    (k20 : PySem.W.keepIn K (.ref f20) = true)
    (i20 : PySem.W.isFn K (.ref f20) = true)
    (j20 : PySem.W.typeIn K (.ref f20) = some (.type "function"))
    (a21 : PySem.W.nsIn K mainGlobals "_part_at" = some (some (.ref f21)))
    (l21 : K.lookup f21 = some ⟨oc21, od21, .func (PySem.W.fnOf "_part_at" "_part_at" (defArgs s__part_at) (defBody s__part_at) (defScope s__part_at) .none kV21 dc21 pm21 an21 cd21 ct21), sl21⟩)
    (c21 : PySem.W.codeIn K cd21 "_part_at" = true)
    (k21 : PySem.W.keepIn K (.ref f21) = true)
    (a22 : PySem.W.nsIn K mainGlobals "_parts_of" = some (some (.ref f22)))
    (l22 : K.lookup f22 = some ⟨oc22, od22, .func (PySem.W.fnOf "_parts_of" "_parts_of" (defArgs s__parts_of) (defBody s__parts_of) (defScope s__parts_of) .none kV22 dc22 pm22 an22 cd22 ct22), sl22⟩)
    (c22 : PySem.W.codeIn K cd22 "_parts_of" = true)
    (k22 : PySem.W.keepIn K (.ref f22) = true)
    (a23 : PySem.W.nsIn K mainGlobals "_middle" = some (some (.ref f23)))
    (l23 : K.lookup f23 = some ⟨oc23, od23, .func (PySem.W.fnOf "_middle" "_middle" (defArgs s__middle) (defBody s__middle) (defScope s__middle) .none kV23 dc23 pm23 an23 cd23 ct23), sl23⟩)
    (c23 : PySem.W.codeIn K cd23 "_middle" = true)
    (k23 : PySem.W.keepIn K (.ref f23) = true)
    (a24 : PySem.W.nsIn K mainGlobals "_joined" = some (some (.ref f24)))
    (l24 : K.lookup f24 = some ⟨oc24, od24, .func (PySem.W.fnOf "_joined" "_joined" (defArgs s__joined) (defBody s__joined) (defScope s__joined) .none kV24 dc24 pm24 an24 cd24 ct24), sl24⟩)
    (c24 : PySem.W.codeIn K cd24 "_joined" = true)
    (k24 : PySem.W.keepIn K (.ref f24) = true)
    (a25 : PySem.W.nsIn K mainGlobals "_pattern_in" = some (some (.ref f25)))
    (l25 : K.lookup f25 = some ⟨oc25, od25, .func (PySem.W.fnOf "_pattern_in" "_pattern_in" (defArgs s__pattern_in) (defBody s__pattern_in) (defScope s__pattern_in) .none kV25 dc25 pm25 an25 cd25 ct25), sl25⟩)
    (c25 : PySem.W.codeIn K cd25 "_pattern_in" = true)
    (k25 : PySem.W.keepIn K (.ref f25) = true)
    (a26 : PySem.W.findIn K (.ref C_NoText) "__init__" = some (some (.ref f26)))
    (l26 : K.lookup f26 = some ⟨oc26, od26, .func (PySem.W.fnOf "__init__" "NoText.__init__" (defArgs s_NoText___init__) (defBody s_NoText___init__) (defScope s_NoText___init__) .none kV26 dc26 pm26 an26 cd26 ct26), sl26⟩)
    (c26 : PySem.W.codeIn K cd26 "NoText.__init__" = true)
    (k26 : PySem.W.keepIn K (.ref f26) = true)
    (i26 : PySem.W.isFn K (.ref f26) = true)
    (j26 : PySem.W.typeIn K (.ref f26) = some (.type "function"))
    (a27 : PySem.W.nsIn K mainGlobals "_whole_form" = some (some (.ref f27)))
    (l27 : K.lookup f27 = some ⟨oc27, od27, .func (PySem.W.fnOf "_whole_form" "_whole_form" (defArgs s__whole_form) (defBody s__whole_form) (defScope s__whole_form) .none kV27 dc27 pm27 an27 cd27 ct27), sl27⟩)
    (c27 : PySem.W.codeIn K cd27 "_whole_form" = true)
    (k27 : PySem.W.keepIn K (.ref f27) = true)
    (a28 : PySem.W.nsIn K mainGlobals "read_pattern" = some (some (.ref f28)))
    (l28 : K.lookup f28 = some ⟨oc28, od28, .func (PySem.W.fnOf "read_pattern" "read_pattern" (defArgs s_read_pattern) (defBody s_read_pattern) (defScope s_read_pattern) .none kV28 dc28 pm28 an28 cd28 ct28), sl28⟩)
    (c28 : PySem.W.codeIn K cd28 "read_pattern" = true)
    (k28 : PySem.W.keepIn K (.ref f28) = true)
    (a29 : PySem.W.nsIn K mainGlobals "_law_sign" = some (some (.ref f29)))
    (l29 : K.lookup f29 = some ⟨oc29, od29, .func (PySem.W.fnOf "_law_sign" "_law_sign" (defArgs s__law_sign) (defBody s__law_sign) (defScope s__law_sign) .none kV29 dc29 pm29 an29 cd29 ct29), sl29⟩)
    (c29 : PySem.W.codeIn K cd29 "_law_sign" = true)
    (k29 : PySem.W.keepIn K (.ref f29) = true)
    (a30 : PySem.W.nsIn K mainGlobals "_law_bent" = some (some (.ref f30)))
    (l30 : K.lookup f30 = some ⟨oc30, od30, .func (PySem.W.fnOf "_law_bent" "_law_bent" (defArgs s__law_bent) (defBody s__law_bent) (defScope s__law_bent) .none kV30 dc30 pm30 an30 cd30 ct30), sl30⟩)
    (c30 : PySem.W.codeIn K cd30 "_law_bent" = true)
    (k30 : PySem.W.keepIn K (.ref f30) = true)
    (a31 : PySem.W.nsIn K mainGlobals "_law_odd" = some (some (.ref f31)))
    (l31 : K.lookup f31 = some ⟨oc31, od31, .func (PySem.W.fnOf "_law_odd" "_law_odd" (defArgs s__law_odd) (defBody s__law_odd) (defScope s__law_odd) .none kV31 dc31 pm31 an31 cd31 ct31), sl31⟩)
    (c31 : PySem.W.codeIn K cd31 "_law_odd" = true)
    (k31 : PySem.W.keepIn K (.ref f31) = true)
    (a32 : PySem.W.nsIn K mainGlobals "_law_refused" = some (some (.ref f32)))
    (l32 : K.lookup f32 = some ⟨oc32, od32, .func (PySem.W.fnOf "_law_refused" "_law_refused" (defArgs s__law_refused) (defBody s__law_refused) (defScope s__law_refused) .none kV32 dc32 pm32 an32 cd32 ct32), sl32⟩)
    (c32 : PySem.W.codeIn K cd32 "_law_refused" = true)
    (k32 : PySem.W.keepIn K (.ref f32) = true)
    (a33 : PySem.W.nsIn K mainGlobals "_law_same_or_none" = some (some (.ref f33)))
    (l33 : K.lookup f33 = some ⟨oc33, od33, .func (PySem.W.fnOf "_law_same_or_none" "_law_same_or_none" (defArgs s__law_same_or_none) (defBody s__law_same_or_none) (defScope s__law_same_or_none) .none kV33 dc33 pm33 an33 cd33 ct33), sl33⟩)
    (c33 : PySem.W.codeIn K cd33 "_law_same_or_none" = true)
    (k33 : PySem.W.keepIn K (.ref f33) = true)
    (a34 : PySem.W.nsIn K mainGlobals "law" = some (some (.ref f34)))
    (l34 : K.lookup f34 = some ⟨oc34, od34, .func (PySem.W.fnOf "law" "law" (defArgs s_law) (defBody s_law) (defScope s_law) .none kV34 dc34 pm34 an34 cd34 ct34), sl34⟩)
    (c34 : PySem.W.codeIn K cd34 "law" = true)
    (k34 : PySem.W.keepIn K (.ref f34) = true)
    (z_ANY_SIGNS : PySem.W.nsIn K mainGlobals "ANY_SIGNS" = some (some (.str ((Str.ofString "<any>")) t_ANY_SIGNS)))
    (z_MOST_FORMS : PySem.W.nsIn K mainGlobals "MOST_FORMS" = some (some (.int (3) t_MOST_FORMS)))
    (z_MOST_PARTS : PySem.W.nsIn K mainGlobals "MOST_PARTS" = some (some (.int (4) t_MOST_PARTS)))
    (z_MOST_SIGNS : PySem.W.nsIn K mainGlobals "MOST_SIGNS" = some (some (.int (4) t_MOST_SIGNS)))
    (z_OPEN_PARTS : PySem.W.nsIn K mainGlobals "OPEN_PARTS" = some (some (.ref a_OPEN_PARTS)))
    (y_OPEN_PARTS : K.lookup a_OPEN_PARTS = some ⟨.type "tuple", td_OPEN_PARTS, .seq #[.str (Str.ofString "<digits>") t_OPEN_PARTS_0, .str (Str.ofString "<word>") t_OPEN_PARTS_1, .str (Str.ofString "<any>") t_OPEN_PARTS_2] tn_OPEN_PARTS, tl_OPEN_PARTS⟩)
    (z_SIGNS : PySem.W.nsIn K mainGlobals "SIGNS" = some (some (.str ((Str.ofString " #-.0123456789:>ABCDEFGHIJKLMNOPQRSTUVWXYZabcdefghijklmnopqrstuvwxyz")) t_SIGNS)))
    (z_ValueError : PySem.W.nsIn K mainGlobals "ValueError" = some none)
    (z_all : PySem.W.nsIn K mainGlobals "all" = some none)
    (z_enumerate : PySem.W.nsIn K mainGlobals "enumerate" = some none)
    (z_int : PySem.W.nsIn K mainGlobals "int" = some none)
    (z_isinstance : PySem.W.nsIn K mainGlobals "isinstance" = some none)
    (z_len : PySem.W.nsIn K mainGlobals "len" = some none)
    (z_list : PySem.W.nsIn K mainGlobals "list" = some none)
    (z_max : PySem.W.nsIn K mainGlobals "max" = some none)
    (z_min : PySem.W.nsIn K mainGlobals "min" = some none)
    (z_range : PySem.W.nsIn K mainGlobals "range" = some none)
    (z_str : PySem.W.nsIn K mainGlobals "str" = some none)
    (aC_Both : PySem.W.nsIn K mainGlobals "Both" = some (some (.ref C_Both)))
    (aC_Either : PySem.W.nsIn K mainGlobals "Either" = some (some (.ref C_Either)))
    (aC_Form : PySem.W.nsIn K mainGlobals "Form" = some (some (.ref C_Form)))
    (aC_GlueError : PySem.W.nsIn K mainGlobals "GlueError" = some (some (.ref C_GlueError)))
    (aC_NoForm : PySem.W.nsIn K mainGlobals "NoForm" = some (some (.ref C_NoForm)))
    (aC_NoText : PySem.W.nsIn K mainGlobals "NoText" = some (some (.ref C_NoText)))
    (pg_Both : PySem.W.plainGet K C_Both Str.empty = true) (hd_Both : PySem.W.hasDictIn K C_Both = true) (po_Both : PySem.W.plainOver K C_Both = true) (sa_Both : PySem.W.findIn K (.ref C_Both) "__setattr__" = some (some (.builtin "object.__setattr__"))) (mk_Both : PySem.W.makesIn K C_Both = true) (kc_Both : PySem.W.keepIn K (.ref C_Both) = true)
    (n_Both__one : PySem.W.findIn K (.ref C_Both) "_one" = some none)
    (n_Both__other : PySem.W.findIn K (.ref C_Both) "_other" = some none)
    (pg_Either : PySem.W.plainGet K C_Either Str.empty = true) (hd_Either : PySem.W.hasDictIn K C_Either = true) (po_Either : PySem.W.plainOver K C_Either = true) (sa_Either : PySem.W.findIn K (.ref C_Either) "__setattr__" = some (some (.builtin "object.__setattr__"))) (mk_Either : PySem.W.makesIn K C_Either = true) (kc_Either : PySem.W.keepIn K (.ref C_Either) = true)
    (n_Either__one : PySem.W.findIn K (.ref C_Either) "_one" = some none)
    (n_Either__other : PySem.W.findIn K (.ref C_Either) "_other" = some none)
    (pg_Form : PySem.W.plainGet K C_Form Str.empty = true) (hd_Form : PySem.W.hasDictIn K C_Form = true) (po_Form : PySem.W.plainOver K C_Form = true) (sa_Form : PySem.W.findIn K (.ref C_Form) "__setattr__" = some (some (.builtin "object.__setattr__"))) (mk_Form : PySem.W.makesIn K C_Form = true) (kc_Form : PySem.W.keepIn K (.ref C_Form) = true)
    (n_Form__cells : PySem.W.findIn K (.ref C_Form) "_cells" = some none)
    (n_Form__parts : PySem.W.findIn K (.ref C_Form) "_parts" = some none)
    (xl_NoForm : K.lookup C_NoForm = some (excClassObj nm_NoForm qn_NoForm C_NoForm nd_NoForm bs_NoForm [.ref C_GlueError, .type "ValueError", .type "Exception", .type "BaseException", .type "object"] true sn_NoForm su_NoForm ab_NoForm co_NoForm dd_NoForm m0_NoForm m1_NoForm m2_NoForm m3_NoForm m5_NoForm "ValueError.__new__"))
    (xs_NoForm : PySem.W.findIn K (.ref C_NoForm) "__setattr__" = some (some (.builtin "object.__setattr__"))) (xg_NoForm : PySem.W.findIn K (.ref C_NoForm) "__getattribute__" = some (some (.builtin "BaseException.__getattribute__"))) (xh_NoForm : PySem.W.findIn K (.ref C_NoForm) "__getattr__" = some none)
    (xe_NoForm : PySem.W.subIn K (.ref C_NoForm) (.type "BaseException") = some true) (xt_NoForm : PySem.W.typeIn K (.ref C_NoForm) = some (.type "type")) (xk_NoForm : PySem.W.keepIn K (.ref C_NoForm) = true) (xd_NoForm : PySem.W.hasDictIn K C_NoForm = true) (xi_NoForm : PySem.W.isClsIn K C_NoForm = true) (xu_NoForm : PySem.W.subIn K (.ref C_NoForm) (.ref C_NoForm) = some true)
    (xa_NoForm : PySem.W.findIn K (.ref C_NoForm) "__class__" = some (some (.builtin "object.__class__"))) (xn_NoForm : PySem.W.specialIn K (.builtin "object.__class__") "__get__" = some (some (.builtin "getset_descriptor.__get__"))) (xp_NoForm : PySem.W.takesIn K (.builtin "object.__class__") = some true) (xm_NoForm : PySem.W.mroIn K C_NoForm (.type "object") = some true)
    (xf_NoForm_at : PySem.W.findIn K (.ref C_NoForm) "at" = some none)
    (xl_NoText : K.lookup C_NoText = some (excClassObj nm_NoText qn_NoText C_NoText nd_NoText bs_NoText [.ref C_GlueError, .type "ValueError", .type "Exception", .type "BaseException", .type "object"] true sn_NoText su_NoText ab_NoText co_NoText dd_NoText m0_NoText m1_NoText m2_NoText m3_NoText m5_NoText "ValueError.__new__"))
    (xs_NoText : PySem.W.findIn K (.ref C_NoText) "__setattr__" = some (some (.builtin "object.__setattr__"))) (xg_NoText : PySem.W.findIn K (.ref C_NoText) "__getattribute__" = some (some (.builtin "BaseException.__getattribute__"))) (xh_NoText : PySem.W.findIn K (.ref C_NoText) "__getattr__" = some none)
    (xe_NoText : PySem.W.subIn K (.ref C_NoText) (.type "BaseException") = some true) (xt_NoText : PySem.W.typeIn K (.ref C_NoText) = some (.type "type")) (xk_NoText : PySem.W.keepIn K (.ref C_NoText) = true) (xd_NoText : PySem.W.hasDictIn K C_NoText = true) (xi_NoText : PySem.W.isClsIn K C_NoText = true) (xu_NoText : PySem.W.subIn K (.ref C_NoText) (.ref C_NoText) = some true)
    (xa_NoText : PySem.W.findIn K (.ref C_NoText) "__class__" = some (some (.builtin "object.__class__"))) (xn_NoText : PySem.W.specialIn K (.builtin "object.__class__") "__get__" = some (some (.builtin "getset_descriptor.__get__"))) (xp_NoText : PySem.W.takesIn K (.builtin "object.__class__") = some true) (xm_NoText : PySem.W.mroIn K C_NoText (.type "object") = some true)
    (xf_NoText_text : PySem.W.findIn K (.ref C_NoText) "text" = some none)
    (q_g : PySem.W.kitOne K (.ref C_NoText) (.ref C_GlueError) = some true)
    (q_v : PySem.W.kitOne K (.ref C_NoText) (.type "ValueError") = some true)
    (q_n : PySem.W.kitOne K (.ref C_NoText) (.ref C_NoForm) = some false)
    : ∃ fd : FuncData, (∀ (s : Shared) (v : Value), BindsTo s fd ⟨[v], []⟩ [("script", v)]) ∧ ∀ base : Heap, K.In base → base.Ns mainGlobals mg → FnOk l.prog w K mg base CX0 13 fa fd ["script"] (spLaw K) := by
  have e := hfa.symm.trans (PySem.W.mg_of X G a34)
  cases e
  have T : Txt K mg a_OPEN_PARTS C_Both C_Either C_Form C_GlueError C_NoForm C_NoText := { c_ANY_SIGNS := ⟨_, PySem.W.mg_of X G z_ANY_SIGNS, ⟨_, rfl⟩⟩, c_MOST_FORMS := ⟨_, PySem.W.mg_of X G z_MOST_FORMS, ⟨_, rfl⟩⟩, c_MOST_PARTS := ⟨_, PySem.W.mg_of X G z_MOST_PARTS, ⟨_, rfl⟩⟩, c_MOST_SIGNS := ⟨_, PySem.W.mg_of X G z_MOST_SIGNS, ⟨_, rfl⟩⟩, c_OPEN_PARTS := ⟨_, PySem.W.mg_of X G z_OPEN_PARTS, rfl⟩, o_OPEN_PARTS := ⟨_, _, _, y_OPEN_PARTS, rfl, rfl, sz_of (by simp), (.cons ⟨_, rfl⟩ (.cons ⟨_, rfl⟩ (.cons ⟨_, rfl⟩ .nil)))⟩, c_SIGNS := ⟨_, PySem.W.mg_of X G z_SIGNS, ⟨_, rfl⟩⟩, n_ValueError := PySem.W.mg_none_of X G z_ValueError, n_all := PySem.W.mg_none_of X G z_all, n_enumerate := PySem.W.mg_none_of X G z_enumerate, n_int := PySem.W.mg_none_of X G z_int, n_isinstance := PySem.W.mg_none_of X G z_isinstance, n_len := PySem.W.mg_none_of X G z_len, n_list := PySem.W.mg_none_of X G z_list, n_max := PySem.W.mg_none_of X G z_max, n_min := PySem.W.mg_none_of X G z_min, n_range := PySem.W.mg_none_of X G z_range, n_str := PySem.W.mg_none_of X G z_str, c_GlueError := ⟨_, PySem.W.mg_of X G aC_GlueError, rfl⟩, c_NoForm := ⟨_, PySem.W.mg_of X G aC_NoForm, rfl⟩, c_NoText := ⟨_, PySem.W.mg_of X G aC_NoText, rfl⟩, k_Both := ⟨pg_Both, hd_Both, po_Both, sa_Both⟩, a_Both__one := n_Both__one, a_Both__other := n_Both__other, k_Either := ⟨pg_Either, hd_Either, po_Either, sa_Either⟩, a_Either__one := n_Either__one, a_Either__other := n_Either__other, k_Form := ⟨pg_Form, hd_Form, po_Form, sa_Form⟩, a_Form__cells := n_Form__cells, a_Form__parts := n_Form__parts, x_NoForm := ⟨⟨⟨_, _, _, _, _, _, _, _, _, _, _, _, _, _, _, xl_NoForm, by rfl⟩, xs_NoForm, xe_NoForm, xt_NoForm, xk_NoForm⟩, ⟨xg_NoForm, xh_NoForm, xe_NoForm, xd_NoForm⟩, xi_NoForm, xa_NoForm, xn_NoForm, xp_NoForm, xm_NoForm, PySem.W.exm_ref xe_NoForm xd_NoForm xt_NoForm xu_NoForm⟩, m_NoForm := PySem.W.mg_of X G aC_NoForm, f_NoForm_at := xf_NoForm_at, x_NoText := ⟨⟨⟨_, _, _, _, _, _, _, _, _, _, _, _, _, _, _, xl_NoText, by rfl⟩, xs_NoText, xe_NoText, xt_NoText, xk_NoText⟩, ⟨xg_NoText, xh_NoText, xe_NoText, xd_NoText⟩, xi_NoText, xa_NoText, xn_NoText, xp_NoText, xm_NoText, PySem.W.exm_ref xe_NoText xd_NoText xt_NoText xu_NoText⟩, m_NoText := PySem.W.mg_of X G aC_NoText, f_NoText_text := xf_NoText_text, q_g := q_g, q_v := q_v, q_n := q_n }
  have F0 := fun_mk (st := s__law_take) l0 c0 k0
  have b0 := F0.binds (ps := ["pool", "many"]) fun _ _ _ _ _ _ us hl => match us, hl with | [_, _], _ => rfl
  have F1 := fun_mk (st := s__law_pool) l1 c1 k1
  have b1 := F1.binds (ps := ["script", "k"]) fun _ _ _ _ _ _ us hl => match us, hl with | [_, _], _ => rfl
  have F2 := fun_mk (st := s__law_all_signs) l2 c2 k2
  have b2 := F2.binds (ps := []) fun _ _ _ _ _ _ us hl => match us, hl with | [], _ => rfl
  have F3 := fun_mk (st := s_is_line) l3 c3 k3
  have b3 := F3.binds (ps := ["thing"]) fun _ _ _ _ _ _ us hl => match us, hl with | [_], _ => rfl
  have F4 := fun_mk (st := s_cells_of) l4 c4 k4
  have b4 := F4.binds (ps := ["parts"]) fun _ _ _ _ _ _ us hl => match us, hl with | [_], _ => rfl
  have F5 := fun_mk (st := s__law_text) l5 c5 k5
  have b5 := F5.binds (ps := ["pool"]) fun _ _ _ _ _ _ us hl => match us, hl with | [_], _ => rfl
  have F6 := fun_mk (st := s__law_rich) l6 c6 k6
  have b6 := F6.binds (ps := ["pool"]) fun _ _ _ _ _ _ us hl => match us, hl with | [_], _ => rfl
  have F7 := fun_mk (st := s__is_allowed) l7 c7 k7
  have b7 := F7.binds (ps := ["parts", "at"]) fun _ _ _ _ _ _ us hl => match us, hl with | [_, _], _ => rfl
  have F8 := fun_mk (st := s_NoForm___init__) l8 c8 k8
  have b8 := F8.binds (ps := ["self", "at"]) fun _ _ _ _ _ _ us hl => match us, hl with | [_, _], _ => rfl
  have F9 := fun_mk (st := s_Form___init__) l9 c9 k9
  have F10 := fun_mk (st := s_Form_forms) l10 c10 k10
  have b10 := F10.binds (ps := ["self"]) fun _ _ _ _ _ _ us hl => match us, hl with | [_], _ => rfl
  have F11 := fun_mk (st := s_Form___str__) l11 c11 k11
  have b11 := F11.binds (ps := ["self"]) fun _ _ _ _ _ _ us hl => match us, hl with | [_], _ => rfl
  have F12 := fun_mk (st := s_Both_forms) l12 c12 k12
  have b12 := F12.binds (ps := ["self"]) fun _ _ _ _ _ _ us hl => match us, hl with | [_], _ => rfl
  have F13 := fun_mk (st := s_Both___str__) l13 c13 k13
  have b13 := F13.binds (ps := ["self"]) fun _ _ _ _ _ _ us hl => match us, hl with | [_], _ => rfl
  have F14 := fun_mk (st := s_Either_forms) l14 c14 k14
  have b14 := F14.binds (ps := ["self"]) fun _ _ _ _ _ _ us hl => match us, hl with | [_], _ => rfl
  have F15 := fun_mk (st := s_Either___str__) l15 c15 k15
  have b15 := F15.binds (ps := ["self"]) fun _ _ _ _ _ _ us hl => match us, hl with | [_], _ => rfl
  have F16 := fun_mk (st := s__law_shape) l16 c16 k16
  have b16 := F16.binds (ps := ["pool", "many"]) fun _ _ _ _ _ _ us hl => match us, hl with | [_, _], _ => rfl
  have F17 := fun_mk (st := s__law_shown) l17 c17 k17
  have b17 := F17.binds (ps := ["shape", "drawn"]) fun _ _ _ _ _ _ us hl => match us, hl with | [_, _], _ => rfl
  have F18 := fun_mk (st := s__check_room) l18 c18 k18
  have b18 := F18.binds (ps := ["one", "other"]) fun _ _ _ _ _ _ us hl => match us, hl with | [_, _], _ => rfl
  have F19 := fun_mk (st := s_Both___init__) l19 c19 k19
  have b19 := F19.binds (ps := ["self", "one", "other"]) fun _ _ _ _ _ _ us hl => match us, hl with | [_, _, _], _ => rfl
  have F20 := fun_mk (st := s_Either___init__) l20 c20 k20
  have b20 := F20.binds (ps := ["self", "one", "other"]) fun _ _ _ _ _ _ us hl => match us, hl with | [_, _, _], _ => rfl
  have F21 := fun_mk (st := s__part_at) l21 c21 k21
  have b21 := F21.binds (ps := ["text", "at"]) fun _ _ _ _ _ _ us hl => match us, hl with | [_, _], _ => rfl
  have F22 := fun_mk (st := s__parts_of) l22 c22 k22
  have b22 := F22.binds (ps := ["text"]) fun _ _ _ _ _ _ us hl => match us, hl with | [_], _ => rfl
  have F23 := fun_mk (st := s__middle) l23 c23 k23
  have b23 := F23.binds (ps := ["inner"]) fun _ _ _ _ _ _ us hl => match us, hl with | [_], _ => rfl
  have F24 := fun_mk (st := s__joined) l24 c24 k24
  have b24 := F24.binds (ps := ["text", "depth"]) fun _ _ _ _ _ _ us hl => match us, hl with | [_, _], _ => rfl
  have F25 := fun_mk (st := s__pattern_in) l25 c25 k25
  have b25 := F25.binds (ps := ["text", "depth"]) fun _ _ _ _ _ _ us hl => match us, hl with | [_, _], _ => rfl
  have F26 := fun_mk (st := s_NoText___init__) l26 c26 k26
  have b26 := F26.binds (ps := ["self", "text"]) fun _ _ _ _ _ _ us hl => match us, hl with | [_, _], _ => rfl
  have F27 := fun_mk (st := s__whole_form) l27 c27 k27
  have b27 := F27.binds (ps := ["text", "parts"]) fun _ _ _ _ _ _ us hl => match us, hl with | [_, _], _ => rfl
  have F28 := fun_mk (st := s_read_pattern) l28 c28 k28
  have b28 := F28.binds (ps := ["text"]) fun _ _ _ _ _ _ us hl => match us, hl with | [_], _ => rfl
  have F29 := fun_mk (st := s__law_sign) l29 c29 k29
  have b29 := F29.binds (ps := ["pool"]) fun _ _ _ _ _ _ us hl => match us, hl with | [_], _ => rfl
  have F30 := fun_mk (st := s__law_bent) l30 c30 k30
  have b30 := F30.binds (ps := ["pool", "text"]) fun _ _ _ _ _ _ us hl => match us, hl with | [_, _], _ => rfl
  have F31 := fun_mk (st := s__law_odd) l31 c31 k31
  have b31 := F31.binds (ps := []) fun _ _ _ _ _ _ us hl => match us, hl with | [], _ => rfl
  have F32 := fun_mk (st := s__law_refused) l32 c32 k32
  have b32 := F32.binds (ps := ["text"]) fun _ _ _ _ _ _ us hl => match us, hl with | [_], _ => rfl
  have F33 := fun_mk (st := s__law_same_or_none) l33 c33 k33
  have b33 := F33.binds (ps := ["text"]) fun _ _ _ _ _ _ us hl => match us, hl with | [_], _ => rfl
  have F34 := fun_mk (st := s_law) l34 c34 k34
  refine ⟨PySem.W.fnOf "law" "law" (defArgs s_law) (defBody s_law) (defScope s_law) .none kV34 dc34 pm34 an34 cd34 ct34, fun s v => .of_eq rfl, fun base _ _ => ?_⟩
  have D__law_take : Df l.prog w K mg base "_law_take" ["pool", "many"] 1 spTake := ⟨f0, _, PySem.W.mg_of X G a0, k0, b0, ok__law_take F0 T⟩
  have D__law_pool : Df l.prog w K mg base "_law_pool" ["script", "k"] 1 (spPool K) := ⟨f1, _, PySem.W.mg_of X G a1, k1, b1, ok__law_pool F1 T⟩
  have D__law_all_signs : Df l.prog w K mg base "_law_all_signs" [] 1 (spK (.str signsS)) := ⟨f2, _, PySem.W.mg_of X G a2, k2, b2, ok__law_all_signs F2⟩
  have D_is_line : Df l.prog w K mg base "is_line" ["thing"] 1 (spIsLine K) := ⟨f3, _, PySem.W.mg_of X G a3, k3, b3, ok_is_line F3 T⟩
  have D_cells_of__t : Df l.prog w K mg base "cells_of" ["parts"] 1 (spCellsT K) := ⟨f4, _, PySem.W.mg_of X G a4, k4, b4, ok_cells_of__t F4 T⟩
  have D__law_text : Df l.prog w K mg base "_law_text" ["pool"] 2 (spPT lawText) := ⟨f5, _, PySem.W.mg_of X G a5, k5, b5, ok__law_text F5 T D__law_take D__law_all_signs⟩
  have D__law_rich : Df l.prog w K mg base "_law_rich" ["pool"] 3 spRich := ⟨f6, _, PySem.W.mg_of X G a6, k6, b6, ok__law_rich F6 T D__law_take D__law_text⟩
  have D__is_allowed : Df l.prog w K mg base "_is_allowed" ["parts", "at"] 2 (spAllowX K) := ⟨f7, _, PySem.W.mg_of X G a7, k7, b7, ok__is_allowed F7 T D_is_line⟩
  have D_NoForm___init__ : DfX l.prog w K mg base "NoForm" C_NoForm ["self", "at"] 1 (spXI C_NoForm "at") := ⟨f8, _, T.x_NoForm.o, a8, j8, PySem.W.mg_of X G aC_NoForm, b8, ok_NoForm___init__ F8 T⟩
  have D_Form___init__ : DfSN l.prog w K mg base "Form" C_Form 3 (spFormX C_Form C_NoForm) := ⟨f9, ⟨mk_Form, a9, i9, kc_Form⟩, PySem.W.mg_of X G aC_Form, okn_Form___init__ F9 T D_NoForm___init__ D__is_allowed D_cells_of__t⟩
  have D_Form_forms : DfM l.prog w K mg base C_Form "forms" ["self"] 1 (spForms C_Form C_Both C_Either none 0) := ⟨f10, _, ⟨a10, i10, k10⟩, b10, ok_Form_forms F10 T⟩
  have D_Form___str__ : DfSt l.prog w K mg base C_Form ["self"] 1 (spStrP C_Form C_Both C_Either none 0) := ⟨f11, _, ⟨⟨a11, i11⟩, fm_Form, ob_Form⟩, b11, ok_Form___str__ F11 T⟩
  have D_Both_forms__v1 : DfM l.prog w K mg base C_Both "forms" ["self"] 2 (spForms C_Form C_Both C_Either (some true) 1) := ⟨f12, _, ⟨a12, i12, k12⟩, b12, ok_Both_forms__v1 F12 T D_Form_forms⟩
  have D_Both___str____v1 : DfSt l.prog w K mg base C_Both ["self"] 3 (spStrP C_Form C_Both C_Either (some true) 1) := ⟨f13, _, ⟨⟨a13, i13⟩, fm_Both, ob_Both⟩, b13, ok_Both___str____v1 F13 T D_Form___str__⟩
  have D_Either_forms__v1 : DfM l.prog w K mg base C_Either "forms" ["self"] 2 (spForms C_Form C_Both C_Either (some false) 1) := ⟨f14, _, ⟨a14, i14, k14⟩, b14, ok_Either_forms__v1 F14 T D_Form_forms⟩
  have D_Either___str____v1 : DfSt l.prog w K mg base C_Either ["self"] 3 (spStrP C_Form C_Both C_Either (some false) 1) := ⟨f15, _, ⟨⟨a15, i15⟩, fm_Either, ob_Either⟩, b15, ok_Either___str____v1 F15 T D_Form___str__⟩
  have D_Both_forms__v2 : DfM l.prog w K mg base C_Both "forms" ["self"] 3 (spForms C_Form C_Both C_Either (some true) 2) := ⟨f12, _, ⟨a12, i12, k12⟩, b12, ok_Both_forms__v2 F12 T D_Form_forms D_Both_forms__v1 D_Either_forms__v1⟩
  have D_Both___str____v2 : DfSt l.prog w K mg base C_Both ["self"] 5 (spStrP C_Form C_Both C_Either (some true) 2) := ⟨f13, _, ⟨⟨a13, i13⟩, fm_Both, ob_Both⟩, b13, ok_Both___str____v2 F13 T D_Form___str__ D_Both___str____v1 D_Either___str____v1⟩
  have D_Either_forms__v2 : DfM l.prog w K mg base C_Either "forms" ["self"] 3 (spForms C_Form C_Both C_Either (some false) 2) := ⟨f14, _, ⟨a14, i14, k14⟩, b14, ok_Either_forms__v2 F14 T D_Form_forms D_Both_forms__v1 D_Either_forms__v1⟩
  have D_Either___str____v2 : DfSt l.prog w K mg base C_Either ["self"] 5 (spStrP C_Form C_Both C_Either (some false) 2) := ⟨f15, _, ⟨⟨a15, i15⟩, fm_Either, ob_Either⟩, b15, ok_Either___str____v2 F15 T D_Form___str__ D_Both___str____v1 D_Either___str____v1⟩
  have D__law_shape : Df l.prog w K mg base "_law_shape" ["pool", "many"] 2 spShape := ⟨f16, _, PySem.W.mg_of X G a16, k16, b16, ok__law_shape F16 T D__law_take⟩
  have D__law_shown__v0 : Df l.prog w K mg base "_law_shown" ["shape", "drawn"] 1 (spShown 0) := ⟨f17, _, PySem.W.mg_of X G a17, k17, b17, ok__law_shown__v0 F17 T⟩
  have D__law_shown__v1 : Df l.prog w K mg base "_law_shown" ["shape", "drawn"] 2 (spShown 1) := ⟨f17, _, PySem.W.mg_of X G a17, k17, b17, ok__law_shown__v1 F17 T D__law_shown__v0⟩
  have D__law_shown__v2 : Df l.prog w K mg base "_law_shown" ["shape", "drawn"] 3 (spShown 2) := ⟨f17, _, PySem.W.mg_of X G a17, k17, b17, ok__law_shown__v2 F17 T D__law_shown__v1⟩
  have D__law_shown__v3 : Df l.prog w K mg base "_law_shown" ["shape", "drawn"] 4 (spShown 3) := ⟨f17, _, PySem.W.mg_of X G a17, k17, b17, ok__law_shown__v3 F17 T D__law_shown__v2⟩
  have D__check_room : DfR l.prog w K mg base "_check_room" ["one", "other"] 4 (spRoom C_Form C_Both C_Either C_NoForm) := ⟨f18, _, PySem.W.mg_of X G a18, k18, b18, okx__check_room F18 T D_Form_forms D_Both_forms__v2 D_Either_forms__v2 D_NoForm___init__⟩
  have D_Both___init__ : DfIX l.prog w K mg base "Both" C_Both ["self", "one", "other"] 5 (spPairI C_Both C_Form C_Both C_Either C_NoForm) := ⟨f19, _, ⟨mk_Both, a19, i19, kc_Both⟩, PySem.W.mg_of X G aC_Both, b19, okx_Both___init__ F19 T D__check_room⟩
  have D_Either___init__ : DfIX l.prog w K mg base "Either" C_Either ["self", "one", "other"] 5 (spPairI C_Either C_Form C_Both C_Either C_NoForm) := ⟨f20, _, ⟨mk_Either, a20, i20, kc_Either⟩, PySem.W.mg_of X G aC_Either, b20, okx_Either___init__ F20 T D__check_room⟩
  have D__part_at : Df l.prog w K mg base "_part_at" ["text", "at"] 1 spPartAt := ⟨f21, _, PySem.W.mg_of X G a21, k21, b21, ok__part_at F21 T⟩
  have D__parts_of : Df l.prog w K mg base "_parts_of" ["text"] 2 spPartsAny := ⟨f22, _, PySem.W.mg_of X G a22, k22, b22, ok__parts_of F22 T D__part_at⟩
  have D__middle : Df l.prog w K mg base "_middle" ["inner"] 1 spMidAny := ⟨f23, _, PySem.W.mg_of X G a23, k23, b23, ok__middle F23 T⟩
  have D__joined__v0 : Df l.prog w K mg base "_joined" ["text", "depth"] 1 (spJoinA C_Form C_Both C_Either 0) := ⟨f24, _, PySem.W.mg_of X G a24, k24, b24, ok__joined__v0 F24 T⟩
  have D__pattern_in__v0 : Df l.prog w K mg base "_pattern_in" ["text", "depth"] 6 (spReadA C_Form C_Both C_Either 0) := ⟨f25, _, PySem.W.mg_of X G a25, k25, b25, ok__pattern_in__v0 F25 T D__parts_of D_Form___init__ D__joined__v0⟩
  have D__joined__v1 : Df l.prog w K mg base "_joined" ["text", "depth"] 7 (spJoinA C_Form C_Both C_Either 1) := ⟨f24, _, PySem.W.mg_of X G a24, k24, b24, ok__joined__v1 F24 T D__middle D__pattern_in__v0 D_Both___init__ D_Either___init__⟩
  have D__pattern_in__v1 : Df l.prog w K mg base "_pattern_in" ["text", "depth"] 8 (spReadA C_Form C_Both C_Either 1) := ⟨f25, _, PySem.W.mg_of X G a25, k25, b25, ok__pattern_in__v1 F25 T D__parts_of D_Form___init__ D__joined__v1⟩
  have D__joined__v2 : Df l.prog w K mg base "_joined" ["text", "depth"] 9 (spJoinA C_Form C_Both C_Either 2) := ⟨f24, _, PySem.W.mg_of X G a24, k24, b24, ok__joined__v2 F24 T D__middle D__pattern_in__v1 D_Both___init__ D_Either___init__⟩
  have D_NoText___init__ : DfX l.prog w K mg base "NoText" C_NoText ["self", "text"] 1 (spXI C_NoText "text") := ⟨f26, _, T.x_NoText.o, a26, j26, PySem.W.mg_of X G aC_NoText, b26, ok_NoText___init__ F26 T⟩
  have D_NoText___init__H : DfHX l.prog w K mg base "NoText" C_NoText ["self", "text"] 1 (spXI C_NoText "text") := ⟨f26, _, T.x_NoText.o, a26, j26, PySem.W.mg_of X G aC_NoText, b26, okh_NoText___init__ F26 T⟩
  have D__whole_form : DfR l.prog w K mg base "_whole_form" ["text", "parts"] 5 (spWholeX C_Form C_NoText) := ⟨f27, _, PySem.W.mg_of X G a27, k27, b27, okx__whole_form F27 T D_Form___init__ D_NoText___init__H⟩
  have D_read_pattern : DfR l.prog w K mg base "read_pattern" ["text"] 10 (spReadX C_Form C_Both C_Either C_NoText) := ⟨f28, _, PySem.W.mg_of X G a28, k28, b28, okx_read_pattern F28 T D__parts_of D__whole_form D__joined__v2 D_NoText___init__⟩
  have D__law_sign : Df l.prog w K mg base "_law_sign" ["pool"] 2 (spPT lawSign) := ⟨f29, _, PySem.W.mg_of X G a29, k29, b29, ok__law_sign F29 T D__law_take⟩
  have D__law_bent : Df l.prog w K mg base "_law_bent" ["pool", "text"] 3 spBent := ⟨f30, _, PySem.W.mg_of X G a30, k30, b30, ok__law_bent F30 T D__law_take D__law_sign⟩
  have D__law_odd : Df l.prog w K mg base "_law_odd" [] 1 spOdd := ⟨f31, _, PySem.W.mg_of X G a31, k31, b31, ok__law_odd F31 T⟩
  have D__law_refused : Df l.prog w K mg base "_law_refused" ["text"] 11 spRefused := ⟨f32, _, PySem.W.mg_of X G a32, k32, b32, ok__law_refused F32 T D_read_pattern⟩
  have D__law_same_or_none : Df l.prog w K mg base "_law_same_or_none" ["text"] 11 spSame := ⟨f33, _, PySem.W.mg_of X G a33, k33, b33, ok__law_same_or_none F33 T D_read_pattern D_Form___str__ D_Both___str____v2 D_Either___str____v2⟩
  exact ok_law F34 T D__law_odd D__law_refused D__law_pool D__law_take D__law_rich D__law_shape D__law_shown__v3 D__law_bent D__law_same_or_none D_read_pattern D_Form___str__ D_Both___str____v2 D_Either___str____v2
theorem walk {l : PySem.W.OpenLaw} {q : Program} {loose : List Str} {XP : (Str → Option Value) → Heap → Prop} {YP : World → Heap → Prop} {d : DefRec} {K : Params → PySem.W.Frag} (hn : l.most = some 63) (hdf : d.params.defaults = [])
    (hY : ∀ (w : World) (h : Heap), YP w h → (K w.params).In h)
    (F : ∀ (w : World) (mg : Str → Option Value) (fa : Addr) (h : Heap), (K w.params).In h → h.Ns mainGlobals mg → mg d.name = some (.ref fa) →
      ∃ fd : FuncData, (∀ (s : Shared) (u : Value), BindsTo s fd ⟨[u], []⟩ [("script", u)]) ∧ ∀ base : Heap, (K w.params).In base → base.Ns mainGlobals mg → FnOk l.prog w (K w.params) mg base CX0 13 fa fd ["script"] (spLaw (K w.params))) :
    PySem.W.WalkO q loose XP YP l.row.toRowW d [] (fun f vs => PySem.call f vs) :=
  L2.walk_of (n := 63) (k := 13) (x := "script") (CX := fun _ => CX0) (sp := fun w => spLaw (K w.params)) hn (by decide) hdf ⟨rfl, by decide, by decide⟩ hY F (fun _ _ a ns hl _ hS => ⟨a, ns, rfl, hS, hl, fun _ => rfl⟩) fun _ _ _ _ _ z => z
end Q

open PySem PySem.W PyProof.Rows in
set_option maxRecDepth 100000 in
set_option maxHeartbeats 0 in
theorem PySem.Challenge.cw_gluedlines_k07_whole_pattern_texts_spoil_holds : PySem.Challenge.rw_gluedlines_k07_whole_pattern_texts_spoil.Holds := by
  w_on; o_law; k_head; (case hw => w_witness2)
  k_fill
  refine Q.walk (l := PySem.Challenge.rw_gluedlines_k07_whole_pattern_texts_spoil) rfl rfl (fun w h Y => PySem.W.kIn_of Y) ?F
  case F =>
    intro w mg fa h KX G hmg
    refine' Q.all_mk KX G hmg ?a0 ?l0 ?c0 ?k0 ?a1 ?l1 ?c1 ?k1 ?a2 ?l2 ?c2 ?k2 ?a3 ?l3 ?c3 ?k3 ?a4 ?l4 ?c4 ?k4 ?a5 ?l5 ?c5 ?k5 ?a6 ?l6 ?c6 ?k6 ?a7 ?l7 ?c7 ?k7 ?a8 ?l8 ?c8 ?k8 ?i8 ?j8 ?a9 ?l9 ?c9 ?k9 ?i9 ?j9 ?a10 ?l10 ?c10 ?k10 ?i10 ?j10 ?a11 ?l11 ?c11 ?k11 ?i11 ?j11 ?fm_Form ?ob_Form ?a12 ?l12 ?c12 ?k12 ?i12 ?j12 ?a13 ?l13 ?c13 ?k13 ?i13 ?j13 ?fm_Both ?ob_Both ?a14 ?l14 ?c14 ?k14 ?i14 ?j14 ?a15 ?l15 ?c15 ?k15 ?i15 ?j15 ?fm_Either ?ob_Either ?a16 ?l16 ?c16 ?k16 ?a17 ?l17 ?c17 ?k17 ?a18 ?l18 ?c18 ?k18 ?a19 ?l19 ?c19 ?k19 ?i19 ?j19 ?a20 ?l20 ?c20 ?k20 ?i20 ?j20 ?a21 ?l21 ?c21 ?k21 ?a22 ?l22 ?c22 ?k22 ?a23 ?l23 ?c23 ?k23 ?a24 ?l24 ?c24 ?k24 ?a25 ?l25 ?c25 ?k25 ?a26 ?l26 ?c26 ?k26 ?i26 ?j26 ?a27 ?l27 ?c27 ?k27 ?a28 ?l28 ?c28 ?k28 ?a29 ?l29 ?c29 ?k29 ?a30 ?l30 ?c30 ?k30 ?a31 ?l31 ?c31 ?k31 ?a32 ?l32 ?c32 ?k32 ?a33 ?l33 ?c33 ?k33 ?a34 ?l34 ?c34 ?k34 ?z_ANY_SIGNS ?z_MOST_FORMS ?z_MOST_PARTS ?z_MOST_SIGNS ?z_OPEN_PARTS ?y_OPEN_PARTS ?z_SIGNS ?z_ValueError ?z_all ?z_enumerate ?z_int ?z_isinstance ?z_len ?z_list ?z_max ?z_min ?z_range ?z_str ?aC_Both ?aC_Either ?aC_Form ?aC_GlueError ?aC_NoForm ?aC_NoText ?pg_Both ?hd_Both ?po_Both ?sa_Both ?mk_Both ?kc_Both ?n_Both__one ?n_Both__other ?pg_Either ?hd_Either ?po_Either ?sa_Either ?mk_Either ?kc_Either ?n_Either__one ?n_Either__other ?pg_Form ?hd_Form ?po_Form ?sa_Form ?mk_Form ?kc_Form ?n_Form__cells ?n_Form__parts ?xl_NoForm ?xs_NoForm ?xg_NoForm ?xh_NoForm ?xe_NoForm ?xt_NoForm ?xk_NoForm ?xd_NoForm ?xi_NoForm ?xu_NoForm ?xa_NoForm ?xn_NoForm ?xp_NoForm ?xm_NoForm ?xf_NoForm_at ?xl_NoText ?xs_NoText ?xg_NoText ?xh_NoText ?xe_NoText ?xt_NoText ?xk_NoText ?xd_NoText ?xi_NoText ?xu_NoText ?xa_NoText ?xn_NoText ?xp_NoText ?xm_NoText ?xf_NoText_text ?q_g ?q_v ?q_n
    (case aC_Both => k_is)
    (case aC_Either => k_is)
    (case aC_Form => k_is)
    (case aC_GlueError => k_is)
    (case aC_NoForm => k_is)
    (case aC_NoText => k_is)
    (case pg_Both => k_is)
    (case hd_Both => k_is)
    (case po_Both => k_is)
    (case sa_Both => k_is)
    (case mk_Both => k_is)
    (case kc_Both => k_is)
    (case n_Both__one => k_is)
    (case n_Both__other => k_is)
    (case pg_Either => k_is)
    (case hd_Either => k_is)
    (case po_Either => k_is)
    (case sa_Either => k_is)
    (case mk_Either => k_is)
    (case kc_Either => k_is)
    (case n_Either__one => k_is)
    (case n_Either__other => k_is)
    (case pg_Form => k_is)
    (case hd_Form => k_is)
    (case po_Form => k_is)
    (case sa_Form => k_is)
    (case mk_Form => k_is)
    (case kc_Form => k_is)
    (case n_Form__cells => k_is)
    (case n_Form__parts => k_is)
    (case xl_NoForm => k_is)
    (case xs_NoForm => k_is)
    (case xg_NoForm => k_is)
    (case xh_NoForm => k_is)
    (case xe_NoForm => k_is)
    (case xt_NoForm => k_is)
    (case xk_NoForm => k_is)
    (case xd_NoForm => k_is)
    (case xi_NoForm => k_is)
    (case xu_NoForm => first | rfl | k_is)
    (case xa_NoForm => k_is)
    (case xn_NoForm => k_is)
    (case xp_NoForm => k_is)
    (case xm_NoForm => k_is)
    (case xf_NoForm_at => k_is)
    (case xl_NoText => k_is)
    (case xs_NoText => k_is)
    (case xg_NoText => k_is)
    (case xh_NoText => k_is)
    (case xe_NoText => k_is)
    (case xt_NoText => k_is)
    (case xk_NoText => k_is)
    (case xd_NoText => k_is)
    (case xi_NoText => k_is)
    (case xu_NoText => first | rfl | k_is)
    (case xa_NoText => k_is)
    (case xn_NoText => k_is)
    (case xp_NoText => k_is)
    (case xm_NoText => k_is)
    (case xf_NoText_text => k_is)
    (case a0 => k_is)
    (case l0 => k_is)
    (case c0 => k_is)
    (case k0 => k_is)
    (case a1 => k_is)
    (case l1 => k_is)
    (case c1 => k_is)
    (case k1 => k_is)
    (case a2 => k_is)
    (case l2 => k_is)
    (case c2 => k_is)
    (case k2 => k_is)
    (case a3 => k_is)
    (case l3 => k_is)
    (case c3 => k_is)
    (case k3 => k_is)
    (case a4 => k_is)
    (case l4 => k_is)
    (case c4 => k_is)
    (case k4 => k_is)
    (case a5 => k_is)
    (case l5 => k_is)
    (case c5 => k_is)
    (case k5 => k_is)
    (case a6 => k_is)
    (case l6 => k_is)
    (case c6 => k_is)
    (case k6 => k_is)
    (case a7 => k_is)
    (case l7 => k_is)
    (case c7 => k_is)
    (case k7 => k_is)
    (case a8 => k_is)
    (case l8 => k_is)
    (case c8 => k_is)
    (case k8 => k_is)
    (case i8 => k_is)
    (case j8 => k_is)
    (case a9 => k_is)
    (case l9 => k_is)
    (case c9 => k_is)
    (case k9 => k_is)
    (case i9 => k_is)
    (case j9 => k_is)
    (case a10 => k_is)
    (case l10 => k_is)
    (case c10 => k_is)
    (case k10 => k_is)
    (case i10 => k_is)
    (case j10 => k_is)
    (case a11 => k_is)
    (case l11 => k_is)
    (case c11 => k_is)
    (case k11 => k_is)
    (case i11 => k_is)
    (case j11 => k_is)
    (case fm_Form => k_is)
    (case ob_Form => k_is)
    (case a12 => k_is)
    (case l12 => k_is)
    (case c12 => k_is)
    (case k12 => k_is)
    (case i12 => k_is)
    (case j12 => k_is)
    (case a13 => k_is)
    (case l13 => k_is)
    (case c13 => k_is)
    (case k13 => k_is)
    (case i13 => k_is)
    (case j13 => k_is)
    (case fm_Both => k_is)
    (case ob_Both => k_is)
    (case a14 => k_is)
    (case l14 => k_is)
    (case c14 => k_is)
    (case k14 => k_is)
    (case i14 => k_is)
    (case j14 => k_is)
    (case a15 => k_is)
    (case l15 => k_is)
    (case c15 => k_is)
    (case k15 => k_is)
    (case i15 => k_is)
    (case j15 => k_is)
    (case fm_Either => k_is)
    (case ob_Either => k_is)
    (case a16 => k_is)
    (case l16 => k_is)
    (case c16 => k_is)
    (case k16 => k_is)
    (case a17 => k_is)
    (case l17 => k_is)
    (case c17 => k_is)
    (case k17 => k_is)
    (case a18 => k_is)
    (case l18 => k_is)
    (case c18 => k_is)
    (case k18 => k_is)
    (case a19 => k_is)
    (case l19 => k_is)
    (case c19 => k_is)
    (case k19 => k_is)
    (case i19 => k_is)
    (case j19 => k_is)
    (case a20 => k_is)
    (case l20 => k_is)
    (case c20 => k_is)
    (case k20 => k_is)
    (case i20 => k_is)
    (case j20 => k_is)
    (case a21 => k_is)
    (case l21 => k_is)
    (case c21 => k_is)
    (case k21 => k_is)
    (case a22 => k_is)
    (case l22 => k_is)
    (case c22 => k_is)
    (case k22 => k_is)
    (case a23 => k_is)
    (case l23 => k_is)
    (case c23 => k_is)
    (case k23 => k_is)
    (case a24 => k_is)
    (case l24 => k_is)
    (case c24 => k_is)
    (case k24 => k_is)
    (case a25 => k_is)
    (case l25 => k_is)
    (case c25 => k_is)
    (case k25 => k_is)
    (case a26 => k_is)
    (case l26 => k_is)
    (case c26 => k_is)
    (case k26 => k_is)
    (case i26 => k_is)
    (case j26 => k_is)
    (case a27 => k_is)
    (case l27 => k_is)
    (case c27 => k_is)
    (case k27 => k_is)
    (case a28 => k_is)
    (case l28 => k_is)
    (case c28 => k_is)
    (case k28 => k_is)
    (case a29 => k_is)
    (case l29 => k_is)
    (case c29 => k_is)
    (case k29 => k_is)
    (case a30 => k_is)
    (case l30 => k_is)
    (case c30 => k_is)
    (case k30 => k_is)
    (case a31 => k_is)
    (case l31 => k_is)
    (case c31 => k_is)
    (case k31 => k_is)
    (case a32 => k_is)
    (case l32 => k_is)
    (case c32 => k_is)
    (case k32 => k_is)
    (case a33 => k_is)
    (case l33 => k_is)
    (case c33 => k_is)
    (case k33 => k_is)
    (case a34 => k_is)
    (case l34 => k_is)
    (case c34 => k_is)
    (case k34 => k_is)
    (case z_ANY_SIGNS => k_is)
    (case z_MOST_FORMS => k_is)
    (case z_MOST_PARTS => k_is)
    (case z_MOST_SIGNS => k_is)
    (case z_OPEN_PARTS => k_is)
    (case y_OPEN_PARTS => k_is)
    (case z_SIGNS => k_is)
    (case z_ValueError => k_is)
    (case z_all => k_is)
    (case z_enumerate => k_is)
    (case z_int => k_is)
    (case z_isinstance => k_is)
    (case z_len => k_is)
    (case z_list => k_is)
    (case z_max => k_is)
    (case z_min => k_is)
    (case z_range => k_is)
    (case z_str => k_is)
    (case q_g => first | k_is | kit_is)
    (case q_v => first | k_is | kit_is)
    (case q_n => first | k_is | kit_is)
