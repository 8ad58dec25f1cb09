import PyProof.Rows.All
import Wide.All
import OpenK.AllK
import Wide.FinOn
import HandS.ForMost
import HandS.Evl
import HandS.Style
import HandS.Wide
import HandS.IsInst
import HandS.Walk
import HandS.EndBits
import HandS.Conv
import HandS.More
import HandS.Star
import HandS.OwnEq
import HandS.ExcInit
import HandS.ExcField
import HandS.ExcOwn
import HandS.HotCalls
import HandS.WordsExc
import HandS.ClsMeth
import HandS.ExcIs
import KE.KExcIs
import HandS.Set
import HandS.Strs
import HandS.Zip
import KE.GoesMore
import KE.GoesZip
import KE.GoesEnum
import HandS.FStr
import HandS.Text
import KE.KOpsOwn
import KE.KFmtOwn
import KE.KCallOwn
import HandS.Base
import HandS.Call
import HandS.Exc
import HandS.ExcCtx
import HandS.Hot
import HandS.RaiseFrom
import HandS.SuiteRaise
import HandS.TryOnly
import HandS.ExcInitHot
import PyProof.NsDelKeeps
import HandS.Dict
import HandS.SortInts
import KE.KDictSum
import KE.KDictList
import PyProof.Rows.SortShell
import HandS.SetBool
import OpenK.KOps
import OpenK.KMeth
import HandS.NoneIn
import HandS.Property
import HandS.MakeKwOnly
import KE.DataFind
import KE.KParD
import PySem.Challenge.RW_gluedlines_k26_rules_made_and_changed
set_option Elab.async false
set_option linter.all false
set_option maxRecDepth 100000
set_option maxHeartbeats 2000000
/-! Fw: what every law's proof here rests on: defs and constants at hand, a pool that draws change, texts walked, lists compared. -/
namespace Kz
open PySem PySem.Spec PyProof.Rows L2 Evl StX

/-! ### constants and defs of the text at hand -/
def Cst (mg : Str → Option Value) (x : Str) (v : V) : Prop := ∃ u, mg x = some u ∧ RelV v u
theorem pe_cst {X : Cx} {x : Str} {v : V} {pos : Pos} (h : Cst X.mg x v) (hg : Gl X x) (hd : (x == ("__debug__" : Str)) = false := by decide) : PE X (.Name x pos) (tC v) := by
  obtain ⟨u, hm, r⟩ := h
  exact pe_glob hg hm r hd
def Df (P : Program) (w : World) (K : PySem.W.Frag) (mg : Str → Option Value) (base : Heap) (x : Str) (ps : List Str) (k : Nat) (sp : Sp) : Prop :=
  ∃ (f : Addr) (fd : FuncData), mg x = some (.ref f) ∧ PySem.W.keepIn K (.ref f) = true ∧ Binds K fd ps [] ∧ FnOk P w K mg base CX0 k f fd ps sp
theorem pe_df {X : Cx} {k : Nat} {ps : List Str} {sp : Sp} {x : Str} {p pos : Pos} {e : Expr} {es : List Expr} {t : TA} (D : Df X.prog X.w X.K X.mg X.base x ps k sp) (hr : Room k X.A) (hg : Gl X x)
    (ha : PA X (e :: es) t) (hdb : (x == ("__debug__" : Str)) = false := by decide) (he : starEach (e :: es) X.env = (false, eval e X.env) :: starEach es X.env := by rfl) (hpl : (backTo pos (starEach es X.env)).any (·.1) = false := by rfl) :
    PE X (.Call (.Name x p) (e :: es) [] pos) (tCall sp [] E0 t) := by
  obtain ⟨f, fd, hm, hk, hb, F⟩ := D
  exact pe_call F hr hg hm hk hb .nil pass0 ha hdb he hpl
theorem pe_df0 {X : Cx} {k : Nat} {ps : List Str} {sp : Sp} {x : Str} {p pos : Pos} (D : Df X.prog X.w X.K X.mg X.base x ps k sp) (hr : Room k X.A) (hg : Gl X x)
    (hdb : (x == ("__debug__" : Str)) = false := by decide) : PE X (.Call (.Name x p) [] [] pos) (tCall sp [] E0 tNil) := by
  obtain ⟨f, fd, hm, hk, hb, F⟩ := D
  exact pe_call0 F hr hg hm hk hb .nil pass0 hdb

/-- a tuple that the text's top made -/
def WT (K : PySem.W.Frag) (a : Addr) (xs : List V) : Prop := ∃ (o : Obj) (its : Array Value) (n : Nat), K.lookup a = some o ∧ o.cls = .type "tuple" ∧ o.data = .seq its n ∧ its.size ≤ sizeLine ∧ Vals xs its.toList
theorem WT.at_ {K : PySem.W.Frag} {a : Addr} {xs : List V} {H : Hp} (h : WT K a xs) : SqT K H a xs := .inr h

/-! ### within a comprehension: the rules at the written part K itself -/
section
variable {X : Cx}
theorem op_in_seqK (K : PySem.W.Frag) (e : X.K = K) : OpR X (compareOp .In) (rIn K false) := e ▸ op_in_seq
theorem op_notIn_seqK (K : PySem.W.Frag) (e : X.K = K) : OpR X (compareOp .NotIn) (rIn K true) := e ▸ op_notIn_seq
theorem op_eqDK (K : PySem.W.Frag) (e : X.K = K) (hu : X.A.units + 64 < cLine) : OpR X (compareOp .Eq) (rEqD K) := e ▸ op_eqD hu
theorem op_neDK (K : PySem.W.Frag) (e : X.K = K) (hu : X.A.units + 64 < cLine) : OpR X (compareOp .NotEq) (rNeD K) := e ▸ op_neD hu
theorem ix_listK (K : PySem.W.Frag) (e : X.K = K) : IxR X (rIxL K) := e ▸ ix_list
theorem ix_tupK (K : PySem.W.Frag) (e : X.K = K) : IxR X (rIxT K) := e ▸ ix_tup
theorem call_len_seqK (K : PySem.W.Frag) (e : X.K = K) : CallR X (.builtin "len") (fun xs H Q => ∃ p ys, xs = [.ref p] ∧ (SqL K H p ys ∨ SqT K H p ys) ∧ Q (.int ys.length) H) := e ▸ call_len_seq
theorem call_isiK' (K : PySem.W.Frag) (e : X.K = K) : CallR X (.builtin "isinstance") (rIsi K) := e ▸ call_isi
theorem pi_listK {tg l : Expr} {tl : TE} (K : PySem.W.Frag) (e : X.K = K) (h : PE X l tl) : PI X tg l (iList K tl) := e ▸ pi_list h
theorem pi_tupK {tg l : Expr} {tl : TE} (K : PySem.W.Frag) (e : X.K = K) (h : PE X l tl) : PI X tg l (iTup K tl) := e ▸ pi_tup h
theorem call_isiTK (K : PySem.W.Frag) (e : X.K = K) : CallR X (.builtin "isinstance") (rIsiT K) := e ▸ call_isiT
end

/-! ### a pool that draws change: all else stays -/
def pl (s : Int × Int) : HO := .lst [.int s.1, .int s.2]
def hide (p : Addr) (H : Hp) : Hp := fun a => if a = p then none else H a
theorem hide_at {p : Addr} {H : Hp} : hide p H p = none := if_pos rfl
theorem hide_ne {p a : Addr} {H : Hp} (h : a ≠ p) : hide p H a = H a := if_neg h
theorem hide_some {p a : Addr} {H : Hp} {o : HO} (h : hide p H a = some o) : a ≠ p ∧ H a = some o := by
  by_cases e : a = p
  · rw [e, hide_at] at h
    cases h
  · rw [hide_ne e] at h
    exact ⟨e, h⟩
theorem hide_le {p : Addr} {H : Hp} : Ex (hide p H) H := fun _ _ h => (hide_some h).2
theorem hx_of {p : Addr} {H H' : Hp} (e : Ex H H') : Ex (hide p H) H' := hide_le.trans e
theorem hx_hide {p : Addr} {H H' : Hp} (e : Ex (hide p H) H') : Ex (hide p H) (hide p H') := fun a o h => by
  rw [hide_ne (hide_some h).1]
  exact e a o h
theorem hx_trans {p : Addr} {H H1 H2 : Hp} (a : Ex (hide p H) H1) (b : Ex (hide p H1) H2) : Ex (hide p H) H2 := (hx_hide a).trans b
theorem hx_upd {p : Addr} {H : Hp} {o : HO} : Ex (hide p H) (upd H p o) := fun a u h => by
  rw [upd_ne (hide_some h).1]
  exact (hide_some h).2

structure Kn (G : Hp) (p : Addr) (s : Int × Int) (H : Hp) : Prop where
  ex : Ex G H
  at_ : H p = some (pl s)
  fr : G p = none
theorem Kn.next {G H H' : Hp} {p : Addr} {s s' : Int × Int} (k : Kn G p s H) (e : Ex (hide p H) H') (h : H' p = some (pl s')) : Kn G p s' H' :=
  ⟨fun a o ha => e a o (by
    have ne : a ≠ p := fun z => by
      rw [z, k.fr] at ha
      cases ha
    rw [hide_ne ne]
    exact k.ex a o ha), h, k.fr⟩
theorem Kn.same {G H H' : Hp} {p : Addr} {s : Int × Int} (k : Kn G p s H) (e : Ex H H') : Kn G p s H' := k.next (hx_of e) (e p _ k.at_)
theorem Kn.here {H : Hp} {p : Addr} {s : Int × Int} (h : H p = some (pl s)) : Kn (hide p H) p s H := ⟨hide_le, h, hide_at⟩
/-- what is known besides -/
theorem Kn.more {G G' H : Hp} {p : Addr} {s : Int × Int} (k : Kn G p s H) (e : Ex G' H) (h : G' p = none) : Kn G' p s H := ⟨e, k.at_, h⟩

def EvP (te : TE) (σ : L2.St) (G : Hp) (p : Addr) (s : Int × Int) (v : V) (s' : Int × Int) : Prop := ∀ H, Kn G p s H → ∀ Q : VK, (∀ H', Ex (hide p H) H' → H' p = some (pl s') → Q v H') → te σ H Q
def EvAP (ta : TA) (σ : L2.St) (G : Hp) (p : Addr) (s : Int × Int) (vs : List V) (s' : Int × Int) : Prop := ∀ H, Kn G p s H → ∀ Q : List V → Hp → Prop, (∀ H', Ex (hide p H) H' → H' p = some (pl s') → Q vs H') → ta σ H Q
def EvTP (t : TT) (σ : L2.St) (G : Hp) (p : Addr) (s : Int × Int) (b : Bool) (s' : Int × Int) : Prop := ∀ H, Kn G p s H → ∀ Q : Bool → Hp → Prop, (∀ H', Ex (hide p H) H' → H' p = some (pl s') → Q b H') → t σ H Q
def SpP (sp : Sp) (vs : List V) (G : Hp) (p : Addr) (s : Int × Int) (v : V) (s' : Int × Int) : Prop := ∀ H, Kn G p s H → ∀ Q : VK, (∀ H', Ex (hide p H) H' → H' p = some (pl s') → Q v H') → ∀ E : XK, sp vs H Q E
section
variable {K : PySem.W.Frag} {σ : L2.St} {G H : Hp} {p : Addr} {s s1 s2 s3 : Int × Int} {ta tb te : TE} {t u : TT} {x y z v : V} {r : R2}
theorem EvP.of (h : Ev te σ G v) : EvP te σ G p s v s := fun H k Q q => h H k.ex Q fun H' e => q H' (hx_of e) (e p _ k.at_)
theorem EvTP.of {b : Bool} (h : EvT t σ G b) : EvTP t σ G p s b s := fun H k Q q => h H k.ex Q fun H' e => q H' (hx_of e) (e p _ k.at_)
theorem EvAP.of {ta : TA} {vs : List V} (h : EvA ta σ G vs) : EvAP ta σ G p s vs s := fun H k Q q => h H k.ex Q fun H' e => q H' (hx_of e) (e p _ k.at_)
theorem evp_op (ha : EvP ta σ G p s x s1) (hb : EvP tb σ G p s1 y s2) (hr : RV r x y G z) : EvP (tOp r ta tb) σ G p s z s2 := fun H k Q q =>
  ha H k _ fun H1 e1 h1 => hb H1 (k.next e1 h1) _ fun H2 e2 h2 => hr H2 ((k.next e1 h1).next e2 h2).ex Q fun H3 e3 => q H3 (hx_trans (hx_trans e1 e2) (hx_of e3)) (e3 p _ h2)
theorem evp_is {w : V} (h : EvP te σ G p s v s1) (e : v = w) : EvP te σ G p s w s1 := e ▸ h
theorem eap_cons {tr : TA} {vs : List V} (h : EvP ta σ G p s x s1) (hr : EvAP tr σ G p s1 vs s2) : EvAP (tCons ta tr) σ G p s (x :: vs) s2 := fun H k Q q =>
  h H k _ fun H1 e1 h1 => hr H1 (k.next e1 h1) _ fun H2 e2 h2 => q H2 (hx_trans e1 e2) h2
theorem eap_nil : EvAP tNil σ G p s [] s := EvAP.of ea_nil
theorem evp_call {sp : Sp} {E : XK} {ta : TA} {vs : List V} (h : EvAP ta σ G p s vs s1) (hs : SpP sp (vs ++ []) G p s1 z s2) : EvP (tCall sp [] E ta) σ G p s z s2 := fun H k Q q =>
  h H k _ fun H1 e1 h1 => hs H1 (k.next e1 h1) Q (fun H2 e2 h2 => q H2 (hx_trans e1 e2) h2) E
theorem evtp_test {b : Bool} (h : EvP te σ G p s (.bl b) s1) : EvTP (tTest te) σ G p s b s1 := fun H k Q q => h H k _ fun H1 e1 h1 => ⟨b, rfl, q H1 e1 h1⟩
theorem evtp_B {b : Bool} (h : EvP te σ G p s (.bl b) s1) : EvTP (tB te) σ G p s b s1 := fun H k Q q => h H k _ fun H1 e1 h1 => ⟨b, rfl, q H1 e1 h1⟩
theorem evtp_is {a b : Bool} (h : EvTP t σ G p s a s1) (e : a = b) : EvTP t σ G p s b s1 := e ▸ h
theorem evtp_or {a b : Bool} (h1 : EvTP t σ G p s a s1) (h2 : a = false → EvTP u σ G p s1 b s2) (h3 : a = true → s2 = s1) : EvTP (tOr t u) σ G p s (a || b) s2 := fun H k Q q => h1 H k _ fun H1 e1 g1 => by
  cases a with
  | true =>
    show Q true H1
    rw [h3 rfl] at q
    exact q H1 e1 g1
  | false =>
    show u σ H1 Q
    exact h2 rfl H1 (k.next e1 g1) Q fun H2 e2 g2 => q H2 (hx_trans e1 e2) g2
theorem evtp_and {a b : Bool} (h1 : EvTP t σ G p s a s1) (h2 : a = true → EvTP u σ G p s1 b s2) (h3 : a = false → s2 = s1) : EvTP (tAnd t u) σ G p s (a && b) s2 := fun H k Q q => h1 H k _ fun H1 e1 g1 => by
  cases a with
  | true =>
    show u σ H1 Q
    exact h2 rfl H1 (k.next e1 g1) Q fun H2 e2 g2 => q H2 (hx_trans e1 e2) g2
  | false =>
    show Q false H1
    rw [h3 rfl] at q
    exact q H1 e1 g1
theorem evtp_orI {a b : Bool} (h1 : EvTP t σ G p s a s1) (h2 : a = false → EvTP u σ G p s1 b s2) : EvTP (tOr t u) σ G p s (a || b) (if a = true then s1 else s2) := by
  cases a with
  | true => exact evtp_or h1 (fun z => by cases z) (fun _ => rfl)
  | false => exact evtp_or h1 (fun z => h2 z) (fun z => by cases z)
theorem evtp_andI {a b : Bool} (h1 : EvTP t σ G p s a s1) (h2 : a = true → EvTP u σ G p s1 b s2) : EvTP (tAnd t u) σ G p s (a && b) (if a = true then s2 else s1) := by
  cases a with
  | true => exact evtp_and h1 (fun z => h2 z) (fun z => by cases z)
  | false => exact evtp_and h1 (fun z => by cases z) (fun _ => rfl)
theorem evtp_not {a : Bool} (h1 : EvTP t σ G p s a s1) : EvTP (tNot t) σ G p s (!a) s1 := fun H k Q q => h1 H k _ fun H1 e1 g1 => q H1 e1 g1

/-! statements -/
variable {D : Ends} {tu tw tz : TS} {g : TG}
theorem sp_asg {i : Nat} (k : Kn G p s H) (h : EvP te σ G p s v s1) (nx : ∀ H', Kn G p s1 H' → Ex (hide p H) H' → D.nx (σ.set i (some v)) H') : tAsg te (gName i) D σ H := h H k _ fun H' e g => nx H' (k.next e g) e
theorem qp_asg {i : Nat} (k : Kn G p s H) (h : EvP te σ G p s v s1) (nx : ∀ H', Kn G p s1 H' → Ex (hide p H) H' → tz D (σ.set i (some v)) H') : tSeq (tAsg te (gName i)) tz D σ H := sp_asg (D := { D with nx := tz D }) k h nx
theorem sp_ret (k : Kn G p s H) (h : EvP te σ G p s v s1) (nx : ∀ H', Kn G p s1 H' → Ex (hide p H) H' → D.rt v H') : tRet te D σ H := h H k _ fun H' e g => nx H' (k.next e g) e
theorem sp_if {b : Bool} (k : Kn G p s H) (h : EvTP t σ G p s b s1) (h1 : b = true → ∀ H', Kn G p s1 H' → Ex (hide p H) H' → tu D σ H') (h2 : b = false → ∀ H', Kn G p s1 H' → Ex (hide p H) H' → tw D σ H') : tIfS t tu tw D σ H := h H k _ fun H' e g => by
  cases b with
  | true =>
    show tu D σ H'
    exact h1 rfl H' (k.next e g) e
  | false =>
    show tw D σ H'
    exact h2 rfl H' (k.next e g) e
theorem qp_if {b : Bool} (k : Kn G p s H) (h : EvTP t σ G p s b s1) (h1 : b = true → ∀ H', Kn G p s1 H' → Ex (hide p H) H' → tu { D with nx := tz D } σ H') (h2 : b = false → ∀ H', Kn G p s1 H' → Ex (hide p H) H' → tw { D with nx := tz D } σ H') : tSeq (tIfS t tu tw) tz D σ H :=
  sp_if (D := { D with nx := tz D }) k h h1 h2
theorem qp_when {b : Bool} (k : Kn G p s H) (h : EvTP t σ G p s b s1) (h1 : b = true → ∀ H', Kn G p s1 H' → Ex (hide p H) H' → tu { D with nx := tz D } σ H') (h2 : b = false → ∀ H', Kn G p s1 H' → Ex (hide p H) H' → tz D σ H') : tSeq (tIfS t tu tNext) tz D σ H :=
  sp_if (D := { D with nx := tz D }) k h h1 h2
theorem Kn.mut {l : Addr} {o : HO} (k : Kn G p s H) (h : G l = none) (ne : p ≠ l) : Kn G p s (upd H l o) := ⟨Ex.mut k.ex h, by rw [upd_ne ne]; exact k.at_, k.fr⟩
/-- xs.append(a draw) -/
theorem sp_app {K : PySem.W.Frag} {l : Addr} {i : Nat} {xs : List V} (k : Kn G p s H) (hl : H l = some (.lst xs)) (ne : l ≠ p) (hi : σ[i]? = some (some (.ref l))) (h : EvP te σ G p s v s1) (hz : xs.length < 100000) (nx : ∀ H', Kn G p s1 H' → Ex (hide p H) H' → D.nx σ (upd H' l (.lst (xs ++ [v])))) :
    tDrop (tBM K "list" rAppend (tVar i) (tCons te tNil)) D σ H := ⟨_, hi, Or.inl ⟨rfl, xs, sq_of hl⟩, h H k _ fun H' e g => ⟨l, xs, v, rfl, rfl, e l _ (by rw [hide_ne ne]; exact hl), sz_lt hz, nx H' (k.next e g) e⟩⟩
/-- a new list of draws -/
theorem qp_asgLst {ta : TA} {i : Nat} {vs : List V} (k : Kn G p s H) (h : EvAP ta σ G p s vs s1) (hl : vs.length ≤ 100000) (nx : ∀ l H', Kn G p s1 H' → Ex (hide p H) H' → H' l = some (.lst vs) → tz D (σ.set i (some (.ref l))) H') : tSeq (tAsg (tLst ta) (gName i)) tz D σ H :=
  h H k _ fun H' e g => ⟨sz_of hl, fun l nl => nx l _ ((k.next e g).same (Ex.new nl)) (e.trans (Ex.new nl)) upd_same⟩
theorem sp_forR1 {ta : TA} {j : Nat} {n : Int} (k : Kn G p s H) (h : EvAP ta σ G p s [.int n] s1) (hn : 0 ≤ n ∧ n ≤ 100000) (Pv : Nat → L2.St → Hp → Prop) (h0 : ∀ H1, Kn G p s1 H1 → Ex (hide p H) H1 → Pv 0 σ H1)
    (hs : ∀ (i : Nat) σ' H', (i : Int) < n → Pv i σ' H' → tu { D with nx := Pv (i + 1), ct := Pv (i + 1), bk := D.nx } (σ'.set j (some (.int (i : Int)))) H') (hd : ∀ σ' H', Pv n.toNat σ' H' → D.nx σ' H') : tFor (iRng1 ta) (gName j) tu D σ H :=
  h H k _ fun H1 e g1 => ⟨n, rfl, by omega, by omega, for_range (lo := 0) (n := n.toNat) Pv (h0 H1 (k.next e g1) e) (fun i σ' H' hi q => by
    have e0 : (0 : Int) + (i : Int) = (i : Int) := Int.zero_add _
    show tu { D with nx := Pv (i + 1), ct := Pv (i + 1), bk := D.nx } (σ'.set j (some (.int ((0 : Int) + (i : Int))))) H'
    rw [e0]
    exact hs i σ' H' (by omega) q) hd⟩
theorem qp_forR1 {ta : TA} {j : Nat} {n : Int} (k : Kn G p s H) (h : EvAP ta σ G p s [.int n] s1) (hn : 0 ≤ n ∧ n ≤ 100000) (Pv : Nat → L2.St → Hp → Prop) (h0 : ∀ H1, Kn G p s1 H1 → Ex (hide p H) H1 → Pv 0 σ H1)
    (hs : ∀ (i : Nat) σ' H', (i : Int) < n → Pv i σ' H' → tu { D with nx := Pv (i + 1), ct := Pv (i + 1), bk := tz D } (σ'.set j (some (.int (i : Int)))) H') (hd : ∀ σ' H', Pv n.toNat σ' H' → tz D σ' H') : tSeq (tFor (iRng1 ta) (gName j) tu) tz D σ H :=
  sp_forR1 (D := { D with nx := tz D }) k h hn Pv h0 hs hd
end

/-! ### values by operators -/
section
variable {K : PySem.W.Frag} {σ : L2.St} {G H : Hp} {ta tb te : TE} {t : TT} {x y z v : V} {r : R2}
theorem rv_add {i j : Int} : RV (rI0 fun i j => .int (i + j)) (.int i) (.int j) H (.int (i + j)) := rv_I0
theorem rv_mul {i j : Int} (h : (-(2 ^ 64) < i ∧ i < 2 ^ 64) ∨ (-(2 ^ 64) < j ∧ j < 2 ^ 64)) : RV (rI CMul fun i j => .int (i * j)) (.int i) (.int j) H (.int (i * j)) := rv_I h
theorem ev_neg {i : Int} (h : Ev te σ H (.int i)) : Ev (tUn (rU fun i => .int (-i)) te) σ H (.int (-i)) := ev_un h ru_neg
theorem at_last {xs : List V} (h : xs ≠ []) : atI xs (-1) = xs.getLast? := by
  have hl := List.length_pos_iff.mpr h
  unfold atI ixN
  rw [if_neg (by omega), if_pos (by omega), List.getLast?_eq_getElem?]
  show xs[((-1 : Int) + (xs.length : Int)).toNat]? = _
  congr 1
  omega
theorem rv_mod {i j : Int} (h : 0 < j) : RV (rI (fun _ j => 0 < j) fun i j => .int (i % j)) (.int i) (.int j) H (.int (i % j)) := rv_I h
theorem rv_div {i j : Int} (h : 0 < j) (h2 : j < 2 ^ 64) : RV (rI CDivW fun i j => .int (i / j)) (.int i) (.int j) H (.int (i / j)) := rv_I (wide_div (b := 64) h (by omega) (by decide) (by decide))
theorem rv_cat {a b : Str} (h : a.length + b.length ≤ 100000) : RV (fun x y H Q => ∃ i j, x = .str i ∧ y = .str j ∧ i.length + j.length ≤ sizeLine ∧ Q (.str (i ++ j)) H) (.str a) (.str b) H (.str (a ++ b)) :=
  fun H1 _ _ q => ⟨a, b, rfl, rfl, sz_of h, q H1 (Ex.refl H1)⟩
theorem rv_sgn {c : Nat} {z : Str} : RV (fun x y H Q => ∃ (c : Nat) (z : Str), x = .str ⟨#[c]⟩ ∧ y = .str z ∧ Q (.bl (decide (c ∈ z.cps.toList))) H) (.str ⟨#[c]⟩) (.str z) H (.bl (decide (c ∈ z.cps.toList))) :=
  fun H1 _ _ q => ⟨c, z, rfl, rfl, q H1 (Ex.refl H1)⟩
theorem rv_nsgn {c : Nat} {z : Str} : RV (fun x y H Q => ∃ (c : Nat) (z : Str), x = .str ⟨#[c]⟩ ∧ y = .str z ∧ Q (.bl (!decide (c ∈ z.cps.toList))) H) (.str ⟨#[c]⟩) (.str z) H (.bl (!decide (c ∈ z.cps.toList))) :=
  fun H1 _ _ q => ⟨c, z, rfl, rfl, q H1 (Ex.refl H1)⟩
theorem rv_notB {a b : Bool} : RV rNotB (.bl a) (.bl b) H (.bl (!decide (a = b))) := fun H1 _ _ q => ⟨a, b, rfl, rfl, q H1 (Ex.refl H1)⟩
theorem rv_isB {a b : Bool} : RV rIsB (.bl a) (.bl b) H (.bl (decide (a = b))) := fun H1 _ _ q => ⟨a, b, rfl, rfl, q H1 (Ex.refl H1)⟩
/-- int(n), int(truth) -/
theorem ev_int {i : Int} (h : Ev te σ H (.int i)) : Ev (tCB (fun xs H Q => (∃ i, xs = [.int i] ∧ Q (.int i) H) ∨ ∃ k, xs = [.bl k] ∧ Q (.int (if k then 1 else 0)) H) (tCons te tNil)) σ H (.int i) := fun H1 e Q q =>
  h H1 e _ fun H2 e2 => .inl ⟨i, rfl, q H2 e2⟩
theorem ev_intB {b : Bool} (h : Ev te σ H (.bl b)) : Ev (tCB (fun xs H Q => (∃ i, xs = [.int i] ∧ Q (.int i) H) ∨ ∃ k, xs = [.bl k] ∧ Q (.int (if k then 1 else 0)) H) (tCons te tNil)) σ H (.int (if b then 1 else 0)) := fun H1 e Q q =>
  h H1 e _ fun H2 e2 => .inr ⟨b, rfl, q H2 e2⟩
theorem ev_lenS {z : Str} (h : Ev te σ H (.str z)) (hz : z.length ≤ 100000) : Ev (tCB (fun xs H Q => ∃ z, xs = [.str z] ∧ z.length ≤ sizeLine ∧ Q (.int z.length) H) (tCons te tNil)) σ H (.int z.length) := fun H1 e Q q =>
  h H1 e _ fun H2 e2 => ⟨z, rfl, sz_of hz, q H2 e2⟩
theorem ev_lenL {p : Addr} {xs : List V} (h : Ev te σ H (.ref p)) (hx : SqL K H p xs) : Ev (tCB (fun xs H Q => ∃ p ys, xs = [.ref p] ∧ (SqL K H p ys ∨ SqT K H p ys) ∧ Q (.int ys.length) H) (tCons te tNil)) σ H (.int xs.length) := fun H1 e Q q =>
  h H1 e _ fun H2 e2 => ⟨p, xs, rfl, .inl (ex_l (e.trans e2) hx), q H2 e2⟩
theorem ev_min2 {i j : Int} (ha : Ev ta σ H (.int i)) (hb : Ev tb σ H (.int j)) : Ev (tCB (fun xs H Q => ∃ i j, xs = [.int i, .int j] ∧ Q (.int (if j < i then j else i)) H) (tCons ta (tCons tb tNil))) σ H (.int (if j < i then j else i)) := fun H1 e Q q =>
  ha H1 e _ fun H2 e2 => hb H2 (e.trans e2) _ fun H3 e3 => ⟨i, j, rfl, q H3 (e2.trans e3)⟩
theorem ev_max {i j : Int} (ha : Ev ta σ H (.int i)) (hb : Ev tb σ H (.int j)) : Ev (tCB (fun xs H Q => ∃ i j, xs = [.int i, .int j] ∧ Q (.int (if j > i then j else i)) H) (tCons ta (tCons tb tNil))) σ H (.int (if j > i then j else i)) := fun H1 e Q q =>
  ha H1 e _ fun H2 e2 => hb H2 (e.trans e2) _ fun H3 e3 => ⟨i, j, rfl, q H3 (e2.trans e3)⟩
theorem tyx_mono {H H' : Hp} {x : V} {t : Value} (e : Ex H H') (h : TyX K H x t) : TyX K H' x t := by
  cases h with
  | base b =>
    cases b with
    | non => exact .base .non
    | bl x => exact .base (.bl x)
    | int x => exact .base (.int x)
    | str x => exact .base (.str x)
    | flt x => exact .base (.flt x)
    | lst q => exact .base (.lst (e _ _ q))
    | frz q => exact .base (.frz (e _ _ q))
    | tup q => exact .base (.tup (e _ _ q))
    | dK q => exact .base (.dK (e _ _ q))
    | dT q => exact .base (.dT (e _ _ q))
    | ins q cl ha hn htk hm => exact .base (.ins (e _ _ q) cl ha hn htk hm)
  | byt b => exact .byt b
  | set q => exact .set (e _ _ q)
  | kList q c => exact .kList q c
  | kTuple q c => exact .kTuple q c
  | kDict q c => exact .kDict q c
  | fTuple q => exact .fTuple (e _ _ q)
  | fDict q => exact .fDict (e _ _ q)
/-- isinstance(x, T), T a built-in type -/
theorem ev_isi {a c : String} {b : Bool} (h : Ev te σ H x) (ty : TyX K H x (.type a)) (hk : kitB a c = some b) : Ev (tCB (rIsi K) (tCons te (tCons (tC (.ty c)) tNil))) σ H (.bl b) := fun H1 e Q q =>
  h H1 e _ fun H2 e2 => ⟨x, .ty c, .type a, .type c, b, rfl, .ty c, tyx_mono (e.trans e2) ty, kit_ty hk, q H2 e2⟩
/-- all(a new list of truths) -/
theorem ev_all {bs : List Bool} (h : EvL te σ H (bs.map V.bl)) : Ev (tCB (rAll K) (tCons te tNil)) σ H (.bl (bs.all id)) := fun H1 e Q q =>
  h H1 e _ fun p H2 _ e2 h2 => ⟨p, bs, rfl, sq_of h2, q H2 e2⟩
theorem ev_any {bs : List Bool} (h : EvL te σ H (bs.map V.bl)) : Ev (tCB (rAny K) (tCons te tNil)) σ H (.bl (bs.any id)) := fun H1 e Q q =>
  h H1 e _ fun p H2 _ e2 h2 => ⟨p, bs, rfl, sq_of h2, q H2 e2⟩
theorem et_yes : EvT tYes σ H true := fun H1 _ _ q => q H1 (Ex.refl H1)
/-- a comprehension over a text's signs -/
theorem el_lcS {zt : Str} {tl : TE} {j : Nat} {vs : List Nat} (f : Nat → Bool) (w : Nat → V) (h : Ev tl σ H (.str zt)) (hz : zt.cps.size ≤ 40000) (hw : ∀ x, wipe ((wipe σ vs).set j (some x)) vs = wipe σ vs)
    (ht : ∀ (i : Nat) (c : Nat) H1, Ex H H1 → zt.cps[i]? = some c → EvT t ((wipe σ vs).set j (some (.str ⟨#[c]⟩))) H1 (f i)) (he : ∀ (i : Nat) (c : Nat) H1, Ex H H1 → zt.cps[i]? = some c → f i = true → Ev te ((wipe σ vs).set j (some (.str ⟨#[c]⟩))) H1 (w i)) :
    EvL (tLc (iStr tl) (gName j) t te vs) σ H (given zt.cps.size f w) := fun H0 e Q q => h H0 e _ fun H1 e1 => ⟨zt, rfl, fun Dl hD =>
  lc_it walk_str (Cw H1 f w Dl) ⟨hD, Ex.new hD, upd_same⟩ (fun _ _ _ _ => trivial) (fun i x H' H'' hi pc y => by
    obtain ⟨rfl, c, hc, rfl⟩ := y
    exact ⟨hw _, cw_turn pc (by omega) (ht i c H1 (e.trans e1) hc) (fun hf => he i c H1 (e.trans e1) hc hf)⟩)
    (fun H' pc => q Dl H' (fresh_back e1 pc.1) (e1.trans pc.2.1) pc.2.2)⟩
/-- for c in text -/
theorem s_forS {zt : Str} {tl : TE} {j : Nat} {D : Ends} {tu : TS} (h : Ev tl σ H (.str zt)) (Pv : Nat → L2.St → Hp → Prop) (h0 : ∀ H1, Ex H H1 → Pv 0 σ H1)
    (hs : ∀ (i : Nat) (c : Nat) σ' H', zt.cps[i]? = some c → Pv i σ' H' → tu { D with nx := Pv (i + 1), ct := Pv (i + 1), bk := D.nx } (σ'.set j (some (.str ⟨#[c]⟩))) H') (hd : ∀ σ' H', Pv zt.cps.size σ' H' → D.nx σ' H') : tFor (iStr tl) (gName j) tu D σ H :=
  h H (Ex.refl H) _ fun H1 e => ⟨zt, rfl, for_it walk_str Pv (h0 H1 e) (fun _ _ _ _ _ => trivial) (fun i x σ' H' H'' hi pc y => by
    obtain ⟨rfl, c, hc, rfl⟩ := y
    exact hs i c σ' H'' hc pc) hd⟩
theorem q_forS {zt : Str} {tl : TE} {j : Nat} {D : Ends} {tu tz : TS} (h : Ev tl σ H (.str zt)) (Pv : Nat → L2.St → Hp → Prop) (h0 : ∀ H1, Ex H H1 → Pv 0 σ H1)
    (hs : ∀ (i : Nat) (c : Nat) σ' H', zt.cps[i]? = some c → Pv i σ' H' → tu { D with nx := Pv (i + 1), ct := Pv (i + 1), bk := tz D } (σ'.set j (some (.str ⟨#[c]⟩))) H') (hd : ∀ σ' H', Pv zt.cps.size σ' H' → tz D σ' H') : tSeq (tFor (iStr tl) (gName j) tu) tz D σ H :=
  s_forS (D := { D with nx := tz D }) h Pv h0 hs hd

theorem rv_eqI {i j : Int} : RV rEq (.int i) (.int j) H (.bl (decide (i = j))) := fun H1 e Q q => rv_eq (H := H) (x := .int i) (y := .int j) rfl H1 e Q fun H2 e2 => by
  rw [dec_int, show (i == j) = decide (i = j) from rfl]
  exact q H2 e2
theorem rv_neI {i j : Int} : RV rNe (.int i) (.int j) H (.bl (!decide (i = j))) := fun H1 e Q q => rv_ne (H := H) (x := .int i) (y := .int j) rfl H1 e Q fun H2 e2 => by
  rw [dec_int, show (i == j) = decide (i = j) from rfl]
  exact q H2 e2
theorem rv_eqS {i j : Str} : RV rEq (.str i) (.str j) H (.bl (decide (i = j))) := fun H1 e Q q => rv_eq (H := H) (x := .str i) (y := .str j) rfl H1 e Q fun H2 e2 => by
  rw [show decide (V.str i = V.str j) = decide (i = j) from by by_cases h : i = j <;> simp [h]]
  exact q H2 e2
theorem rv_neS {i j : Str} : RV rNe (.str i) (.str j) H (.bl (!decide (i = j))) := fun H1 e Q q => rv_ne (H := H) (x := .str i) (y := .str j) rfl H1 e Q fun H2 e2 => by
  rw [show decide (V.str i = V.str j) = decide (i = j) from by by_cases h : i = j <;> simp [h]]
  exact q H2 e2
theorem rv_neB {i j : Bool} : RV rNe (.bl i) (.bl j) H (.bl (!decide (i = j))) := fun H1 e Q q => rv_ne (H := H) (x := .bl i) (y := .bl j) rfl H1 e Q fun H2 e2 => by
  rw [show decide (V.bl i = V.bl j) = decide (i = j) from by by_cases h : i = j <;> simp [h]]
  exact q H2 e2
theorem rv_eqB {i j : Bool} : RV rEq (.bl i) (.bl j) H (.bl (decide (i = j))) := fun H1 e Q q => rv_eq (H := H) (x := .bl i) (y := .bl j) rfl H1 e Q fun H2 e2 => by
  rw [show decide (V.bl i = V.bl j) = decide (i = j) from by by_cases h : i = j <;> simp [h]]
  exact q H2 e2
/-- a comprehension's list by places is one by items -/
theorem given_eq {α : Type} (l : List α) (d : α) (F : α → Bool) (W : α → V) : given l.length (fun i => F (l.getD i d)) (fun i => W (l.getD i d)) = (l.filter F).map W := by
  have e : l = (List.range l.length).map fun i => l.getD i d := by
    apply List.ext_getElem
    · simp
    · intro i h1 h2
      simp [h1]
  unfold given
  conv => rhs; rw [e, List.filter_map, List.map_map]
  rfl
theorem codes_at {zt : Str} {i c : Nat} (h : zt.cps[i]? = some c) : zt.cps.toList.getD i 0 = c ∧ c ∈ zt.cps.toList := by
  have h2 : zt.cps.toList[i]? = some c := by
    rw [← h]
    simp
  exact ⟨by rw [List.getD_eq_getElem?_getD, h2]; rfl, List.mem_of_getElem? h2⟩
/-- a comprehension over a text, said sign by sign -/
theorem el_lcT {zt : Str} {tl : TE} {j : Nat} {vs : List Nat} (F : Nat → Bool) (W : Nat → V) (h : Ev tl σ H (.str zt)) (hz : zt.length ≤ 40000) (hw : ∀ x, wipe ((wipe σ vs).set j (some x)) vs = wipe σ vs)
    (ht : ∀ (c : Nat) H1, Ex H H1 → c ∈ zt.cps.toList → EvT t ((wipe σ vs).set j (some (.str ⟨#[c]⟩))) H1 (F c)) (he : ∀ (c : Nat) H1, Ex H H1 → c ∈ zt.cps.toList → F c = true → Ev te ((wipe σ vs).set j (some (.str ⟨#[c]⟩))) H1 (W c)) :
    EvL (tLc (iStr tl) (gName j) t te vs) σ H ((zt.cps.toList.filter F).map W) := by
  have e := el_lcS (σ := σ) (H := H) (te := te) (t := t) (zt := zt) (tl := tl) (j := j) (vs := vs) (fun i => F (zt.cps.toList.getD i 0)) (fun i => W (zt.cps.toList.getD i 0)) h hz hw
    (fun i c H1 e1 hc => by rw [(codes_at hc).1]; exact ht c H1 e1 (codes_at hc).2) (fun i c H1 e1 hc hf => by rw [(codes_at hc).1] at hf ⊢; exact he c H1 e1 (codes_at hc).2 hf)
  have e2 : zt.cps.size = zt.cps.toList.length := by simp
  rw [e2, given_eq] at e
  exact e
/-- a comprehension over a list that stands, its items r of the xs -/
theorem el_lcM {α : Type} {a : Addr} {xs : List α} {r : α → V} {tl : TE} {j : Nat} {vs : List Nat} (d : α) (F : α → Bool) (W : α → V) (h : Ev tl σ H (.ref a)) (hx : SqL K H a (xs.map r)) (hz : xs.length ≤ 40000) (hw : ∀ x, wipe ((wipe σ vs).set j (some x)) vs = wipe σ vs)
    (ht : ∀ (x : α) H1, Ex H H1 → x ∈ xs → EvT t ((wipe σ vs).set j (some (r x))) H1 (F x)) (he : ∀ (x : α) H1, Ex H H1 → x ∈ xs → F x = true → Ev te ((wipe σ vs).set j (some (r x))) H1 (W x)) :
    EvL (tLc (iList K tl) (gName j) t te vs) σ H ((xs.filter F).map W) := by
  have key : ∀ (i : Nat) (x : V), (xs.map r)[i]? = some x → r (xs.getD i d) = x ∧ xs.getD i d ∈ xs := fun i x hi => by
    rw [List.getElem?_map] at hi
    cases hy : xs[i]? with
    | none =>
      rw [hy] at hi
      cases hi
    | some y =>
      rw [hy] at hi
      rw [List.getD_eq_getElem?_getD, hy]
      exact ⟨Option.some.inj hi, List.mem_of_getElem? hy⟩
  have e := el_lcL (K := K) (σ := σ) (H := H) (te := te) (t := t) (a := a) (xs := xs.map r) (tl := tl) (j := j) (vs := vs) (fun i => F (xs.getD i d)) (fun i => W (xs.getD i d)) h hx (by rw [List.length_map]; exact hz) hw
    (fun i x H1 e1 hc => by rw [← (key i x hc).1]; exact ht _ H1 e1 (key i x hc).2) (fun i x H1 e1 hc hf => by rw [← (key i x hc).1]; exact he _ H1 e1 (key i x hc).2 hf)
  rw [List.length_map, given_eq] at e
  exact e
/-- a comprehension over a new list -/
theorem el_lcNM {α : Type} {xs : List α} {r : α → V} {tl : TE} {j : Nat} {vs : List Nat} (d : α) (F : α → Bool) (W : α → V) (h : EvL tl σ H (xs.map r)) (hz : xs.length ≤ 40000) (hw : ∀ x, wipe ((wipe σ vs).set j (some x)) vs = wipe σ vs)
    (ht : ∀ (x : α) H1, Ex H H1 → x ∈ xs → EvT t ((wipe σ vs).set j (some (r x))) H1 (F x)) (he : ∀ (x : α) H1, Ex H H1 → x ∈ xs → F x = true → Ev te ((wipe σ vs).set j (some (r x))) H1 (W x)) :
    EvL (tLc (iList K tl) (gName j) t te vs) σ H ((xs.filter F).map W) := by
  have key : ∀ (i : Nat) (x : V), (xs.map r)[i]? = some x → r (xs.getD i d) = x ∧ xs.getD i d ∈ xs := fun i x hi => by
    rw [List.getElem?_map] at hi
    cases hy : xs[i]? with
    | none =>
      rw [hy] at hi
      cases hi
    | some y =>
      rw [hy] at hi
      rw [List.getD_eq_getElem?_getD, hy]
      exact ⟨Option.some.inj hi, List.mem_of_getElem? hy⟩
  have e := el_lcNL (K := K) (σ := σ) (H := H) (te := te) (t := t) (xs := xs.map r) (tl := tl) (j := j) (vs := vs) (fun i => F (xs.getD i d)) (fun i => W (xs.getD i d)) h (by rw [List.length_map]; exact hz) hw
    (fun i x H1 e1 hc => by rw [← (key i x hc).1]; exact ht _ H1 e1 (key i x hc).2) (fun i x H1 e1 hc hf => by rw [← (key i x hc).1]; exact he _ H1 e1 (key i x hc).2 hf)
  rw [List.length_map, given_eq] at e
  exact e
/-- a comprehension over a tuple that stands -/
theorem el_lcUM {α : Type} {a : Addr} {xs : List α} {r : α → V} {tl : TE} {j : Nat} {vs : List Nat} (d : α) (F : α → Bool) (W : α → V) (h : Ev tl σ H (.ref a)) (hx : SqT K H a (xs.map r)) (hz : xs.length ≤ 40000) (hw : ∀ x, wipe ((wipe σ vs).set j (some x)) vs = wipe σ vs)
    (ht : ∀ (x : α) H1, Ex H H1 → x ∈ xs → EvT t ((wipe σ vs).set j (some (r x))) H1 (F x)) (he : ∀ (x : α) H1, Ex H H1 → x ∈ xs → F x = true → Ev te ((wipe σ vs).set j (some (r x))) H1 (W x)) :
    EvL (tLc (iTup K tl) (gName j) t te vs) σ H ((xs.filter F).map W) := by
  have key : ∀ (i : Nat) (x : V), (xs.map r)[i]? = some x → r (xs.getD i d) = x ∧ xs.getD i d ∈ xs := fun i x hi => by
    rw [List.getElem?_map] at hi
    cases hy : xs[i]? with
    | none =>
      rw [hy] at hi
      cases hi
    | some y =>
      rw [hy] at hi
      rw [List.getD_eq_getElem?_getD, hy]
      exact ⟨Option.some.inj hi, List.mem_of_getElem? hy⟩
  have e : EvL (tLc (iTup K tl) (gName j) t te vs) σ H (given (xs.map r).length (fun i => F (xs.getD i d)) (fun i => W (xs.getD i d))) := fun H0 e Q q => h H0 e _ fun H1 e1 => ⟨a, rfl, ⟨xs.map r, ex_t (e.trans e1) hx⟩, fun Dl hD =>
    lc_it walk_tup (Cw H1 (fun i => F (xs.getD i d)) (fun i => W (xs.getD i d)) Dl) ⟨hD, Ex.new hD, upd_same⟩ (fun i H' _ pc => ex_t ((e.trans e1).trans pc.2.1) hx) (fun i x H' H'' hi pc y => by
      obtain ⟨rfl, hy⟩ := y
      obtain ⟨k1, k2⟩ := key i x hy
      rw [List.length_map] at hi
      exact ⟨hw _, cw_turn pc (by omega) (by rw [← k1]; exact ht _ H1 (e.trans e1) k2) (fun hf => by rw [← k1]; exact he _ H1 (e.trans e1) k2 hf)⟩)
      (fun H' pc => q Dl H' (fresh_back e1 pc.1) (e1.trans pc.2.1) pc.2.2)⟩
  rw [List.length_map, given_eq] at e
  exact e
theorem ex_fresh {p : Addr} {H1 H2 H3 : Hp} (hp : H1 p = none) (e2 : Ex H1 H2) (e3 : Ex (hide p H2) H3) : Ex H1 H3 := fun a o h => e3 a o (by
  rw [hide_ne (ne_of_none h hp)]
  exact e2 a o h)
theorem filter_yes {α : Type} (l : List α) : l.filter (fun _ => true) = l := List.filter_eq_self.mpr fun _ _ => rfl

/-! ### flat lists compared -/
def toD : V → PyData
  | .bl b => .bool b
  | .int i => .int i
  | .str x => .str x
  | _ => .none
/-- None, truths, ints and texts of signs that there are -/
def okV : V → Bool
  | .non => true
  | .bl _ => true
  | .int _ => true
  | .str x => x.cps.all (· < 0x110000)
  | _ => false
theorem dp_toD {v : V} (h : okV v = true) : Dp K H v (toD v) := by
  cases v with
  | non => exact .non
  | bl b => exact .bl b
  | int i => exact .int i
  | str x => exact .str x
  | byt _ => cases h
  | flt _ => cases h
  | ref _ => cases h
  | ty _ => cases h
theorem dpAll_toD : ∀ {vs : List V}, (∀ v ∈ vs, okV v = true) → DpAll K H vs (vs.map toD)
  | [], _ => .nil
  | v :: vs, h => .cons (dp_toD (h v List.mem_cons_self)) (dpAll_toD fun u hu => h u (List.mem_cons_of_mem _ hu))
theorem lay_toD {v : V} (h : okV v = true) : (toD v).canLay0 = true ∧ (toD v).depth = 0 := by
  cases v with
  | non => exact ⟨by simp [toD, PyData.canLay0], by simp [toD, PyData.depth]⟩
  | bl b => exact ⟨by simp [toD, PyData.canLay0], by simp [toD, PyData.depth]⟩
  | int i => exact ⟨by simp [toD, PyData.canLay0], by simp [toD, PyData.depth]⟩
  | str x => exact ⟨by simp only [toD, PyData.canLay0]; exact h, by simp [toD, PyData.depth]⟩
  | byt _ => cases h
  | flt _ => cases h
  | ref _ => cases h
  | ty _ => cases h
theorem layAll_toD : ∀ {vs : List V}, (∀ v ∈ vs, okV v = true) → PyData.canLayAll0 (vs.map toD) = true ∧ PyData.depthAll (vs.map toD) = 0
  | [], _ => ⟨by simp [PyData.canLayAll0], by simp [PyData.depthAll]⟩
  | v :: vs, h => by
    have h1 := lay_toD (h v List.mem_cons_self)
    have h2 := layAll_toD (vs := vs) fun u hu => h u (List.mem_cons_of_mem _ hu)
    exact ⟨by simp [PyData.canLayAll0, h1.1, h2.1], by simp [PyData.depthAll, h1.2, h2.2]⟩
theorem shaped_l {vs : List V} (h : ∀ v ∈ vs, okV v = true) : SeqAt.shaped (.list (vs.map toD)) = true := by
  have h2 := layAll_toD h
  show (PyData.canLay0 (.list (vs.map toD)) && decide (PyData.depth (.list (vs.map toD)) ≤ 64)) = true
  rw [Bool.and_eq_true]
  exact ⟨by simp only [PyData.canLay0]; exact h2.1, decide_eq_true (by simp only [PyData.depth]; omega)⟩
theorem shaped_t {vs : List V} (h : ∀ v ∈ vs, okV v = true) : SeqAt.shaped (.tuple (vs.map toD)) = true := by
  have h2 := layAll_toD h
  show (PyData.canLay0 (.tuple (vs.map toD)) && decide (PyData.depth (.tuple (vs.map toD)) ≤ 64)) = true
  rw [Bool.and_eq_true]
  exact ⟨by simp only [PyData.canLay0]; exact h2.1, decide_eq_true (by simp only [PyData.depth]; omega)⟩
/-- equal, item by item -/
def eqF : List V → List V → Bool
  | [], [] => true
  | x :: xs, y :: ys => PyData.eqv (toD x) (toD y) && eqF xs ys
  | _, _ => false
theorem eqvAll_toD : ∀ xs ys : List V, PyData.eqvAll (xs.map toD) (ys.map toD) = eqF xs ys
  | [], [] => by simp [PyData.eqvAll, eqF]
  | x :: xs, y :: ys => by simp only [List.map_cons, PyData.eqvAll, eqF, eqvAll_toD xs ys]
  | [], _ :: _ => by simp [PyData.eqvAll, eqF]
  | _ :: _, [] => by simp [PyData.eqvAll, eqF]
theorem rv_eqL {p q : Addr} {xs ys : List V} (hx : SqL K H p xs) (hy : SqL K H q ys) (h1 : ∀ v ∈ xs, okV v = true) (h2 : ∀ v ∈ ys, okV v = true) : RV (rEqD K) (.ref p) (.ref q) H (.bl (eqF xs ys)) := fun H1 e Q k =>
  ⟨.list (xs.map toD), .list (ys.map toD), .lst (ex_l e hx) (dpAll_toD h1), .lst (ex_l e hy) (dpAll_toD h2), shaped_l h1, shaped_l h2, by
    rw [show PyData.eqv (.list (xs.map toD)) (.list (ys.map toD)) = eqF xs ys by simp only [PyData.eqv, eqvAll_toD]]
    exact k H1 (Ex.refl H1)⟩
theorem rv_neL {p q : Addr} {xs ys : List V} (hx : SqL K H p xs) (hy : SqL K H q ys) (h1 : ∀ v ∈ xs, okV v = true) (h2 : ∀ v ∈ ys, okV v = true) : RV (rNeD K) (.ref p) (.ref q) H (.bl (!eqF xs ys)) := fun H1 e Q k =>
  ⟨.list (xs.map toD), .list (ys.map toD), .lst (ex_l e hx) (dpAll_toD h1), .lst (ex_l e hy) (dpAll_toD h2), shaped_l h1, shaped_l h2, by
    rw [show PyData.eqv (.list (xs.map toD)) (.list (ys.map toD)) = eqF xs ys by simp only [PyData.eqv, eqvAll_toD]]
    exact k H1 (Ex.refl H1)⟩
theorem rv_eqT {p q : Addr} {xs ys : List V} (hx : SqT K H p xs) (hy : SqT K H q ys) (h1 : ∀ v ∈ xs, okV v = true) (h2 : ∀ v ∈ ys, okV v = true) : RV (rEqD K) (.ref p) (.ref q) H (.bl (eqF xs ys)) := fun H1 e Q k =>
  ⟨.tuple (xs.map toD), .tuple (ys.map toD), .tup (ex_t e hx) (dpAll_toD h1), .tup (ex_t e hy) (dpAll_toD h2), shaped_t h1, shaped_t h2, by
    rw [show PyData.eqv (.tuple (xs.map toD)) (.tuple (ys.map toD)) = eqF xs ys by simp only [PyData.eqv, eqvAll_toD]]
    exact k H1 (Ex.refl H1)⟩
theorem okV_str1 {c : Nat} (h : c < 0x110000) : okV (.str ⟨#[c]⟩) = true := by
  show ((#[c] : Array Nat).all fun x => decide (x < 0x110000)) = true
  simp
  omega
theorem rv_neT {p q : Addr} {xs ys : List V} (hx : SqT K H p xs) (hy : SqT K H q ys) (h1 : ∀ v ∈ xs, okV v = true) (h2 : ∀ v ∈ ys, okV v = true) : RV (rNeD K) (.ref p) (.ref q) H (.bl (!eqF xs ys)) := fun H1 e Q k =>
  ⟨.tuple (xs.map toD), .tuple (ys.map toD), .tup (ex_t e hx) (dpAll_toD h1), .tup (ex_t e hy) (dpAll_toD h2), shaped_t h1, shaped_t h2, by
    rw [show PyData.eqv (.tuple (xs.map toD)) (.tuple (ys.map toD)) = eqF xs ys by simp only [PyData.eqv, eqvAll_toD]]
    exact k H1 (Ex.refl H1)⟩
theorem eqF_nil (xs : List V) : eqF xs [] = xs.isEmpty := by
  cases xs <;> rfl
/-- of texts -/
theorem eqF_strs : ∀ xs ys : List Str, eqF (xs.map V.str) (ys.map V.str) = decide (xs = ys)
  | [], [] => rfl
  | x :: xs, y :: ys => by
    show (PyData.eqv (.str x) (.str y) && eqF (xs.map V.str) (ys.map V.str)) = _
    rw [eqF_strs xs ys, show PyData.eqv (.str x) (.str y) = (x == y) by simp only [PyData.eqv]]
    by_cases h : x = y
    · subst h
      by_cases h2 : xs = ys
      · subst h2
        simp
      · simp [h2]
    · simp [h]
  | [], _ :: _ => rfl
  | _ :: _, [] => rfl
theorem eqF_ints : ∀ xs ys : List Int, eqF (xs.map V.int) (ys.map V.int) = decide (xs = ys)
  | [], [] => rfl
  | x :: xs, y :: ys => by
    show (PyData.eqv (.int x) (.int y) && eqF (xs.map V.int) (ys.map V.int)) = _
    rw [eqF_ints xs ys, show PyData.eqv (.int x) (.int y) = (x == y) by simp only [PyData.eqv]]
    by_cases h : x = y
    · subst h
      by_cases h2 : xs = ys
      · subst h2
        simp
      · simp [h2]
    · simp [h]
  | [], _ :: _ => rfl
  | _ :: _, [] => rfl
theorem okV_ints {ns : List Int} : ∀ v ∈ ns.map V.int, okV v = true := fun v h => by
  obtain ⟨i, _, rfl⟩ := List.mem_map.mp h
  rfl
end

/-! ### drawing -/
/-- what a pool is between two draws -/
def Pk (s : Int × Int) : Prop := 0 ≤ s.2 ∧ s.2 < 2147483647
/-- a draw: its digit, and the pool behind it -/
def take (s : Int × Int) (n : Int) : Int × (Int × Int) :=
  if 0 < s.1 then (s.1 % n, (s.1 / n, s.2))
  else (((s.2 * 48271 + 11) % 2147483647 * ((s.2 * 48271 + 11) % 2147483647)) % 2147483629 / 64 % n, (s.1, (s.2 * 48271 + 11) % 2147483647))
theorem take_pos {s : Int × Int} {n : Int} (h : 0 < s.1) : take s n = (s.1 % n, (s.1 / n, s.2)) := if_pos h
theorem take_neg {s : Int × Int} {n : Int} (h : ¬ 0 < s.1) : take s n = (((s.2 * 48271 + 11) % 2147483647 * ((s.2 * 48271 + 11) % 2147483647)) % 2147483629 / 64 % n, (s.1, (s.2 * 48271 + 11) % 2147483647)) := if_neg h
theorem take_lt {s : Int × Int} {n : Int} (h : 0 < n) : 0 ≤ (take s n).1 ∧ (take s n).1 < n := by
  by_cases c : 0 < s.1
  · rw [take_pos c]
    exact ⟨Int.emod_nonneg _ (by omega), Int.emod_lt_of_pos _ h⟩
  · rw [take_neg c]
    exact ⟨Int.emod_nonneg _ (by omega), Int.emod_lt_of_pos _ h⟩
theorem take_pk {s : Int × Int} {n : Int} (h : Pk s) : Pk (take s n).2 := by
  by_cases c : 0 < s.1
  · rw [take_pos c]
    exact h
  · rw [take_neg c]
    exact ⟨Int.emod_nonneg _ (by omega), Int.emod_lt_of_pos _ (by omega)⟩
/-- the script's cell for k -/
def cellAt (ns : List Int) (k : Int) : Int := if ns = [] then 0 else ns.getD (k % (ns.length : Int)).toNat 0
def pool0 (ns : List Int) (k : Int) : Int × Int :=
  (cellAt ns k * (if decide (10 ^ 18 ≤ cellAt ns k) then 1 else 0), (cellAt ns k % 2147483629 + 104729 * k + 11) * 48271 % 2147483647)
theorem pool0_pk (ns : List Int) (k : Int) : Pk (pool0 ns k) := ⟨Int.emod_nonneg _ (by omega), Int.emod_lt_of_pos _ (by omega)⟩
/-- what a def that draws hands back: v, the pool at p then s' -/
def RetP (p : Addr) (s' : Int × Int) (v : V) (H : Hp) (Q : VK) : Prop := ∀ H', Ex (hide p H) H' → H' p = some (pl s') → Q v H'
def spTake : Sp := fun vs H Q _ => ∃ (p : Addr) (s : Int × Int) (n : Int), vs = [.ref p, .int n] ∧ H p = some (pl s) ∧ Pk s ∧ 0 < n ∧ n < 2 ^ 60 ∧ RetP p (take s n).2 (.int (take s n).1) H Q
theorem sp_take {G : Hp} {p : Addr} {s : Int × Int} {n : Int} (h : Pk s) (h0 : 0 < n) (h1 : n < 2 ^ 60) : SpP spTake [.ref p, .int n] G p s (.int (take s n).1) (take s n).2 := fun H k Q q _ =>
  ⟨p, s, n, rfl, k.at_, h, h0, h1, q⟩
def spPool (K : PySem.W.Frag) : Sp := fun vs H Q _ => ∃ (a : Addr) (ns : List Int) (k : Int), vs = [.ref a, .int k] ∧ SqL K H a (ns.map V.int) ∧ ns.length ≤ 63 ∧ 0 ≤ k ∧ k ≤ 1000 ∧ ∀ p H', H p = none → Ex H H' → H' p = some (pl (pool0 ns k)) → Q (.ref p) H'

/-! ### more rules: a text times a number, list(text) -/
def repS (z : Str) (k : Nat) : Str := ⟨((List.replicate k z.cps.toList).flatten).toArray⟩
theorem rep_fold (a : Array Nat) : ∀ (k : Nat) (acc : Array Nat), (List.replicate k a).foldl (· ++ ·) acc = acc ++ ((List.replicate k a.toList).flatten).toArray
  | 0, acc => by simp
  | k + 1, acc => by
    simp only [List.replicate_succ, List.foldl_cons, List.flatten_cons]
    rw [rep_fold a k]
    apply Array.ext'
    simp
theorem repS_len (z : Str) (k : Nat) : (repS z k).length = k * z.length := by
  show ((List.replicate k z.cps.toList).flatten).toArray.size = _
  rw [List.size_toArray, List.length_flatten, List.map_replicate, List.sum_replicate_nat]
  show k * z.cps.toList.length = k * z.cps.size
  simp
def rMulS : R2 := fun x y H Q => ∃ (z : Str) (n : Int), x = .str z ∧ y = .int n ∧ 0 ≤ n ∧ n ≤ 1000 ∧ z.length ≤ 1000 ∧ Q (.str (repS z n.toNat)) H
theorem op_mulS {X : Cx} : OpR X (binaryOp .Mult) rMulS := by
  intro pins s σ H x y v u Q I rx ry h
  obtain ⟨z, n, rfl, rfl, h0, h1, hz, q⟩ := h
  obtain ⟨t, rfl⟩ := rx
  obtain ⟨t', rfl⟩ := ry
  have hm : z.length * n.toNat ≤ 1000 * 1000 := Nat.mul_le_mul hz (by omega)
  refine PySem.P.mul_str (by rw [decide_eq_false (by omega), decide_eq_false (by omega)]; rfl) (fun _ _ hh => ?_) (fun _ _ => ?_) ?_
  · have h2 : (1000 : Int) ≤ (2 ^ 63 - 1) / n := by
      have hn : 0 < n := by omega
      rw [Int.le_ediv_iff_mul_le hn]
      have : 1000 * n ≤ 1000 * 1000 := by omega
      have e : (1000 : Int) * 1000 ≤ 2 ^ 63 - 1 := by decide
      omega
    omega
  · exact decide_eq_false (by
      have : (1000 * 1000 : Nat) ≤ sizeLine := by decide
      omega)
  · by_cases c : n < 1
    · rw [if_pos c]
      have e : repS z n.toNat = Str.empty := by
        rw [show n.toNat = 0 by omega]
        rfl
      exact ⟨by decide, .str (repS z n.toNat), H, I.tok _, ⟨_, by rw [e]⟩, q⟩
    · rw [if_neg c]
      by_cases d : (n == 1 || z.length == 0) = true
      · rw [if_pos d]
        have e : repS z n.toNat = z := by
          rcases Bool.or_eq_true _ _ ▸ d with d | d
          · have : n = 1 := by simpa using d
            rw [this]
            show (⟨((List.replicate 1 z.cps.toList).flatten).toArray⟩ : Str) = z
            cases z with
            | mk a => simp
          · have hz0 : z.cps.size = 0 := eq_of_beq d
            cases z with
            | mk a =>
              have : a = #[] := Array.eq_empty_of_size_eq_zero hz0
              subst this
              unfold repS
              have : ∀ k : Nat, (List.replicate k ([] : List Nat)).flatten = [] := fun k => by induction k with
                | zero => rfl
                | succ k ih => simpa [List.replicate_succ] using ih
              show (⟨((List.replicate n.toNat ([] : List Nat)).flatten).toArray⟩ : Str) = _
              rw [this]
        exact ⟨.str (repS z n.toNat), H, I, ⟨_, by rw [e]⟩, q⟩
      · rw [if_neg d]
        have e : (⟨(List.replicate n.toNat z.cps).foldl (· ++ ·) #[]⟩ : Str) = repS z n.toNat := by
          rw [rep_fold]
          unfold repS
          simp
        rw [e]
        have hl := repS_len z n.toNat
        refine ⟨?_, .str (repS z n.toNat), H, I.tok _, ⟨_, rfl⟩, q⟩
        rw [hl, Nat.mul_comm]
        have : (1000 * 1000 : Nat) ≤ sizeLine := by decide
        omega
/-- the signs of a text, a text each -/
def chars (z : Str) : List V := z.cps.toList.map fun c => V.str ⟨#[c]⟩
def rListStr : List V → Hp → VK → Prop := fun xs H Q => ∃ z : Str, xs = [.str z] ∧ z.length ≤ sizeLine ∧ ∀ l, H l = none → Q (.ref l) (upd H l (.lst (chars z)))
theorem call_listS {X : Cx} (hc : X.calm = true) : CallR X (.type "list") rListStr := by
  intro pins s σ H xs us Q I r h
  obtain ⟨z, rfl, hz, q⟩ := h
  obtain ⟨u, rfl, rx⟩ := vals1 r
  obtain ⟨t, rfl⟩ := rx
  refine PySem.call_list_str (I.ok.hd hc) z t (fun h' tk acc' c' hk e hi => ?_) (by simpa [Str.length] using hz)
  have hlen : (chars z).length = z.cps.size := by simp [chars]
  refine ⟨.ref s.heap.objs.size, upd H s.heap.objs.size (.lst (chars z)), I.laid hk (Nat.le_refl _) ⟨by rw [hlen]; exact hz, acc'.toList, c', ?_, by rw [Array.toArray_toList]; exact e⟩, rfl, q _ (I.hok.fresh (Nat.le_refl _))⟩
  refine vals_of_idx _ _ (by rw [hlen, Array.length_toList]; exact hi.1) fun j u hj => ?_
  obtain ⟨c, t', hc, rfl⟩ := hi.2 j u (by rw [← Array.getElem?_toList]; exact hj)
  refine ⟨.str ⟨#[c]⟩, ?_, ⟨_, rfl⟩⟩
  unfold chars
  rw [List.getElem?_map, Array.getElem?_toList, hc]
  rfl
section
variable {K : PySem.W.Frag} {σ : L2.St} {G H : Hp} {ta tb te : TE} {t : TT} {x y z v : V} {r : R2} {D : Ends} {tz : TS}
theorem rv_rep {zt : Str} {n : Int} (h0 : 0 ≤ n) (h1 : n ≤ 1000) (hz : zt.length ≤ 1000) : RV rMulS (.str zt) (.int n) H (.str (repS zt n.toNat)) := fun H1 _ _ q => ⟨zt, n, rfl, rfl, h0, h1, hz, q H1 (Ex.refl H1)⟩
theorem el_listS {zt : Str} (h : Ev te σ H (.str zt)) (hz : zt.length ≤ 100000) : EvL (tCB rListStr (tCons te tNil)) σ H (chars zt) := fun H1 e Q q =>
  h H1 e _ fun H2 e2 => ⟨zt, rfl, sz_of hz, fun l hl => q l _ (fresh_back e2 hl) (e2.trans (Ex.new hl)) upd_same⟩
theorem el_listL {a : Addr} {xs : List V} (h : Ev te σ H (.ref a)) (hx : SqL K H a xs) : EvL (tCB (fun xs H Q => ∃ p ys, xs = [.ref p] ∧ (SqL K H p ys ∨ SqT K H p ys) ∧ ∀ l, H l = none → Q (.ref l) (upd H l (.lst ys))) (tCons te tNil)) σ H xs := fun H1 e Q q =>
  h H1 e _ fun H2 e2 => ⟨a, xs, rfl, .inl (ex_l (e.trans e2) hx), fun l hl => q l _ (fresh_back e2 hl) (e2.trans (Ex.new hl)) upd_same⟩
/-- tuple(list) -/
theorem eu_tupL {a : Addr} {xs : List V} (h : Ev te σ H (.ref a)) (hx : SqL K H a xs) : EvU (tCB (fun xs H Q => ∃ p ys, xs = [.ref p] ∧ ((SqL K H p ys ∧ ∀ l, H l = none → Q (.ref l) (upd H l (.tup ys))) ∨ (SqT K H p ys ∧ Q (.ref p) H))) (tCons te tNil)) σ H xs := fun H1 e Q q =>
  h H1 e _ fun H2 e2 => ⟨a, xs, rfl, .inl ⟨ex_l (e.trans e2) hx, fun l hl => q l _ (fresh_back e2 hl) (e2.trans (Ex.new hl)) upd_same⟩⟩
theorem el_listRg {i j : Int} (ha : Ev ta σ H (.int i)) (hb : Ev tb σ H (.int j)) (h0 : 0 ≤ i) (h1 : i ≤ 100000) (h2 : 0 ≤ j) (h3 : j ≤ 100000) : EvL (tLstRg (tRg2 ta tb)) σ H (rgV i j) := fun H1 e Q q =>
  ha H1 e _ fun H2 e2 => hb H2 (e.trans e2) _ fun H3 e3 => ⟨i, j, rfl, rfl, RgOk.of_le h0 (by omega) (by omega) h2, fun l hl => q l _ (fresh_back (e2.trans e3) hl) ((e2.trans e3).trans (Ex.new hl)) upd_same⟩
theorem ev_slS {zt : Str} {tl th : TO} {lo hi : Option Int} (h : Ev te σ H (.str zt)) (h1 : EvO tl σ H lo) (h2 : EvO th σ H hi) (hz : zt.length ≤ 100000) : Ev (tSl rSlS te tl th) σ H (.str (cutS zt lo hi)) := fun H1 e _ q =>
  h H1 e _ fun H2 e2 => h1 H2 (e.trans e2) _ fun H3 e3 => h2 H3 ((e.trans e2).trans e3) _ fun H4 e4 => ⟨zt, rfl, sz_of hz, q H4 ((e2.trans e3).trans e4)⟩
/-- a list that stands and a new one, joined -/
theorem el_cat {a : Addr} {xs ys : List V} (ha : Ev ta σ H (.ref a)) (hx : H a = some (.lst xs)) (hb : EvL tb σ H ys) (hz : xs.length + ys.length ≤ 100000) : EvL (tOp rCat ta tb) σ H (xs ++ ys) := fun H1 e Q q =>
  ha H1 e _ fun H2 e2 => hb H2 (e.trans e2) _ fun b H3 hb3 e3 hy => ⟨a, b, xs, ys, rfl, rfl, e3 _ _ (e2 _ _ (e _ _ hx)), hy, sz_of hz, fun l hl => q l _ (fresh_back (e2.trans e3) hl) ((e2.trans e3).trans (Ex.new hl)) upd_same⟩
theorem el_catN {xs ys : List V} (ha : EvL ta σ H xs) (hb : EvL tb σ H ys) (hz : xs.length + ys.length ≤ 100000) : EvL (tOp rCat ta tb) σ H (xs ++ ys) := fun H1 e Q q =>
  ha H1 e _ fun a H2 ha2 e2 hx => hb H2 (e.trans e2) _ fun b H3 hb3 e3 hy => ⟨a, b, xs, ys, rfl, rfl, e3 _ _ hx, hy, sz_of hz, fun l hl => q l _ (fresh_back (e2.trans e3) hl) ((e2.trans e3).trans (Ex.new hl)) upd_same⟩
/-- xs.extend(a new list) -/
theorem s_extL {l : Addr} {xs ys : List V} (hl : H l = some (.lst xs)) (ha : Ev ta σ H (.ref l)) (h : EvL te σ H ys) (hz : xs.length + ys.length ≤ 100000) (k : ∀ p H1, H p = none → Ex H H1 → D.nx σ (upd H1 l (.lst (xs ++ ys)))) :
    tDrop (tBM K "list" rExtend ta (tCons te tNil)) D σ H := ha H (Ex.refl H) _ fun H1 e1 =>
  ⟨Or.inl ⟨rfl, xs, sq_of (e1 l _ hl)⟩, h H1 e1 _ fun p H2 hp e2 h2 => ⟨l, p, xs, ys, rfl, rfl, e2 l _ (e1 l _ hl), h2, sz_of hz, k p H2 (fresh_back e1 hp) (e1.trans e2)⟩⟩
theorem cut_lt {zt : Str} {b : Nat} : cutS zt none (some (b : Int)) = ⟨(zt.cps.toList.take b).toArray⟩ := by
  unfold cutS
  have e : zt.length = zt.cps.toList.length := by simp [Str.length]
  rw [HT.sIx_none, HT.sIx_nat, e]
  congr 2
  rw [List.drop_zero, Nat.sub_zero]
  by_cases h : b ≤ zt.cps.toList.length
  · rw [Nat.min_eq_left h]
  · rw [Nat.min_eq_right (by omega), List.take_of_length_le (Nat.le_refl _), List.take_of_length_le (by omega)]
theorem cut_ge {zt : Str} {a : Nat} : cutS zt (some (a : Int)) none = ⟨(zt.cps.toList.drop a).toArray⟩ := by
  unfold cutS
  have e : zt.length = zt.cps.toList.length := by simp [Str.length]
  rw [HT.sIx_none, HT.sIx_nat, e]
  congr 1
  by_cases h : a ≤ zt.cps.toList.length
  · rw [Nat.min_eq_left h, List.take_of_length_le (by rw [List.length_drop]; exact Nat.le_refl _)]
  · rw [Nat.min_eq_right (by omega), Nat.sub_self, List.take_zero, List.drop_of_length_le (by omega)]
theorem cut_in {zt : Str} {a b : Nat} : cutS zt (some (a : Int)) (some (b : Int)) = ⟨((zt.cps.toList.drop a).take (b - a)).toArray⟩ := by
  unfold cutS
  have e : zt.length = zt.cps.toList.length := by simp [Str.length]
  rw [HT.sIx_nat, HT.sIx_nat, e]
  congr 1
  by_cases h : a ≤ zt.cps.toList.length
  · rw [Nat.min_eq_left h]
    by_cases h2 : b ≤ zt.cps.toList.length
    · rw [Nat.min_eq_left h2]
    · rw [Nat.min_eq_right (by omega), List.take_of_length_le (by rw [List.length_drop]; exact Nat.le_refl _), List.take_of_length_le (by rw [List.length_drop]; omega)]
  · rw [Nat.min_eq_right (by omega : zt.cps.toList.length ≤ a), List.drop_of_length_le (Nat.le_refl _), List.drop_of_length_le (by omega)]
    simp
/-- a call that hands back a new tuple -/
def SpU (sp : Sp) (vs : List V) (H : Hp) (xs : List V) : Prop := ∀ H1, Ex H H1 → ∀ Q : VK, (∀ p H2, H1 p = none → Ex H1 H2 → H2 p = some (.tup xs) → Q (.ref p) H2) → ∀ E : XK, sp vs H1 Q E
theorem eu_call {sp : Sp} {dvs vs xs : List V} {E : XK} {ta : TA} (h : EvA ta σ H vs) (hs : SpU sp (vs ++ dvs) H xs) : EvU (tCall sp dvs E ta) σ H xs := fun H1 e Q q =>
  h H1 e _ fun H2 e2 => hs H2 (e.trans e2) Q (fun p H3 hp e3 h3 => q p H3 (fresh_back e2 hp) (e2.trans e3) h3) E
/-- a call of a new tuple, of a new list -/
theorem el_call1U {sp : Sp} {E : XK} {xs ys : List V} (h : EvU te σ H xs) (hs : ∀ p H1, H1 p = some (.tup xs) → Ex H H1 → SpL sp [.ref p] H1 ys) : EvL (tCall sp [] E (tCons te tNil)) σ H ys := fun H1 e Q q =>
  h H1 e _ fun p H2 hp e2 h2 => hs p H2 h2 (e.trans e2) H2 (Ex.refl _) Q (fun r H3 hr e3 h3 => q r H3 (fresh_back e2 hr) (e2.trans e3) h3) E
theorem ev_call1L {sp : Sp} {E : XK} {xs : List V} (h : EvL te σ H xs) (hs : ∀ p H1, H1 p = some (.lst xs) → Ex H H1 → SpV sp [.ref p] H1 z) : Ev (tCall sp [] E (tCons te tNil)) σ H z := fun H1 e Q q =>
  h H1 e _ fun p H2 hp e2 h2 => hs p H2 h2 (e.trans e2) H2 (Ex.refl _) Q (fun H3 e3 => q H3 (e2.trans e3)) E
/-- a slice of a drawn text -/
theorem evp_slS {zt : Str} {tl th : TO} {lo hi : Option Int} {p : Addr} {s s1 : Int × Int} (h : EvP te σ G p s (.str zt) s1) (h1 : EvO tl σ G lo) (h2 : EvO th σ G hi) (hz : zt.length ≤ 100000) : EvP (tSl rSlS te tl th) σ G p s (.str (cutS zt lo hi)) s1 := fun H k _ q =>
  h H k _ fun H2 e2 g2 => h1 H2 (k.next e2 g2).ex _ fun H3 e3 => h2 H3 ((k.next e2 g2).ex.trans e3) _ fun H4 e4 => ⟨zt, rfl, sz_of hz, q H4 (hx_trans e2 (hx_of (e3.trans e4))) (e4 _ _ (e3 _ _ g2))⟩
/-- if c: x = e, what x is behind it by a word -/
theorem q_ifAsgM {M : V → Hp → Prop} {b : Bool} {i : Nat} (h : EvT t σ H b) (h1 : b = true → ∀ H1, Ex H H1 → ∀ Q : VK, (∀ v H2, M v H2 → Q v H2) → te σ H1 Q) (h2 : b = false → ∀ H1, Ex H H1 → ∃ v, σ.set i (some v) = σ ∧ M v H1) (k : ∀ v H2, M v H2 → tz D (σ.set i (some v)) H2) :
    tSeq (tIfS t (tAsg te (gName i)) tNext) tz D σ H := q_when h (fun hb H1 e1 => h1 hb H1 e1 _ fun v H2 m => k v H2 m) (fun hb H1 e1 => by
  obtain ⟨v, hv, m⟩ := h2 hb H1 e1
  have := k v H1 m
  rw [hv] at this
  exact this)
theorem qp_ifAsgM {M : V → Hp → Prop} {b : Bool} {i : Nat} {p : Addr} {s s1 : Int × Int} (K0 : Kn G p s H) (h : EvTP t σ G p s b s1) (h1 : b = true → ∀ H1, Kn G p s1 H1 → Ex (hide p H) H1 → ∀ Q : VK, (∀ v H2, M v H2 → Q v H2) → te σ H1 Q) (h2 : b = false → ∀ H1, Kn G p s1 H1 → Ex (hide p H) H1 → ∃ v, σ.set i (some v) = σ ∧ M v H1) (k : ∀ v H2, M v H2 → tz D (σ.set i (some v)) H2) :
    tSeq (tIfS t (tAsg te (gName i)) tNext) tz D σ H := qp_when K0 h (fun hb H1 K1 e1 => h1 hb H1 K1 e1 _ fun v H2 m => k v H2 m) (fun hb H1 K1 e1 => by
  obtain ⟨v, hv, m⟩ := h2 hb H1 K1 e1
  have := k v H1 m
  rw [hv] at this
  exact this)
end

/-! ### own classes -/
/-- x in o, o an instance whose class has its own __contains__ -/
def rInOwn (C : Addr) (sp : Sp) (E : XK) : R2 := fun x y H Q => ∃ a dx fs, y = .ref a ∧ H a = some (.ins C dx fs) ∧ sp [.ref a, x] H (fun v H' => ∃ b, v = .bl b ∧ Q (.bl b) H') E
theorem contains_own {X : Cx} {CX : CXT} {C f : Addr} {fd : FuncData} {ps : List Str} {k : Nat} {sp : Sp} {E : XK} (hs : PySem.W.findIn X.K (.ref C) "__contains__" = some (some (.ref f))) (hf : PySem.W.typeIn X.K (.ref f) = some (.type "function"))
    (F : FnOk X.prog X.w X.K X.mg X.base CX k f fd ps sp) (hr : Room k X.A) (hb : Binds X.K fd ps []) (hx : Passes CX X E) {pins : List (Addr × Obj)} {s : Shared} {σ : L2.St} {H : Hp} {x : V} {v : Value} {a dx : Addr} {fs : List (Str × V)} {Q : Bool → Hp → Prop}
    (I : Inv X pins σ H s) (rx : RelV x v) (ha : H a = some (.ins C dx fs)) (h : sp [.ref a, x] H (fun v H' => ∃ b, v = .bl b ∧ Q b H') E) :
    wpAny (model X.prog X.w) X.A (contains (.ref a) v) (TP X pins σ Q) X.xe s := by
  obtain ⟨mA, J, _⟩ := ins_get I.hok ha
  obtain ⟨od, J, _⟩ := J.look
  unfold contains
  refine wpAny_holding ?_
  show wpAny _ _ (specialOf (.ref a) "__contains__" >>= fun r => _) _ _ s
  have hsp : ∀ {β : Type} {t : Option Value → Sem β} {Q' : β → Shared → Prop}, wpAny (model X.prog X.w) X.A (t (some (.ref f))) Q' X.xe s → wpAny (model X.prog X.w) X.A (specialOf (.ref a) "__contains__" >>= t) Q' X.xe s := fun z =>
    wpAny_bind (wpAny_bind (J.type.here ((PySem.W.looks_findIn I.kIn hs).here z)))
  refine hsp ?_
  show wpAny _ _ (callSpecialUnlessNone? (.ref a) "__contains__" [v] _ >>= fun r => _) _ _ s
  refine wpAny_bind ?_
  unfold callSpecialUnlessNone?
  refine hsp ?_
  show wpAny _ _ (holding [.ref a, v] (bindSpecial (.ref f) (.ref a) >>= fun p => _)) _ _ s
  refine wpAny_holding (wpAny_bind ((PySem.W.bind_fn I.kIn _ hf).here ?_))
  show wpAny _ _ (call (.ref f) [.ref a, v] >>= fun r => pure (some r)) _ _ s
  refine wpAny_bind (wpAny_mono (run_fn (us := [.ref a, v]) F hr hb .nil hx I (.cons (show RelV (.ref a) (Value.ref a) from rfl) (.cons rx .nil)) h) (fun r s' q => ?_) fun _ _ z => z)
  obtain ⟨z, H', I', rz, b, rfl, q⟩ := q
  cases (show r = Value.bool b from rz)
  refine wpAny_pure ?_
  exact wpAny_truthy_bool ⟨H', I', q⟩
theorem op_inOwn {X : Cx} {CX : CXT} {C f : Addr} {fd : FuncData} {ps : List Str} {k : Nat} {sp : Sp} {E : XK} (hs : PySem.W.findIn X.K (.ref C) "__contains__" = some (some (.ref f))) (hf : PySem.W.typeIn X.K (.ref f) = some (.type "function"))
    (F : FnOk X.prog X.w X.K X.mg X.base CX k f fd ps sp) (hr : Room k X.A) (hb : Binds X.K fd ps []) (hx : Passes CX X E) : OpR X (compareOp .In) (rInOwn C sp E) := by
  intro pins s σ H x y v u Q I rx ry h
  obtain ⟨a, dx, fs, rfl, ha, hsp⟩ := h
  cases (show u = Value.ref a from ry)
  show wpAny _ _ (contains (.ref a) v >>= fun b => (pure (Value.bool b) : Sem Value)) _ _ s
  refine wpAny_bind (wpAny_mono (contains_own (Q := fun b H' => Q (.bl b) H') hs hf F hr hb hx I rx ha hsp) (fun b s' q => ?_) fun _ _ z => z)
  obtain ⟨H', I', q⟩ := q
  exact wpAny_pure ⟨.bl b, H', I', rfl, q⟩
/-- a method; a special method; an __init__; an __init__ with a star -/
def DfM (P : Program) (w : World) (K : PySem.W.Frag) (mg : Str → Option Value) (base : Heap) (C : Addr) (m : Str) (ps : List Str) (k : Nat) (sp : Sp) : Prop :=
  ∃ (f : Addr) (fd : FuncData), Meth K C m f ∧ Binds K fd ps [] ∧ FnOk P w K mg base CX0 k f fd ps sp
def DfC (P : Program) (w : World) (K : PySem.W.Frag) (mg : Str → Option Value) (base : Heap) (C : Addr) (m : Str) (ps : List Str) (k : Nat) (sp : Sp) : Prop :=
  ∃ (f : Addr) (fd : FuncData), PySem.W.findIn K (.ref C) m = some (some (.ref f)) ∧ PySem.W.typeIn K (.ref f) = some (.type "function") ∧ Binds K fd ps [] ∧ FnOk P w K mg base CX0 k f fd ps sp
def DfI (P : Program) (w : World) (K : PySem.W.Frag) (mg : Str → Option Value) (base : Heap) (x : Str) (C : Addr) (ps : List Str) (k : Nat) (sp : Sp) : Prop :=
  ∃ (f : Addr) (fd : FuncData), Mk K C f ∧ mg x = some (.ref C) ∧ Binds K fd ps [] ∧ FnOk P w K mg base CX0 k f fd ps sp
def DfS (P : Program) (w : World) (K : PySem.W.Frag) (mg : Str → Option Value) (base : Heap) (x : Str) (C : Addr) (k : Nat) (sp : Sp) : Prop :=
  ∃ f : Addr, Mk K C f ∧ mg x = some (.ref C) ∧ FnR P w K mg base CX0 k f sp
section
variable {X : Cx} {k : Nat} {ps : List Str} {sp : Sp} {C : Addr} {x m : Str} {p pos apos : Pos} {o e : Expr} {es : List Expr} {t : TA} {ta : TE}
theorem pe_mk (D : DfI X.prog X.w X.K X.mg X.base x C ps k sp) (hr : Room (k + 1) X.A) (hg : Gl X x) (ha : PA X (e :: es) t) (hdb : (x == ("__debug__" : Str)) = false := by decide)
    (he : starEach (e :: es) X.env = (false, eval e X.env) :: starEach es X.env := by rfl) (hpl : (backTo pos (starEach es X.env)).any (·.1) = false := by rfl) : PE X (.Call (.Name x p) (e :: es) [] pos) (tMake C sp [] E0 t) := by
  obtain ⟨f, fd, M, hm, hb, F⟩ := D
  exact pe_make M F hr hg hm hb .nil pass0 ha hdb he hpl
theorem pe_mkS (D : DfS X.prog X.w X.K X.mg X.base x C k sp) (hr : Room (k + 1) X.A) (hg : Gl X x) (ha : PA X (e :: es) t) (hdb : (x == ("__debug__" : Str)) = false := by decide)
    (he : starEach (e :: es) X.env = (false, eval e X.env) :: starEach es X.env := by rfl) (hpl : (backTo pos (starEach es X.env)).any (·.1) = false := by rfl) : PE X (.Call (.Name x p) (e :: es) [] pos) (tMakeR C sp E0 t) := by
  obtain ⟨f, M, hm, F⟩ := D
  exact pe_makeR M F hr hg hm pass0 ha hdb he hpl
theorem pe_mth0 {pl : Sem Bool} (c : Cls X.K C) (D : DfM X.prog X.w X.K X.mg X.base C m ps k sp) (hr : Room k X.A) (he : PE X o ta)
    (ht : eval (.Call (.Attribute o m apos) [] [] pos) X.env = (do let ov ← eval o X.env; standAt apos.atName; let (f, first) ← holding [ov] (getMethod ov m pl); callWith pos f first (backTo pos (starEach [] X.env)) (backToKw pos (keywordEach [] X.env))) := by rfl) :
    PE X (.Call (.Attribute o m apos) [] [] pos) (tMeth C m sp [] E0 ta tNil) := by
  obtain ⟨f, fd, hm, hb, F⟩ := D
  exact pe_meth0 he c hm F hr hb .nil pass0 ht
theorem pe_mth {pl : Sem Bool} (c : Cls X.K C) (D : DfM X.prog X.w X.K X.mg X.base C m ps k sp) (hr : Room k X.A) (he : PE X o ta) (ha : PA X (e :: es) t)
    (hst : starEach (e :: es) X.env = (false, eval e X.env) :: starEach es X.env := by rfl) (hpl : (backTo pos (starEach es X.env)).any (·.1) = false := by rfl)
    (ht : eval (.Call (.Attribute o m apos) (e :: es) [] pos) X.env = (do let ov ← eval o X.env; standAt apos.atName; let (f, first) ← holding [ov] (getMethod ov m pl); callWith pos f first (backTo pos (starEach (e :: es) X.env)) (backToKw pos (keywordEach [] X.env))) := by rfl) :
    PE X (.Call (.Attribute o m apos) (e :: es) [] pos) (tMeth C m sp [] E0 ta t) := by
  obtain ⟨f, fd, hm, hb, F⟩ := D
  exact pe_meth he c hm F hr hb .nil pass0 ha hst hpl ht
theorem op_in_df (D : DfC X.prog X.w X.K X.mg X.base C "__contains__" ps k sp) (hr : Room k X.A) : OpR X (compareOp .In) (rInOwn C sp E0) := by
  obtain ⟨f, fd, h1, h2, hb, F⟩ := D
  exact op_inOwn h1 h2 F hr hb pass0
end
end Kz
namespace Kz
open PySem PySem.Spec PyProof.Rows L2 Evl StX
/-! ### own exceptions: made and raised, passed on, caught, asked -/
/-- class C, named x, whose own __init__ keeps sp -/
structure XIn (K : PySem.W.Frag) (C : Addr) : Prop where
  o : OexC K C
  x : XfC K C
  h : (PySem.W.clsIn K C).isSome = true
  a : PySem.W.findIn K (.ref C) "__class__" = some (some (.builtin "object.__class__"))
  n : PySem.W.specialIn K (.builtin "object.__class__") "__get__" = some (some (.builtin "getset_descriptor.__get__"))
  t : PySem.W.takesIn K (.builtin "object.__class__") = some true
  m : PySem.W.mroIn K C (.type "object") = some true
  s : PySem.W.exmOne K (.ref C) (.ref C) = some true
def DfX (P : Program) (w : World) (K : PySem.W.Frag) (mg : Str → Option Value) (base : Heap) (x : Str) (C : Addr) (ps : List Str) (k : Nat) (sp : Sp) : Prop :=
  ∃ (f : Addr) (fd : FuncData), OexC K C ∧ PySem.W.findIn K (.ref C) "__init__" = some (some (.ref f)) ∧ PySem.W.typeIn K (.ref f) = some (.type "function") ∧ mg x = some (.ref C) ∧ Binds K fd ps [] ∧ FnOk P w K mg base CX0 k f fd ps sp
/-- an own class whose starred __init__ may raise -/
def DfSX (P : Program) (w : World) (K : PySem.W.Frag) (mg : Str → Option Value) (base : Heap) (x : Str) (C : Addr) (k : Nat) (sp : Sp) : Prop :=
  ∃ f : Addr, Mk K C f ∧ mg x = some (.ref C) ∧ FnR P w K mg base (L2.CX P w) k f sp
/-- a def that may raise -/
def DfR (P : Program) (w : World) (K : PySem.W.Frag) (mg : Str → Option Value) (base : Heap) (x : Str) (ps : List Str) (k : Nat) (sp : Sp) : Prop :=
  ∃ (f : Addr) (fd : FuncData), mg x = some (.ref f) ∧ PySem.W.keepIn K (.ref f) = true ∧ Binds K fd ps [] ∧ FnOk P w K mg base (L2.CX P w) k f fd ps sp
section
variable {X : Cx} {k : Nat} {ps : List Str} {sp : Sp} {C : Addr} {x : Str} {p pos pos2 : Pos} {e : Expr} {es : List Expr} {t : TA} {W : WX}
theorem ps_raiseX (D : DfX X.prog X.w X.K X.mg X.base x C ps k sp) (hr : Room (k + 1) X.A) (hg : Gl X x) (hc : X.calm = true) (tk : Takes X W) (ha : PA X (e :: es) t) (hdb : (x == ("__debug__" : Str)) = false := by decide)
    (he : starEach (e :: es) X.env = (false, eval e X.env) :: starEach es X.env := by rfl) (hpl : (backTo pos (starEach es X.env)).any (·.1) = false := by rfl) :
    PS X (.Raise (some (.Call (.Name x p) (e :: es) [] pos)) none pos2) (fun _ σ H => tMkO C sp [] t σ H fun cls d H' => W cls d σ H') := by
  obtain ⟨f, fd, h1, h2, h3, h4, h5, F⟩ := D
  exact ps_raise hc tk (pmk_oex h1 h2 h3 F hr h5 .nil pass0 hg h4 ha hdb he hpl)
theorem pe_mkSX {E : XK} (D : DfSX X.prog X.w X.K X.mg X.base x C k sp) (hr : Room (k + 1) X.A) (hg : Gl X x) (tk : Takes X (fun cls d _ H => E cls d H)) (ha : PA X (e :: es) t) (hdb : (x == ("__debug__" : Str)) = false := by decide)
    (he : starEach (e :: es) X.env = (false, eval e X.env) :: starEach es X.env := by rfl) (hpl : (backTo pos (starEach es X.env)).any (·.1) = false := by rfl) : PE X (.Call (.Name x p) (e :: es) [] pos) (tMakeR C sp E t) := by
  obtain ⟨f, M, hm, F⟩ := D
  exact pe_makeR M F hr hg hm (passes_call tk fun _ _ _ _ h => h) ha hdb he hpl
theorem pe_mkSX0 {E : XK} (D : DfSX X.prog X.w X.K X.mg X.base x C k sp) (hr : Room (k + 1) X.A) (hg : Gl X x) (tk : Takes X (fun cls d _ H => E cls d H)) (hdb : (x == ("__debug__" : Str)) = false := by decide) :
    PE X (.Call (.Name x p) [] [] pos) (tMakeR C sp E tNil) := by
  obtain ⟨f, M, hm, F⟩ := D
  refine ⟨fun pins s σ H Q I h => wpAny_Call_Name_kw (ld_glob I hg hm (PySem.W.callWith_K0 I.kIn M.kp (run_makeR (us := []) M F hr (passes_call tk fun _ _ _ _ h => h) I .nil h)) hdb)⟩
theorem pe_dfR (D : DfR X.prog X.w X.K X.mg X.base x ps k sp) (hr : Room k X.A) (hg : Gl X x) (tk : Takes X W) (ha : PA X (e :: es) t) (hdb : (x == ("__debug__" : Str)) = false := by decide)
    (he : starEach (e :: es) X.env = (false, eval e X.env) :: starEach es X.env := by rfl) (hpl : (backTo pos (starEach es X.env)).any (·.1) = false := by rfl) : PE X (.Call (.Name x p) (e :: es) [] pos) (tCallS sp (WE W) t) := by
  obtain ⟨f, fd, hm, hk, hb, F⟩ := D
  exact pe_callS F hr hg hm hk hb (fun σ => passAt tk σ) ha hdb he hpl
end
/-- an __init__ that keeps its one argument at the field f -/
def spXI (C : Addr) (f : Str) : Sp := fun vs H Q _ => ∃ (a : Addr) (v : V), vs = [.ref a, v] ∧ H a = some (exo a C none) ∧ ∀ dx, H dx = none → dx ≠ a → Q .non (upd (upd H dx (exd dx [(f, v)])) a (exo a C (some dx)))
theorem mkX {C : Addr} {f : Str} {σ : L2.St} {H : Hp} {te : TE} {v : V} {Q : XK} (h : Ev te σ H v) (q : ∀ d H1, H d = none → Ex H H1 → H1 d = some (.xd [(f, v)]) → Q (.ref C) (some d) H1) : tMkO C (spXI C f) [] (tCons te tNil) σ H Q :=
  h H (Ex.refl _) _ fun H1 e1 => ⟨by simp, fun a ha => ⟨a, v, rfl, upd_same, fun dx hdx hne => by
    have hd1 : H1 dx = none := by
      rw [upd_ne hne] at hdx
      exact hdx
    refine ⟨rfl, dx, _, upd_same, by rw [upd_ne hne, upd_same], hd1, q dx _ (fresh_back e1 hd1) (e1.trans fun b o hb => ?_) upd_same⟩
    have nb : b ≠ dx := ne_of_none hb hd1
    have na : b ≠ a := ne_of_none hb ha
    rw [upd_ne nb, del_ne na, upd_ne na, upd_ne nb, upd_ne na]
    exact hb⟩⟩

/-! a def that is called with the caught exception -/
open L2H in
structure FnE (P : Program) (w : World) (K : PySem.W.Frag) (mg : Str → Option Value) (base : Heap) (k : Nat) (f : Addr) (fd : FuncData) (ps : List Str) (sp : Addr → Value → Option Addr → Sp) : Prop where
  len : ∀ a c d vs H Q E, sp a c d vs H Q E → vs.length = ps.length
  run : ∀ (a : Addr) (oe : Obj) (c : Value) (d : Option Addr), Zc c d oe → (∃ vs, oe.data = .fields vs) → ∀ (A : Around) (outer : List Env) (s : Shared) (H : Hp), RoomH k A → PinOk outer H s (a, oe) → Env0 P w K mg base A outer s H →
    ∀ (args : Args) (us : List Value) (vs : List V) (Q : VK) (E : XK), BindsTo s fd args (ps.zip us) → Vals vs us → sp a c d vs H Q E → codeAny (model P w) A (.call (.ref f) args) (CR CX0 outer P w H s Q E) s
def DfE (P : Program) (w : World) (K : PySem.W.Frag) (mg : Str → Option Value) (base : Heap) (x : Str) (ps : List Str) (k : Nat) (sp : Addr → Value → Option Addr → Sp) : Prop :=
  ∃ (f : Addr) (fd : FuncData), mg x = some (.ref f) ∧ PySem.W.keepIn K (.ref f) = true ∧ Binds K fd ps [] ∧ FnE P w K mg base k f fd ps sp
open L2H in
theorem Fun.okE {P : Program} {w : World} {K : PySem.W.Frag} {mg : Str → Option Value} {base : Heap} {x qual : Str} {st : Stmt} {f : Addr} {fd : FuncData} {N ps : List Str} {k : Nat} {sp : Addr → Value → Option Addr → Sp}
    (F : Fun K x qual st f fd) (S : FnScope N ps (defScope st)) (len : ∀ a c d vs H Q E, sp a c d vs H Q E → vs.length = ps.length)
    (walk : ∀ (a : Addr) (oe : Obj) (c : Value) (d : Option Addr), Zc c d oe → (∃ vs, oe.data = .fields vs) → ∀ (cdv : Value) (A : Around) (outer : List Env) (s : Shared) (H : Hp) (vs : List V) (Q : VK) (E : XK),
      RoomH k (A.deeper (envOfC qual (defScope st) s.heap.objs.size f cdv)) → sp a c d vs H Q E →
      ∃ t, PSs (cxH CX0 P w K mg base N qual (defScope st) f cdv A outer s H E (a, oe)) (defBody st) t ∧ t { nx := fun _ H' => Q .non H', rt := Q } (L2.start N vs) H) :
    FnE P w K mg base (k + 1) f fd ps sp := by
  obtain ⟨oc, od, kV, doc, pm, an, cdv, ct, osl, rfl, lk, hcd⟩ := F.ex
  refine ⟨len, ?_⟩
  intro a oe c d hz hf A outer s H hr pin e0 args us vs Q E hb r h
  have inn : K.In s.heap := e0.mod.kin.keeps fun b o z => (e0.bs b o z).1
  have nol : s.heap.NoLimit := e0.mod.nolimit.keeps fun b o z => (e0.bs b o z).1
  refine codeAny_call_function hr.depth (inn _ _ lk) rfl S.co S.gen rfl (PySem.W.codeRec_of inn hcd) (hb _ _ _ _ (wpAny_newFunctionEnv_cells S.kind ?_ ?_))
  · rintro ⟨n, v⟩ hy
    exact (S.par n (List.of_mem_zip hy).1).imp id fun q => ⟨q, PySem.W.cellsFrom_some _ _ _ (.inl q)⟩
  · rintro env rfl s1 ic
    refine ⟨nol.keeps ic.toInCall.keep, codeAny_func ?_⟩
    obtain ⟨t, ht, hq⟩ := walk a oe c d hz hf cdv A outer s H vs Q E (hr.deeper _) h
    have J0 := inv_startH (CX := CX0) (P := P) (w := w) (mg := mg) (base := base) (f := f) (E := E) S pin e0 (len _ _ _ _ _ _ _ h) r ic
    refine wpAny_mono (ht.run [] s1 _ H _ J0 hq) (fun fl s' z => ?_) fun er s' z => z
    match fl, z with
    | .ret u, z =>
      obtain ⟨v, σ', H', J, rv, q⟩ := z
      exact ⟨v, H', J.os, J.bare, J.base, J.hok, rv, q⟩
    | .next, z =>
      obtain ⟨σ', H', J, q⟩ := z
      exact ⟨V.non, H', J.os, J.bare, J.base, J.hok, rfl, q⟩
    | .brk, z => exact z.elim fun _ z => z.elim fun _ z => z.2.elim
    | .cont, z => exact z.elim fun _ z => z.elim fun _ z => z.2.elim
open L2H in
theorem pe_dfE {X : Cx} {k : Nat} {ps : List Str} {sp : Addr → Value → Option Addr → Sp} {x : Str} {p pos : Pos} {e : Expr} {es : List Expr} {t : TA} {a : Addr} {oe : Obj} {c : Value} {d : Option Addr} (D : DfE X.prog X.w X.K X.mg X.base x ps k sp) (hr : RoomH k X.A) (hg : Gl X x)
    (hp : (a, oe) ∈ X.pn) (hz : Zc c d oe) (hf : ∃ vs, oe.data = .fields vs) (ha : PA X (e :: es) t) (hdb : (x == ("__debug__" : Str)) = false := by decide)
    (he : starEach (e :: es) X.env = (false, eval e X.env) :: starEach es X.env := by rfl) (hpl : (backTo pos (starEach es X.env)).any (·.1) = false := by rfl) :
    PE X (.Call (.Name x p) (e :: es) [] pos) (tCall (sp a c d) [] E0 t) := by
  obtain ⟨f, fd, hm, hk, hb, F⟩ := D
  refine ⟨fun pins s σ H Q I h => wpAny_Call_Name_kw (ld_glob I hg hm ?_ hdb)⟩
  refine PySem.W.callWith_K (h₀ := X.base) I.ok.mod.kin hk (thn (ha.run pos pins s σ H _ I h) ?_) he hpl
  rintro us s1 ⟨vs, H1, J, r, q⟩
  refine ⟨J.kIn, ?_⟩
  rw [List.append_nil] at q
  have b := hb s1 us J.kIn (by rw [List.append_nil, ← r.length]; exact F.len _ _ _ _ _ _ _ q)
  rw [List.append_nil] at b
  obtain ⟨g1, g2, g3, g4, g5⟩ := J.pin (a, oe) (List.mem_append_left _ hp)
  refine wpAny_call (codeAny_mono (F.run a oe c d hz hf X.A X.stack s1 H1 hr ⟨g1, g2, fun hm => (List.mem_cons.mp (J.stkSub a hm)).elim g3 g4, g5⟩ J.env0 ⟨us, []⟩ us vs Q E0 b r q) fun z s' hq => ?_)
  match z, hq with
  | .error er, hq => exact hq.elim
  | .ok (.ret u), hq => exact J.after hq
  | .ok .next, hq => exact hq.elim
  | .ok .brk, hq => exact hq.elim
  | .ok .cont, hq => exact hq.elim
open L2H in
theorem roomS {X : Cx} {k : Nat} {a : Addr} {pn : List (Addr × Obj)} (hr : Room k X.A) : RoomH k (X.suite a pn).A := ⟨hr.dp, hr.un⟩
/-- isinstance(e, c), isinstance(e, (c1, ..)) of the exception that is held -/
def rXo (K : PySem.W.Frag) (a : Addr) (cls : Value) (d : Option Addr) : List V → Hp → VK → Prop := fun xs H Q => ∃ (D dd : Addr) (fs : List (Str × V)), cls = .ref D ∧ d = some dd ∧ H dd = some (.xd fs) ∧ XIn K D ∧
  ((∃ (c : V) (u : Value) (b : Bool), xs = [.ref a, c] ∧ ClsV c u ∧ PySem.W.kitOne K cls u = some b ∧ Q (.bl b) H) ∨
   (∃ (tp : Addr) (cs : List V) (us : List Value) (b : Bool), xs = [.ref a, .ref tp] ∧ H tp = some (.tup cs) ∧ Paired ClsV cs us ∧ PySem.W.kitAny K cls us = some b ∧ Q (.bl b) H))
theorem call_isX {X : Cx} {a : Addr} {oe : Obj} {c : Value} {d : Option Addr} (hp : (a, oe) ∈ X.pn) (hz : Zc c d oe) (hf : ∃ vs, oe.data = .fields vs) : CallR X (.builtin "isinstance") (rXo X.K a c d) := by
  intro pins s σ H xs us Q I r h
  obtain ⟨D, dd, fs, rfl, rfl, hd, T, h⟩ := h
  obtain ⟨g1, _⟩ := I.pin (a, oe) (List.mem_append_left _ hp)
  obtain ⟨mA, hns, _⟩ := (show ObjOk X.prog X.w H s.heap dd (.xd fs) from I.hok dd _ hd)
  obtain ⟨od, ho, _⟩ := lookIn_ns hns
  have J : PySem.W.InstAt s.heap a oe D (some od) := ⟨g1, hz.1, by
    obtain ⟨vs, e⟩ := hf
    unfold PySem.W.notCls
    rw [e] <;> rfl, by rw [hz.2]; exact ho⟩
  have Z := PySem.W.kitx_exc (x := a) (ox := oe) (od := some od) T.h T.x.ga T.x.gg T.x.exC T.a T.n T.t T.m
  rcases h with ⟨cc, u, b, rfl, k, e, q⟩ | ⟨tp, cs, ws, b, rfl, hT, k, e, q⟩
  · obtain ⟨u1, u2, rfl, r1, r2⟩ := vals2 r
    cases (show u1 = Value.ref a from r1)
    cases k.eq r2
    exact PySem.W.kia_one Z I.kIn J e (fun z => nomatch z) fun tk => ⟨.bl b, H, I.tok tk, rfl, q⟩
  · obtain ⟨u1, u2, rfl, r1, r2⟩ := vals2 r
    cases (show u1 = Value.ref a from r1)
    cases (show u2 = Value.ref tp from r2)
    obtain ⟨_, its, rv, o, h1, h2, n, h3⟩ := (show ObjOk X.prog X.w H s.heap tp (.tup cs) from I.hok tp _ hT)
    cases ClsV.all k rv
    obtain ⟨oc, od2, dt, sl⟩ := o
    simp only at h2 h3
    subst h2 h3
    exact PySem.W.kia_tup Z I.kIn J h1 e (fun z => nomatch z) fun tk => ⟨.bl b, H, I.tok tk, rfl, q⟩
theorem ev_xoT {K : PySem.W.Frag} {σ : L2.St} {H : Hp} {i : Nat} {a D dd : Addr} {fs : List (Str × V)} {cs : List V} {us : List Value} {b : Bool} {tb : TE} (T : XIn K D) (hi : σ[i]? = some (some (.ref a))) (hh : H dd = some (.xd fs)) (hb : EvU tb σ H cs) (hp : Paired ClsV cs us) (hk : PySem.W.kitAny K (.ref D) us = some b) :
    Ev (tCB (rXo K a (.ref D) (some dd)) (tCons (tVar i) (tCons tb tNil))) σ H (.bl b) := fun H1 e Q q =>
  ⟨_, hi, hb H1 e _ fun p H2 hp2 e2 h2 => ⟨D, dd, fs, rfl, rfl, e2 _ _ (e _ _ hh), T, .inr ⟨p, cs, us, b, rfl, h2, hp, hk, q H2 e2⟩⟩⟩
theorem ev_xo1 {K : PySem.W.Frag} {σ : L2.St} {H : Hp} {i : Nat} {a D dd : Addr} {fs : List (Str × V)} {c : V} {u : Value} {b : Bool} {tb : TE} (T : XIn K D) (hi : σ[i]? = some (some (.ref a))) (hh : H dd = some (.xd fs)) (hb : Ev tb σ H c) (hp : ClsV c u) (hk : PySem.W.kitOne K (.ref D) u = some b) :
    Ev (tCB (rXo K a (.ref D) (some dd)) (tCons (tVar i) (tCons tb tNil))) σ H (.bl b) := fun H1 e Q q =>
  ⟨_, hi, hb H1 e _ fun H2 e2 => ⟨D, dd, fs, rfl, rfl, e2 _ _ (e _ _ hh), T, .inl ⟨c, u, b, rfl, hp, hk, q H2 e2⟩⟩⟩
theorem ev_xf {σ : L2.St} {H : Hp} {i : Nat} {a C dd : Addr} {fs : List (Str × V)} {f : Str} {v : V} (hi : σ[i]? = some (some (.ref a))) (hh : H dd = some (.xd fs)) (hl : fs.lookup f = some v) : Ev (tXf a (.ref C) (some dd) C f (tVar i)) σ H v := fun H1 e Q q =>
  ⟨_, hi, rfl, rfl, dd, fs, v, rfl, e _ _ hh, hl, q H1 (Ex.refl _)⟩
end Kz
namespace Kz
open PySem PySem.Spec PyProof.Rows L2
/-! ### a set of texts: what it holds -/
def keyT (e : Int × Value) : Str := match e.2 with
  | .str k _ => k
  | _ => Str.empty
def GdT (w : World) (e : Int × Value) : Prop := ∃ (k : Str) (tk : Tok), e = (hashStr w k, Value.str k tk)
structure TSet (w : World) (es : Array (Int × Value)) (t : SetTable) (ks : List Str) : Prop where
  good : ∀ e ∈ es.toList, GdT w e
  nd : (es.toList.map keyT).Nodup
  mem : ∀ k, k ∈ es.toList.map keyT ↔ k ∈ ks
  le : es.size ≤ ks.length
  fits : t.fits es.size = true
  ris : Ris t.place.toList
  led : w.params.followText "set-order" = true ∨ t.led = true
def SetTx (w : World) (h : Heap) (a : Addr) (ks : List Str) : Prop := ∃ (o : Obj) (es : Array (Int × Value)) (ep : Nat) (t : SetTable), h.get? a = some o ∧ o.ExactSet ∧ o.data = .set es ep t ∧ TSet w es t ks
section
variable {P : Program} {w : World}
theorem gd_elems {l : List (Int × Value)} (g : ∀ e ∈ l, GdT w e) : ElemsOf (PySem.strKind P w) l := fun e he => by
  obtain ⟨k, tk, rfl⟩ := g e he
  exact ⟨⟨k, strKind_is P w k tk, rfl⟩, rfl⟩
theorem gd_is {e : Int × Value} (g : GdT w e) (k : Str) : (PySem.strKind P w).is k e.2 = true ↔ keyT e = k := by
  obtain ⟨k0, tk, rfl⟩ := g
  constructor
  · intro h
    have h' : Value.isStrOf k (.str k0 tk) = true := h
    obtain ⟨t, ht⟩ := Value.isStrOf_shape h'
    injection ht with h1 h2
  · intro h
    have h' : k0 = k := h
    rw [← h']
    exact strKind_is P w k0 tk
end
section
variable {P : Program} {w : World} {A : Around} {E : Value → Shared → Prop} {s : Shared} {a : Addr} {ks : List Str}
theorem SetTx.keep {h h' : Heap} (R : SetTx w h a ks) (k : ∀ o, h.get? a = some o → h'.get? a = some o) : SetTx w h' a ks :=
  let ⟨o, es, ep, t, ho, r⟩ := R
  ⟨o, es, ep, t, k o ho, r⟩
theorem tx_found {es : Array (Int × Value)} {t : SetTable} (T : TSet w es t ks) {k : Str} (h : k ∈ es.toList.map keyT) : TSet w es t (ks ++ [k]) :=
  { T with
    mem := fun i => by
      rw [T.mem i, List.mem_append, List.mem_singleton]
      exact ⟨.inl, fun z => z.elim id fun e => e ▸ (T.mem k).mp h⟩
    le := by
      rw [List.length_append]
      exact Nat.le_add_right_of_le T.le }
/-- the last steps of an add: stored, and laid anew where the table is too full -/
theorem tx_tail {g : Bool → Sem Unit} (hg : ∀ (b : Bool) (s₁ : Shared) (Q' : Unit → Shared → Prop), Q' () s₁ → wpAny (model P w) A (g b) Q' E s₁) {o : Obj} {es : Array (Int × Value)} {ep : Nat} {t : SetTable} (ho : s.heap.get? a = some o) (hx : o.ExactSet) (hd : o.data = .set es ep t)
    {es1 : Array (Int × Value)} {t2 : SetTable} (T : TSet w es1 t2 ks) (hk : ks.length < scanBound) {dummy : Bool} {R : Option Bool → Shared → Prop} (hR : ∀ h', Heap.SameBut a s.heap h' → SetTx w h' a ks → R (some true) { s with heap := h' }) :
    wpAny (model P w) A (storeSet a es1 t2 >>= fun _ =>
      if (!dummy && t2.tooFull) = true then g (relayAll t2 es1 (SetTable.grown es1.size)).2.2 >>= fun _ => storeSet a (relayAll t2 es1 (SetTable.grown es1.size)).1 (relayAll t2 es1 (SetTable.grown es1.size)).2.1 >>= fun _ => pure (some true)
      else pure (some true)) R E s := by
  have hb : es1.size < scanBound := Nat.lt_of_le_of_lt T.le hk
  refine wpAny_bind (wpAny_storeSet_of ho hd ?_ (fits_of_scanBound hb))
  have ho1 := store_at (es' := es1) (t' := t2) ho hd
  have same1 := Heap.SameBut.update s.heap a (Obj.putSet es1 t2)
  by_cases hc : (!dummy && t2.tooFull) = true
  · rw [if_pos hc]
    have p1 := relayAll_perm t2 es1 (SetTable.grown es1.size)
    have p2 := relayAll_fits t2 es1 (SetTable.grown es1.size)
    have p3 := relayAll_ris t2 es1 (SetTable.grown es1.size)
    have p4 := relayAll_led t2 es1 (SetTable.grown es1.size)
    generalize relayAll t2 es1 (SetTable.grown es1.size) = Z at p1 p2 p3 p4 ⊢
    have hsz : Z.1.size = es1.size := by
      have := p1.length_eq
      simpa using this
    refine wpAny_bind (hg _ _ _ (wpAny_bind (wpAny_storeSet_of ho1 rfl ?_ (fits_of_scanBound (by rw [hsz]; exact hb)))))
    have ho2 := store_at (es' := Z.1) (t' := Z.2.1) ho1 rfl
    exact wpAny_pure (hR _ (same1.trans (Heap.SameBut.update _ a _)) ⟨_, Z.1, _, Z.2.1, ho2, hx, rfl, {
      good := fun e he => T.good e (p1.mem_iff.mp he)
      nd := (p1.map keyT).nodup_iff.mpr T.nd
      mem := fun k => (p1.map keyT).mem_iff.trans (T.mem k)
      le := by rw [hsz]; exact T.le
      fits := p2
      ris := p3
      led := T.led.imp id fun z => by rw [p4]; exact z }⟩)
  · rw [if_neg hc]
    exact wpAny_pure (hR _ same1 ⟨_, es1, _, t2, ho1, hx, rfl, T⟩)
/-- a text added -/
theorem tx_add {k : Str} {tk : Tok} {Q : Bool → Shared → Prop} (R : SetTx w s.heap a ks) (room : ks.length + 1 < scanBound) (hQ : ∀ b h', Heap.SameBut a s.heap h' → SetTx w h' a (ks ++ [k]) → Q b { s with heap := h' }) :
    wpAny (model P w) A (setAddHashed a (.str k tk) (hashStr w k)) Q E s := by
  obtain ⟨o, es, ep, t, ho, hx, hd, T⟩ := R
  have isk : (PySem.strKind P w).is k (.str k tk) = true := strKind_is P w k tk
  have scn : (Value.str k tk).scannable = true := rfl
  have els : ElemsOf (PySem.strKind P w) es.toList := gd_elems T.good
  have hb : es.size < scanBound := by have := T.le; omega
  unfold setAddHashed setAddHashedIn
  refine wpAny_holding (wpAny_bind (wpAny_setState_of ho hd T.fits ?_))
  dsimp only
  rw [byScan_of scn hb els]
  simp only [↓reduceIte]
  unfold setAddByScan
  refine wpAny_bind (wpAny_bind (wpAny_rule (wpAny_bind (wpAny_setScan_of (knd := PySem.strKind P w) isk ho hd T.fits els ?_))))
  cases hf : List.findIdx? (fun e => (PySem.strKind P w).is k e.2) es.toList with
  | some j =>
    dsimp only
    obtain ⟨hj, pj, _⟩ := List.findIdx?_eq_some_iff_getElem.mp hf
    have hm : k ∈ es.toList.map keyT := List.mem_map.mpr ⟨_, List.getElem_mem hj, (gd_is (P := P) (T.good _ (List.getElem_mem hj)) k).mp pj⟩
    exact wpAny_pure (wpAny_pure (hQ _ s.heap (Heap.SameBut.refl a s.heap) ⟨o, es, ep, t, ho, hx, hd, tx_found T hm⟩))
  | none =>
    dsimp only
    have hno : k ∉ es.toList.map keyT := fun z => by
      obtain ⟨e, he, q⟩ := List.mem_map.mp z
      have c := List.findIdx?_eq_none_iff.mp hf e he
      rw [(gd_is (P := P) (T.good e he) k).mpr q] at c
      cases c
    have p1 := layNew_perm t es (hashStr w k) (.str k tk)
    have p2 := layNew_fits t es (hashStr w k) (.str k tk)
    have p3 := layNew_ris t es (hashStr w k) (.str k tk) T.ris
    have p4 := layNew_led t es (hashStr w k) (.str k tk)
    have pass : ∀ (b : Bool) {s₁ : Shared} {Q' : Unit → Shared → Prop}, Q' () s₁ → wpAny (model P w) A (match b with | true => rule "set.scan.the-table-gave-way" | false => pure ()) Q' E s₁ := fun b s₁ Q' q => by
      cases b
      · exact wpAny_pure q
      · exact wpAny_rule q
    generalize layNew t es (hashStr w k) (.str k tk) = Z at p1 p2 p3 p4 ⊢
    obtain ⟨es1, t1, dummy, gave⟩ := Z
    dsimp only at p1 p2 p3 p4 ⊢
    rw [Array.toList_push] at p1
    have pc : es1.toList.Perm ((hashStr w k, Value.str k tk) :: es.toList) := p1.trans (List.perm_append_singleton _ _)
    have pk : (es1.toList.map keyT).Perm (k :: es.toList.map keyT) := pc.map keyT
    have T1 : ∀ t', t'.fits es1.size = true → Ris t'.place.toList → (w.params.followText "set-order" = true ∨ t'.led = true) → TSet w es1 t' (ks ++ [k]) := fun t' h1 h2 h3 => {
      good := fun e he => (List.mem_cons.mp (pc.mem_iff.mp he)).elim (fun z => ⟨k, tk, z⟩) (T.good e)
      nd := pk.nodup_iff.mpr (List.nodup_cons.mpr ⟨hno, T.nd⟩)
      mem := fun i => by
        rw [pk.mem_iff, List.mem_cons, List.mem_append, List.mem_singleton, T.mem i]
        exact Or.comm
      le := by
        have h := pc.length_eq
        rw [Array.length_toList, List.length_cons, Array.length_toList] at h
        rw [List.length_append, List.length_singleton]
        have := T.le
        omega
      fits := h1
      ris := h2
      led := h3 }
    have hled : w.params.followText "set-order" = true ∨ t1.led = true := T.led.imp id fun z => by rw [p4]; exact z
    have hkl : (ks ++ [k]).length < scanBound := by
      rw [List.length_append, List.length_singleton]
      exact room
    refine wpAny_bind (pass _ ?_)
    split
    · refine wpAny_bind ?_
      rw [hashByValue_scannable 8 scn]
      refine wpAny_pure (tx_tail (ks := ks ++ [k]) (fun b s₁ Q' q => by cases b <;> first | exact wpAny_pure q | exact wpAny_rule q) ho hx hd (T1 _ ?_ ?_ ?_) hkl fun h' sb r => ?_)
      · first | (split <;> first | exact p2 | exact SetTable.fits_plain_off p2) | exact p2
      · first | (split <;> exact p3) | exact p3
      · first | (split <;> exact hled) | exact hled
      · dsimp only
        exact wpAny_pure (hQ _ h' sb r)
    · refine wpAny_bind (wpAny_pure ?_)
      simp only [↓reduceIte]
      refine tx_tail (ks := ks ++ [k]) (fun b s₁ Q' q => by cases b <;> first | exact wpAny_pure q | exact wpAny_rule q) ho hx hd (T1 _ p2 p3 hled) hkl fun h' sb r => ?_
      dsimp only
      exact wpAny_pure (hQ _ h' sb r)
/-- walking what is to be added -/
theorem tx_loop {R : Result → Shared → Prop} {I : Addr} {fp wr : List Addr} {G : Array GenState → Array GenState → Prop} {n : Nat} {Pv : Nat → Value → Prop} {St : Nat → Shared → Prop} (W : WalksS P w A.in1 I fp wr G n Pv St) (S : Addr) (hS : S ∉ fp) (xs : List Str) (hn : xs.length = n) (room : n + 1 < scanBound)
    (hval : ∀ i v, Pv i v → ∃ t, v = .str (xs.getD i Str.empty) t) : ∀ (k i : Nat) (s : Shared), n - i = k → i ≤ n → St i s → SetTx w s.heap S (xs.take i) →
      (∀ s', Moved (S :: wr) G s s' → SetTx w s'.heap S xs → R (.ok (.ret .none)) s') → codeAny (model P w) A (.builtin "set.update.loop" ⟨[.ref S, .ref I], []⟩) R s := by
  have hSw : S ∉ wr := fun h => hS (W.sub _ h)
  have more : ∀ b ∈ wr, b ∈ S :: wr := fun b hb => List.mem_cons_of_mem _ hb
  intro k
  induction k with
  | zero =>
    intro i s hk hi st hs hR
    obtain rfl : i = n := by omega
    refine codeAny_builtin PyProof.Rows.F.entry_set_update_loop ?_
    rw [Around.under_plainId PyProof.Rows.F.plain_set_update_loop _]
    show wpAny _ A.in1 (pyNext (.ref I) >>= _) _ _ s
    refine wpAny_bind (W.done s _ _ st fun s' hm => ?_)
    show wpAny _ A.in1 (ret Value.none) _ _ s'
    rw [List.take_of_length_le (by omega)] at hs
    exact wpAny_pure (hR s' (hm.mono more) (hs.keep fun o ho => hm.heap S o hSw ho))
  | succ k ih =>
    intro i s hk hi st hs hR
    have hlt : i < n := by omega
    refine codeAny_builtin PyProof.Rows.F.entry_set_update_loop ?_
    rw [Around.under_plainId PyProof.Rows.F.plain_set_update_loop _]
    show wpAny _ A.in1 (pyNext (.ref I) >>= _) _ _ s
    refine wpAny_bind (W.item i s _ _ hlt st fun v s' hP st' hm => ?_)
    obtain ⟨t, rfl⟩ := hval i v hP
    have hs' : SetTx w s'.heap S (xs.take i) := hs.keep fun o ho => hm.heap S o hSw ho
    have tk1 : xs.take i ++ [xs.getD i Str.empty] = xs.take (i + 1) := by
      rw [List.take_add_one, List.getD_eq_getElem?_getD, List.getElem?_eq_getElem (by omega)]
      rfl
    show wpAny _ A.in1 (holding [Value.str (xs.getD i Str.empty) t] (setAdd S (.str (xs.getD i Str.empty) t)) >>= _) _ _ s'
    refine wpAny_bind (wpAny_holding ?_)
    unfold setAdd
    refine wpAny_holding (wpAny_bind ((PySem.strKind P w).pyHash (k := xs.getD i Str.empty) (strKind_is _ _ _ _) ?_))
    have len : (xs.take i).length + 1 < scanBound := by
      rw [List.length_take]
      omega
    refine tx_add (s := { s' with toks := s'.toks + 1 }) hs' len fun b h' sb r => ?_
    rw [tk1] at r
    refine wpAny_pure ⟨plainId_quiet PyProof.Rows.F.plain_set_update_loop _, ih (i + 1) _ (by omega) hlt (W.frame _ s' _ _ st' (Nat.le_succ _) fun b hb o e => ?_) r fun s'' hm2 hs2 => ?_⟩
    · rw [sb.2 b (fun z => hS (z ▸ hb))]
      exact e
    · refine hR s'' (Moved.trans W.gtrans ((hm.mono more).then_heap (Nat.le_succ _) fun b o hb e => ?_) hm2) hs2
      rw [sb.2 b (fun z => hb (by rw [z]; exact List.mem_cons_self))]
      exact e
/-- sorted(a set of texts) -/
theorem tx_sorted {Q : Value → Shared → Prop} (R : SetTx w s.heap a ks) (hh : A.handled = none) (h64 : ks.length < 64)
    (hQ : ∀ s' p (out : Array Value) (c : Nat) (ys : List Str), (∀ b o, s.heap.get? b = some o → s'.heap.get? b = some o) → s'.gens = s.gens → s'.os = s.os → s.heap.objs.size ≤ p → s'.heap.get? p = some (seqObj "list" out c) →
      StrsAre out.toList ys → sortedS ys = true → ys.Nodup → (∀ k, k ∈ ys ↔ k ∈ ks) → ys.length ≤ ks.length → Q (.ref p) s') : wpAny (model P w) A (call (.builtin "sorted") [.ref a]) Q E s := by
  obtain ⟨o, es, ep, t, ho, hx, hd, T⟩ := R
  have hb : es.size < scanBound := by
    have := T.le
    unfold scanBound
    omega
  refine Calls.call_function_entry kind_sorted plain_sorted entry_sorted (args_sorted1 _) ?_
  unfold Builtin.«sorted»
  refine wpAny_bind (m := checkCount "sorted" 1 1 _) (wpAny_pure ?_)
  refine wpAny_bind (collect_set (A := A.in1) hh ⟨o, ho, hx.1, hd⟩ T.fits hb T.ris T.led fun s1 vs k1 hz g1 o1 pm => ?_)
  have hvl : vs.length = es.size := by rw [pm.length_eq, List.length_map, Array.length_toList]
  have every : ∀ v ∈ vs, ∃ (x : Str) (tk : Tok), v = Value.str x tk := fun v hv => by
    obtain ⟨e, he, q⟩ := List.mem_map.mp (pm.mem_iff.mp hv)
    obtain ⟨k, tk, rfl⟩ := T.good e he
    exact ⟨k, tk, q.symm⟩
  have hS : StrsAre vs (vs.map strOf) := strsAre_map vs every
  have pk : (vs.map strOf).Perm (es.toList.map keyT) := by
    have q := pm.map strOf
    rw [List.map_map] at q
    exact q.trans (List.Perm.of_eq (List.map_congr_left fun e he => by
      obtain ⟨k, tk, rfl⟩ := T.good e he
      rfl))
  have hv64 : vs.length < 64 := by have := T.le; omega
  refine wpAny_bind (wpAny_newList ?_ (by rw [sizeLine_eq]; omega))
  have hL : (s1.heap.push (seqObj "list" vs.toArray 0)).get? s1.heap.objs.size = some (seqObj "list" vs.toArray 0) := Heap.get?_push_size _ rfl
  refine wpAny_bind (wpAny_holding (wpAny_call_entry slot_list_sort ⟨_, hL, rfl⟩ entry_list_sort (list_sort_treeK PyProof.Rows.strKind_oneLt hL hS.keysOf (fun v₁ v₂ rest e => keyKind_strs (by rw [← e]; exact hS)) hv64 fun st' hp hs => ⟨_, rfl, ?_⟩) (args_list_sort _)))
  obtain ⟨ys, y1, y2, y3⟩ := sorted_out_str hS hp hs
  obtain ⟨c, hc⟩ := sortedHeap_at (vs := vs) (out := (arrOf st').map (·.2)) hL
  have py := y2.trans pk
  refine wpAny_pure ⟨_, rfl, hQ _ s1.heap.objs.size _ c ys (fun b u e => ?_) g1 o1 hz hc y1 y3 (py.nodup_iff.mpr T.nd) (fun k => by rw [py.mem_iff, T.mem k]) ?_⟩
  · have q := k1 b u e
    have lt := Heap.lt_size q
    show (sortedHeap (s1.heap.push (seqObj "list" vs.toArray 0)) s1.heap.objs.size vs _).get? b = some u
    rw [sortedHeap_old (Nat.ne_of_lt lt) (by rw [size_push']; exact Nat.lt_succ_of_lt lt)]
    exact Heap.get?_push_of_some _ q
  · rw [py.length_eq, List.length_map, Array.length_toList]
    exact T.le
/-- the empty set that set(..) begins with -/
abbrev newTx (w : World) : Obj := { cls := .type "set", dict := none, data := .set #[] 0 (.fresh 0 0 (!w.params.followText "set-order")) }
theorem tx_fresh {h : Heap} (ho : h.get? a = some (newTx w)) : SetTx w h a [] := ⟨_, #[], 0, _, ho, ⟨rfl, rfl, rfl⟩, rfl, {
  good := fun e he => by simp at he
  nd := by simp
  mem := fun k => by simp
  le := Nat.le_refl _
  fits := rfl
  ris := List.Pairwise.nil
  led := by
    show _ ∨ (!w.params.followText "set-order") = true
    cases w.params.followText "set-order" with
    | true => exact .inl rfl
    | false => exact .inr rfl }⟩
theorem tx_code (x : Value) {Q₁ : Value → Shared → Prop} (h : Q₁ (.ref s.heap.objs.size) { s with heap := s.heap.push (newTx w) }) : codeAny (model P w) A (.call (.builtin "set.__new__") ⟨[.type "set", x], []⟩) (wants Q₁ E) s := by
  refine codeAny_of_tree ?_
  show wpAny _ A.in1 (do checkBuiltinCall "set.__new__" ⟨[.type "set", x], []⟩; again (.builtin "set.__new__" ⟨[.type "set", x], []⟩)) _ _ s
  refine wpAny_bind (wpAny_of_eq (PySem.F.newCall_set_1 x) (wpAny_pure ⟨plainId_quiet F.plain_set_new _, codeAny_builtin F.entry_set_new ?_⟩))
  rw [Around.under_plainId F.plain_set_new _]
  unfold Builtin.«set.__new__» Builtin.Frozenset.newClass
  have sb := sub_set_self
  obtain ⟨hp, g, d, tk, os⟩ := s
  dsimp only
  wp_walk
  refine wpAny_askSetting (wpAny_pure ?_)
  dsimp only
  simp only [newObj]
  exact wpAny_bind (wpAny_alloc (wpAny_pure (wpAny_pure h)))
set_option maxHeartbeats 8000000 in
/-- set(a list of texts) -/
theorem tx_list {l : Addr} {items : Array Value} {xs : List Str} {Q : Value → Shared → Prop} (hh : A.handled = none) (hl : s.heap.IsList l items) (hi : StrsAre items.toList xs) (room : xs.length + 1 < scanBound)
    (h : ∀ (h' : Heap) (tk : Nat), SetTx w h' s.heap.objs.size xs → (∀ b o, s.heap.get? b = some o → h'.get? b = some o) → Q (.ref s.heap.objs.size) { s with heap := h', toks := tk }) : wpAny (model P w) A (call (.type "set") [.ref l]) Q E s := by
  obtain ⟨c, tl, hmro⟩ := PySem.F.called_set.mro
  have hmade := PySem.F.called_set.made
  have hsub := PySem.F.called_set.sub
  refine wpAny_call (codeAny_of_tree ?_)
  show wpAny _ _ (callAny (.type "set") _) _ _ _
  refine wpAny_pure ⟨Code.quiet_builtin _ (by decide +kernel), codeAny_builtin PySem.F.entry_type_call ?_⟩
  rw [Around.under_plain (weight_type_call_type "set" [.ref l] []) rfl]
  have h1 := PySem.F.called_set.notType
  have h2 := PySem.F.called_set.canCreate
  have hct := PySem.F.typeCall_set_1 (.ref l)
  repeat (any_goals (first | assumption | wp_step))
  refine codeAny_mono (tx_code (.ref l) (E := E) (Q₁ := fun obj s₁ => obj = .ref s.heap.objs.size ∧ s₁ = { s with heap := s.heap.push (newTx w) }) ⟨rfl, rfl⟩) fun r s₁ hr => ?_
  match r, hr with
  | .error e, hr => exact hr
  | .ok .next, hr => exact hr.elim
  | .ok .brk, hr => exact hr.elim
  | .ok .cont, hr => exact hr.elim
  | .ok (.ret obj), hr =>
    obtain ⟨rfl, rfl⟩ := hr
    have hS : (s.heap.push (newTx w)).get? s.heap.objs.size = some (newTx w) := Heap.get?_push_size _ rfl
    have hT : Shared.TypeIs { s with heap := s.heap.push (newTx w) } (.ref s.heap.objs.size) "set" := ⟨_, hS, rfl⟩
    have hli := PySem.F.called_set.init.lookup
    have hbi := PySem.F.called_set.init.bind (.ref s.heap.objs.size)
    repeat (any_goals (first | assumption | wp_step))
    refine codeAny_mono (codeAny_call_builtin (R := wants (fun r s₂ => r = .none ∧ ∃ h' tk, s₂ = { s with heap := h', toks := tk } ∧ SetTx w h' s.heap.objs.size xs ∧ (∀ b o, s.heap.get? b = some o → h'.get? b = some o)) E) PySem.F.called_set.init.plain PySem.F.entry_set_init (check_set_init_1 hT ?_)) fun r₂ s₂ hr₂ => ?_
    · obtain ⟨ol, hol, hcl, nl, hdl⟩ := hl
      obtain ⟨oc, od, odt, osl⟩ := ol
      simp only at hcl hdl
      subst hcl hdl
      have hol' : (s.heap.push (newTx w)).get? l = some { cls := .type "list", dict := od, data := .seq items nl, slots := osl } := Heap.get?_push_of_some _ hol
      have n1 := PySem.F.sub_list_set
      have n2 := PySem.F.sub_list_frozenset
      have n3 : (Value.type "list" == Value.type "dict") = false := by decide
      have hl1 : (s.heap.push (newTx w)).IsList l items := ⟨_, hol', rfl, nl, rfl⟩
      unfold Builtin.«set.__init__» noKeywords Builtin.Frozenset.updateFrom
      generalize hPI : pyIter = PI
      wp_walk
      subst hPI
      refine wpAny_pyIter_list hl1 (wpAny_bind (wpAny_runValue ?_))
      have lt := Heap.lt_size hol
      have hz : (s.heap.push (newTx w)).objs.size = s.heap.objs.size + 1 := size_push' _ _
      have hh3 : A.in1.in1.in1.handled = none := by simp [hh]
      have neI : l ≠ (s.heap.push (newTx w)).objs.size := by
        rw [hz]
        exact Nat.ne_of_lt (Nat.lt_succ_of_lt lt)
      have nS : s.heap.objs.size ∉ [(s.heap.push (newTx w)).objs.size, l] := by
        rw [hz]
        simp only [List.mem_cons, List.not_mem_nil, or_false, not_or]
        exact ⟨Nat.ne_of_lt (Nat.lt_succ_self _), Nat.ne_of_gt lt⟩
      have hsz : xs.length = items.size := by rw [← StrsAre.len_eq hi, Array.length_toList]
      refine tx_loop ((Walks.list hh3 _ l neI items).toS) s.heap.objs.size nS xs hsz (by omega) (fun i v hv => SS.strs_at hi i v (by rw [Array.getElem?_toList]; exact hv)) (items.size - 0) 0 _ (by omega) (Nat.zero_le _) ⟨⟨_, Heap.get?_push_size _ rfl, rfl, rfl⟩, (hl1.push _)⟩ ?_ ?_
      · rw [List.take_zero]
        exact tx_fresh (Heap.get?_push_of_some _ hS)
      · intro s' hm hs'
        obtain ⟨h', g', d', tk', os'⟩ := s'
        have eg : g' = s.gens := hm.gens
        have ed : d' = s.drawn := hm.drawn
        have eo : os' = s.os := hm.os
        subst eg ed eo
        show wpAny _ _ _ _ _ _
        refine wpAny_pure ?_
        show wpAny _ _ (ret Value.none) _ _ _
        refine wpAny_pure ⟨rfl, h', tk', rfl, hs', fun b o e => ?_⟩
        have hb := Heap.lt_size e
        exact hm.heap b o (by simp only [List.mem_cons, List.not_mem_nil, or_false, not_or]; exact ⟨Nat.ne_of_lt hb, by rw [size_push']; exact Nat.ne_of_lt (Nat.lt_succ_of_lt hb)⟩) (Heap.get?_push_of_some _ (Heap.get?_push_of_some _ e))
    · match r₂, hr₂ with
      | .error e, hr₂ => exact hr₂
      | .ok .next, hr₂ => exact hr₂.elim
      | .ok .brk, hr₂ => exact hr₂.elim
      | .ok .cont, hr₂ => exact hr₂.elim
      | .ok (.ret r), hr₂ =>
        obtain ⟨rfl, h', tk, rfl, hs', hk'⟩ := hr₂
        repeat (any_goals (first | assumption | wp_step))
        exact h _ _ hs' hk'
end
/-! ### the rules -/
def SetX (w : World) (a : Addr) (ks : List Str) : HO := .ext fun h => SetTx w h a ks
theorem setX_new {P : Program} {w : World} {H : Hp} {h : Heap} {a : Addr} {ks : List Str} (R : SetTx w h a ks) : ObjOk P w H h a (SetX w a ks) := by
  have ⟨o, _, _, _, ho, _⟩ := R
  exact ⟨R, ⟨o, ho⟩, fun h1 h2 p k => p.keep k⟩
/-- set(a list of texts) -/
def rSetTx (K : PySem.W.Frag) (w : World) : List V → Hp → VK → Prop := fun vs H Q => ∃ (l : Addr) (ks : List Str), vs = [.ref l] ∧ SqL K H l (ks.map V.str) ∧ ks.length < 64 ∧ ∀ a, H a = none → Q (.ref a) (upd H a (SetX w a ks))
/-- sorted(a set of texts) -/
def rSortTx (w : World) : List V → Hp → VK → Prop := fun vs H Q => ∃ (a : Addr) (ks : List Str), vs = [.ref a] ∧ H a = some (SetX w a ks) ∧ ks.length < 64 ∧
  ∀ (ys : List Str) (p : Addr), sortedS ys = true → ys.Nodup → (∀ k, k ∈ ys ↔ k ∈ ks) → H p = none → Q (.ref p) (upd H p (.lst (ys.map V.str)))
theorem cr_setTx {X : Cx} (hc : X.calm = true) : CallR X (.type "set") (rSetTx X.K X.w) := by
  intro pins s σ H vs us Q I r h
  obtain ⟨l, ks, rfl, hs, h64, q⟩ := h
  obtain ⟨its, rv, hl, _⟩ := I.list hs
  rw [Vals.ref1 r]
  refine tx_list (I.ok.hd hc) hl.isList rv.strs (by unfold scanBound; omega) fun h' tk R kp => ?_
  have fresh : H s.heap.objs.size = none := I.hok.fresh (Nat.le_refl _)
  exact ⟨.ref _, upd H s.heap.objs.size (SetX X.w s.heap.objs.size ks), I.laid (t' := tk) kp (Nat.le_refl _) (setX_new R), rfl, q _ fresh⟩
theorem cr_sortTx {X : Cx} (hc : X.calm = true) : CallR X (.builtin "sorted") (rSortTx X.w) := by
  intro pins s σ H vs us Q I r h
  obtain ⟨a, ks, rfl, ha, h64, q⟩ := h
  have R : SetTx X.w s.heap a ks := (show ObjOk X.prog X.w H s.heap a (.ext fun h => SetTx X.w h a ks) from I.hok a _ ha).1
  rw [Vals.ref1 r]
  refine tx_sorted R (I.ok.hd hc) h64 fun s' p out c ys k g o hp hg hi hs hn hm hl => ?_
  have small : (ys.map V.str).length ≤ sizeLine := by rw [List.length_map, sizeLine_eq]; omega
  have fresh : H p = none := I.hok.fresh hp
  have J : Inv X pins σ (upd H p (.lst (ys.map V.str))) { s with heap := s'.heap, gens := s'.gens, drawn := s'.drawn, toks := s'.toks } :=
    I.call (ch := []) (Un.laid k hp fresh) (I.hok.laid k hp ⟨small, out.toList, c, vals_of_strs hi, hg⟩) (by rw [g]; exact I.bare) (fun _ z => nomatch z)
  obtain ⟨h1, h2, h3, h4, h5⟩ := s'
  obtain rfl : h5 = s.os := o
  exact ⟨.ref p, _, J, rfl, q ys p hs hn hm fresh⟩
open Evl
/-! ### one sorted list of given texts -/
theorem rising_pw : ∀ (l : List Str) (p : Str), risingS p l = true → (∀ b ∈ l, ltCps b.cps.toList p.cps.toList = false) ∧ l.Pairwise (fun a b => ltCps b.cps.toList a.cps.toList = false)
  | [], p, _ => ⟨fun b hb => (nomatch hb), .nil⟩
  | x :: r, p, h => by
    unfold risingS at h
    obtain ⟨h1, h2⟩ := Bool.and_eq_true_iff.mp h
    obtain ⟨k1, k2⟩ := rising_pw r x h2
    have h0 : ltCps x.cps.toList p.cps.toList = false := by simpa using h1
    refine ⟨fun b hb => ?_, .cons k1 k2⟩
    rcases List.mem_cons.mp hb with rfl | hb
    · exact h0
    · have h3 := k1 b hb
      rw [ltCps_eq] at h0 h3 ⊢
      have h0' := of_decide_eq_false h0
      have h3' := of_decide_eq_false h3
      exact decide_eq_false fun z => h0' (List.lt_of_le_of_lt (List.not_lt.mp h3') z)
theorem sortedS_pw {l : List Str} (h : sortedS l = true) : l.Pairwise (fun a b => ltCps b.cps.toList a.cps.toList = false) := by
  cases l with
  | nil => exact .nil
  | cons x r =>
    obtain ⟨k1, k2⟩ := rising_pw r x h
    exact .cons k1 k2
theorem cps_inj {x y : Str} (h : x.cps.toList = y.cps.toList) : x = y := by
  obtain ⟨⟨x⟩⟩ := x
  obtain ⟨⟨y⟩⟩ := y
  have h' : x = y := h
  rw [h']
theorem sortedS_uniq : ∀ {xs ys : List Str}, xs.Pairwise (fun a b => ltCps b.cps.toList a.cps.toList = false) → ys.Pairwise (fun a b => ltCps b.cps.toList a.cps.toList = false) → xs.Nodup → ys.Nodup → (∀ k, k ∈ xs ↔ k ∈ ys) → xs = ys
  | [], [], _, _, _, _, _ => rfl
  | [], y :: t, _, _, _, _, h => (nomatch (h y).mpr List.mem_cons_self)
  | x :: r, [], _, _, _, _, h => (nomatch (h x).mp List.mem_cons_self)
  | x :: r, y :: t, .cons a1 a2, .cons b1 b2, .cons c1 c2, .cons d1 d2, h => by
    have e : x = y := by
      rcases List.mem_cons.mp ((h x).mp List.mem_cons_self) with e | hx
      · exact e
      rcases List.mem_cons.mp ((h y).mpr List.mem_cons_self) with e | hy
      · exact e.symm
      have p1 := b1 x hx
      have p2 := a1 y hy
      rw [ltCps_eq] at p1 p2
      exact cps_inj (List.le_antisymm (List.not_lt.mp (of_decide_eq_false p2)) (List.not_lt.mp (of_decide_eq_false p1)))
    subst e
    rw [sortedS_uniq a2 b2 c2 d2 fun k => ?_]
    constructor
    · intro hk
      rcases List.mem_cons.mp ((h k).mp (List.mem_cons_of_mem _ hk)) with rfl | hk'
      · exact absurd rfl (c1 k hk)
      · exact hk'
    · intro hk
      rcases List.mem_cons.mp ((h k).mpr (List.mem_cons_of_mem _ hk)) with rfl | hk'
      · exact absurd rfl (d1 k hk)
      · exact hk'
/-- sorted(set(a new list of texts)) -/
theorem el_sortSet {K : PySem.W.Frag} {w : World} {σ : L2.St} {H : Hp} {te : TE} {ks ys : List Str} (h : EvL te σ H (ks.map V.str)) (hl : ks.length < 64) (hs : sortedS ys = true) (hn : ys.Nodup) (hm : ∀ k, k ∈ ys ↔ k ∈ ks) :
    EvL (tCB (rSortTx w) (tCons (tCB (rSetTx K w) (tCons te tNil)) tNil)) σ H (ys.map V.str) := fun H1 e Q q =>
  h H1 e _ fun l H2 hl2 e2 h2 => ⟨l, ks, rfl, sq_of h2, hl, fun a ha => ⟨a, ks, rfl, upd_same, hl, fun zs p z1 z2 z3 hp => by
    have ez : zs = ys := sortedS_uniq (sortedS_pw z1) (sortedS_pw hs) z2 hn fun k => (z3 k).trans (hm k).symm
    rw [ez]
    have e3 : Ex H2 (upd H2 a (SetX w a ks)) := Ex.new ha
    exact q p _ (fresh_back (e2.trans e3) hp) ((e2.trans e3).trans (Ex.new hp)) upd_same⟩⟩
end Kz
namespace Kz
open PySem PySem.Spec PyProof.Rows L2 Evl StX

/-- the list a beside the tuple b, turn by turn, in new pairs -/
def ItM (K : PySem.W.Frag) (a b : Addr) : It :=
  ⟨fun i H => ∃ us ws : List V, (SqL K H a us ∧ SqT K H b ws) ∧ i < us.length ∧ i < ws.length,
   fun i H v H' => ∃ m x y, v = .ref m ∧ H m = none ∧ H' = upd H m (.tup [x, y]) ∧ (∀ us, SqL K H a us → us[i]? = some x) ∧ (∀ ws, SqT K H b ws → ws[i]? = some y),
   fun i H => ∃ us ws : List V, (SqL K H a us ∧ SqT K H b ws) ∧ (i = us.length ∨ i = ws.length) ∧ i ≤ us.length ∧ i ≤ ws.length⟩
/-- what such a zip is made of at turn i -/
def atM (a b z c o j k : Addr) (i : Nat) (h : Heap) : Prop :=
  (IsZip h z c o .none ∧ IsTupOf2 h c (.ref j) (.ref k)) ∧ (∃ x y, IsTupOf2 h o x y) ∧ h.IsListIter j a i ∧ h.IsTupleIter k b i
theorem mem5 {z c o j k d : Addr} (h : d ∈ [z, c, o, j, k]) : d = z ∨ d = c ∨ d = o ∨ d = j ∨ d = k := by simpa using h
theorem get_back {xs : List V} {us : List Value} (r : Vals xs us) {i : Nat} {u : Value} (h : us[i]? = some u) : ∃ x, xs[i]? = some x ∧ RelV x u := by
  induction r generalizing i with
  | nil => cases h
  | cons r0 _ ih =>
    cases i with
    | zero =>
      cases h
      exact ⟨_, rfl, r0⟩
    | succ i => exact ih h
theorem turnM {P : Program} {w : World} {K : PySem.W.Frag} {elts : List Expr} {kk : Nat} {tp : Pos} {a b z c o j k : Addr} (S : ZipSep2 z c o j k [j, a] [k, b]) (na : a ≠ j) (nb : b ≠ k) :
    Turn P w K (.Tuple elts kk tp) (ItM K a b) [z, c, o, j, k] z (atM a b z c o j k) where
  mem := List.mem_cons_self
  obj := fun i h st d hd => by
    obtain ⟨⟨g1, g2⟩, ⟨x, y, g3⟩, ⟨p1, r1, _, t1⟩, ⟨p2, r2, _, t2⟩⟩ := st
    rcases mem5 hd with rfl | rfl | rfl | rfl | rfl
    · exact ⟨_, g1, fun v e => nomatch e⟩
    · exact ⟨_, g2, fun v e => nomatch e⟩
    · exact ⟨_, g3, fun v e => nomatch e⟩
    · exact ⟨_, r1, fun v e => by rw [t1] at e; cases e⟩
    · exact ⟨_, r2, fun v e => by rw [t2] at e; cases e⟩
  keep := fun i h h' st kp => by
    obtain ⟨⟨g1, g2⟩, ⟨x, y, g3⟩, g4, g5⟩ := st
    exact ⟨⟨kp z (by simp) _ g1, kp c (by simp) _ g2⟩, ⟨x, y, kp o (by simp) _ g3⟩, g4.at fun u e => kp j (by simp) u e, g5.at fun u e => kp k (by simp) u e⟩
  item := by
    intro X u1 u2 u3 calm i pins s σ H E I free st go
    subst u1 u2 u3
    obtain ⟨⟨g1, g2⟩, ⟨x0, y0, g3⟩, g4, g5⟩ := st
    obtain ⟨us, ws, ⟨q1, q2⟩, n1, n2⟩ := go
    obtain ⟨ts, rv, p, _⟩ := I.list q1
    obtain ⟨ts2, rv2, p2, _⟩ := I.tuple q2
    have m1 := rv.length
    have m2 := rv2.length
    have d1 := Draws.list (prog := X.prog) (w := X.w) (A := X.A.in1) (I.ok.hd calm) j a na ts.toArray
    have d2 := Draws.tuple (prog := X.prog) (w := X.w) (A := X.A.in1) (I.ok.hd calm) k b nb ts2.toArray
    have zl : z < s.heap.objs.size := Heap.lt_size g1
    refine wpAny_pyNext_zipD2_item S d1 d2 g1 g2 g3 ⟨g4, p.isList⟩ ⟨g5, p2⟩ (by simp; omega) (by simp; omega) fun u v h1 tk hu hv e1 e2 e3 e4 nw big kp => ?_
    refine ⟨_, rfl, wpAny_letOwnedTupleGo_zip (s := { s with heap := h1, toks := tk }) e1 fun h2 f1 sb => ?_⟩
    obtain ⟨x, hx, rx⟩ := get_back rv (by simpa using hu)
    obtain ⟨y, hy, ry⟩ := get_back rv2 (by simpa using hv)
    have nw2 : h2.get? s.heap.objs.size = some { cls := .type "tuple", data := .seq #[u, v] } := (sb.2 _ (Nat.ne_of_gt zl)).trans nw
    have ok : ObjOk X.prog X.w (upd H s.heap.objs.size (.tup [x, y])) h2 s.heap.objs.size (.tup [x, y]) :=
      ⟨sz_of (by simp), [u, v], .cons rx (.cons ry .nil), ⟨_, nw2, rfl, _, rfl⟩⟩
    have J : Inv X pins σ (upd H s.heap.objs.size (.tup [x, y])) { s with heap := h2, toks := tk } :=
      I.turnedNew (t' := tk) (ch := [z, c, o, j, k]) (fun d od hd e => (sb.2 d fun w => hd (by simp [w])).trans (kp d od (fun w => hd (by simp [w])) (fun w => hd (by simp [w])) (fun w => hd (by simp [w])) (fun w => hd (by simp [w])) e)) free (Nat.le_refl _) ok
    refine ⟨.ref s.heap.objs.size, _, J, rfl, ⟨_, x, y, rfl, I.hok.fresh (Nat.le_refl _), rfl, fun l hl => by rw [I.list_inj hl q1]; exact hx, fun l hl => by rw [I.tuple_inj hl q2]; exact hy⟩, ⟨⟨f1, ?_⟩, ⟨u, v, ?_⟩, ?_, ?_⟩, fun d hd => ?_⟩
    · exact (sb.2 _ S.TIz).trans (kp _ _ S.TIz S.TITO S.TIi1 S.TIi2 g2)
    · exact (sb.2 _ S.TOz).trans e2
    · exact e3.1.at fun q e => (sb.2 _ S.zi1.symm).trans e
    · exact e4.1.at fun q e => (sb.2 _ S.zi2.symm).trans e
    · have lt : d < s.heap.objs.size := by
        obtain ⟨p1, r1, _⟩ := id g4
        obtain ⟨p2, r2, _⟩ := id g5
        rcases mem5 hd with rfl | rfl | rfl | rfl | rfl
        · exact zl
        · exact Heap.lt_size g2
        · exact Heap.lt_size g3
        · exact Heap.lt_size r1
        · exact Heap.lt_size r2
      rw [upd_ne (Nat.ne_of_lt lt)]
      exact (free d hd).1
  done := by
    intro X u1 u2 u3 calm i pins s σ H E I free st stop
    subst u1 u2 u3
    obtain ⟨⟨g1, g2⟩, ⟨x0, y0, g3⟩, g4, g5⟩ := st
    obtain ⟨us, ws, ⟨q1, q2⟩, n0, n1, n2⟩ := stop
    obtain ⟨ts, rv, p, _⟩ := I.list q1
    obtain ⟨ts2, rv2, p2, _⟩ := I.tuple q2
    have m1 := rv.length
    have m2 := rv2.length
    have d1 := Draws.list (prog := X.prog) (w := X.w) (A := X.A.in1) (I.ok.hd calm) j a na ts.toArray
    have d2 := Draws.tuple (prog := X.prog) (w := X.w) (A := X.A.in1) (I.ok.hd calm) k b nb ts2.toArray
    refine wpAny_pyNext_zipD2_end S d1 d2 g1 g2 g3 ⟨g4, p.isList⟩ ⟨g5, p2⟩ (by simp; omega) (by simp; omega) (by simp; omega) fun h1 tk kp => ⟨rfl, ?_⟩
    exact I.turnedL (t' := tk) (ch := [z, c, o, j, k]) (fun d od hd e => kp d od (fun w => hd (by simp [w])) (fun w => hd (by simp [w])) (fun w => hd (by simp [w])) (fun w => hd (by simp [w])) e) free
  self := fun A i s Q E st h => wpAny_pyIter_zip st.1.1 h
def iZipM (K : PySem.W.Frag) (ta : TA) : TI := fun σ H R => ta σ H fun vs H1 => ∃ (a b : Addr) (us ws : List V), vs = [.ref a, .ref b] ∧ (SqL K H1 a us ∧ SqT K H1 b ws) ∧ R (ItM K a b) H1
theorem pi_zipM {X : Cx} {e1 e2 : Expr} {ta : TA} {p pos tp : Pos} {elts : List Expr} {kk : Nat} (hg : Gl X "zip") (hm : X.mg "zip" = none) (ha : PA X [e1, e2] ta)
    (h1 : starEach [e1, e2] X.env = (false, eval e1 X.env) :: starEach [e2] X.env := by rfl) (h2 : (backTo pos (starEach [e2] X.env)).any (·.1) = false := by rfl) :
    PI X (.Tuple elts kk tp) (.Call (.Name "zip" p) [e1, e2] [] pos) (iZipM X.K ta) := by
  refine ⟨fun pins s σ H R I h => ?_⟩
  refine Call_ (ld_blt I hg hm PyProof.Rows.boot_zip (PyProof.Rows.callWith_type1 (thn (ha.run pos pins s σ H _ I h) fun vs s1 ⟨xs, H1, J, rr, q⟩ => ?_) h1 h2))
  obtain ⟨a, b, us, ws, rfl, ⟨q1, q2⟩, r⟩ := q
  cases rr with
  | cons r1 rr =>
  cases rr with
  | cons r2 rr =>
  cases rr
  cases r1
  cases r2
  obtain ⟨ts, rv, p1, _⟩ := J.list q1
  obtain ⟨ts2, rv2, p2, _⟩ := J.tuple q2
  obtain ⟨o1, l1, _⟩ := id p1.isList
  obtain ⟨o2, l2, _⟩ := id p2
  have lt1 := Heap.lt_size l1
  have lt2 := Heap.lt_size l2
  have sep : ZipSep2 (s1.heap.objs.size + 4) (s1.heap.objs.size + 2) (s1.heap.objs.size + 3) s1.heap.objs.size (s1.heap.objs.size + 1) [s1.heap.objs.size, a] [s1.heap.objs.size + 1, b] :=
    zip_sep2 (fun d hd => by rw [List.mem_singleton.mp hd]; exact lt1) (fun d hd => by rw [List.mem_singleton.mp hd]; exact lt2)
  refine zip_begins2 (begins_list a ts.toArray) (begins_tuple b ts2.toArray) p1.isList p2 fun h' f1 f2 f3 f4 f5 big kp => wpAny_pyIter_zip f1 ?_
  have J2 : Inv X pins σ H1 { s1 with heap := h' } := J.kept (t' := s1.toks) kp
  refine ⟨s1.heap.objs.size + 4, _, _, _, H1, rfl, J2, turnM sep (Nat.ne_of_lt lt1) (show b ≠ s1.heap.objs.size + 1 from Nat.ne_of_lt (Nat.lt_succ_of_lt lt2)), ⟨⟨f1, f2⟩, ⟨_, _, f3⟩, ⟨_, f4, rfl, rfl⟩, ⟨_, f5, rfl, rfl⟩⟩, fun d hd => ?_, r⟩
  have ge : s1.heap.objs.size ≤ d := by
    rcases mem5 hd with e | e | e | e | e
    · rw [e]; exact Nat.le_add_right _ _
    · rw [e]; exact Nat.le_add_right _ _
    · rw [e]; exact Nat.le_add_right _ _
    · rw [e]; exact Nat.le_refl _
    · rw [e]; exact Nat.le_add_right _ _
  exact J.fpOk ge (J.hok.fresh ge)
theorem pi_zipMK {X : Cx} {e1 e2 : Expr} {ta : TA} {p pos tp : Pos} {elts : List Expr} {kk : Nat} (K : PySem.W.Frag) (eK : X.K = K) (hg : Gl X "zip") (hm : X.mg "zip" = none) (ha : PA X [e1, e2] ta)
    (h1 : starEach [e1, e2] X.env = (false, eval e1 X.env) :: starEach [e2] X.env := by rfl) (h2 : (backTo pos (starEach [e2] X.env)).any (·.1) = false := by rfl) :
    PI X (.Tuple elts kk tp) (.Call (.Name "zip" p) [e1, e2] [] pos) (iZipM K ta) := eK ▸ pi_zipM hg hm ha h1 h2
/-- the walk of it -/
theorem walkM {K : PySem.W.Frag} {a b : Addr} {us ws : List V} (hn : us.length = ws.length) : Walk (ItM K a b) us.length (fun H => SqL K H a us ∧ SqT K H b ws) (YPair (fun i => us[i]?) (fun i => ws[i]?)) := by
  refine ⟨fun i H hi q => ⟨us, ws, q, hi, by omega⟩, fun H q => ⟨us, ws, q, .inl rfl, Nat.le_refl _, by omega⟩, fun i H v H' _ q y => ?_⟩
  obtain ⟨m, x, y, h1, h2, h3, h4, h5⟩ := y
  exact ⟨m, x, y, h1, h2, h3, h4 us q.1, h5 ws q.2⟩

/-! ### lists whose items are objects told one by one -/
inductive Rs {α : Type} (R : α → Addr → Hp → Prop) (H : Hp) : List V → List α → Prop
  | nil : Rs R H [] []
  | cons {x : α} {p : Addr} {xs : List α} {vs : List V} : R x p H → Rs R H vs xs → Rs R H (.ref p :: vs) (x :: xs)
section
variable {α β : Type} {R : α → Addr → Hp → Prop} {H H' : Hp} {vs : List V} {xs : List α}
theorem Rs.len (h : Rs R H vs xs) : vs.length = xs.length := by
  induction h with
  | nil => rfl
  | cons _ _ ih => rw [List.length_cons, List.length_cons, ih]
theorem Rs.imp {S : α → Addr → Hp → Prop} (h : Rs R H vs xs) (m : ∀ x p, x ∈ xs → R x p H → S x p H') : Rs S H' vs xs := by
  induction h with
  | nil => exact .nil
  | cons r _ ih => exact .cons (m _ _ List.mem_cons_self r) (ih fun x p hx => m x p (List.mem_cons_of_mem _ hx))
theorem Rs.snoc {x : α} {p : Addr} (h : Rs R H vs xs) (r : R x p H) : Rs R H (vs ++ [.ref p]) (xs ++ [x]) := by
  induction h with
  | nil => exact .cons r .nil
  | cons r0 _ ih => exact .cons r0 ih
theorem Rs.get (h : Rs R H vs xs) {i : Nat} {v : V} (hi : vs[i]? = some v) : ∃ p x, v = .ref p ∧ xs[i]? = some x ∧ R x p H := by
  induction h generalizing i with
  | nil => cases hi
  | cons r0 _ ih =>
    cases i with
    | zero =>
      cases hi
      exact ⟨_, _, rfl, rfl, r0⟩
    | succ i => exact ih hi
theorem Rs.refs (h : Rs R H vs xs) : ∀ v ∈ vs, ∃ r : Addr, v = .ref r := by
  induction h with
  | nil => intro v hv; cases hv
  | cons r0 _ ih =>
    intro v hv
    rcases List.mem_cons.mp hv with rfl | hv
    · exact ⟨_, rfl⟩
    · exact ih v hv
theorem Rs.take (h : Rs R H vs xs) : ∀ n, Rs R H (vs.take n) (xs.take n) := by
  induction h with
  | nil => intro n; rw [List.take_nil, List.take_nil]; exact .nil
  | cons r0 _ ih =>
    intro n
    cases n with
    | zero => exact .nil
    | succ n => exact .cons r0 (ih n)
/-- R stands however the heap grows -/
def Up {α : Type} (R : α → Addr → Hp → Prop) : Prop := ∀ x p H H', Ex H H' → R x p H → R x p H'
/-- R asks nothing of a list of objects elsewhere -/
def Off {α : Type} (R : α → Addr → Hp → Prop) : Prop := ∀ x p H D acc, R x p H → H D = some (.lst acc) → (∀ v ∈ acc, ∃ r : Addr, v = .ref r) → p ≠ D → R x p (hide D H)
theorem Rs.ex (up : Up R) (h : Rs R H vs xs) (e : Ex H H') : Rs R H' vs xs := h.imp fun x p _ r => up x p H H' e r
/-- a new list of such objects, a new such object -/
def EvRs (te : TE) (σ : L2.St) (H : Hp) (R : α → Addr → Hp → Prop) (xs : List α) : Prop := ∀ H1, Ex H H1 → ∀ Q : VK, (∀ l vs H2, H1 l = none → Ex H1 H2 → H2 l = some (.lst vs) → Rs R H2 vs xs → Q (.ref l) H2) → te σ H1 Q
def EvN (te : TE) (σ : L2.St) (H : Hp) (r : Addr → Hp → Prop) : Prop := ∀ H1, Ex H H1 → ∀ Q : VK, (∀ p H2, H1 p = none → Ex H1 H2 → r p H2 → Q (.ref p) H2) → te σ H1 Q
theorem hide_upd {D : Addr} {H : Hp} {o : HO} : hide D (upd H D o) = hide D H := by
  funext a
  by_cases e : a = D
  · rw [e, hide_at, hide_at]
  · rw [hide_ne e, hide_ne e, upd_ne e]
theorem hide_none {D : Addr} {H : Hp} (h : H D = none) : hide D H = H := by
  funext a
  by_cases e : a = D
  · rw [e, hide_at, h]
  · rw [hide_ne e]
/-- Ex past what is hidden -/
theorem ex_hide {D : Addr} {H H' : Hp} (e : Ex H H') : Ex (hide D H) (hide D H') := fun a o h => by
  rw [hide_ne (hide_some h).1]
  exact e a o (hide_some h).2
theorem ex_to_hide {D : Addr} {H H' : Hp} (h : H D = none) (e : Ex H H') : Ex H (hide D H') := by
  have := ex_hide (D := D) e
  rw [hide_none h] at this
  exact this
/-- an iterator that has come -/
def iHere (J : It) (H : Hp) : TI := fun _ _ R => R J H
theorem lcRs {J : It} {n : Nat} {G : Hp → Prop} {Y : Nat → Hp → V → Hp → Prop} (w : Walk J n G Y) {g : TG} {te : TE} {us : List Nat} {σ : L2.St} {H1 H0 : Hp} {Q : VK} (up : Up R) (off : Off R) (hn : n ≤ 100000) (hl : xs.length = n) (hG : ∀ H, Ex H1 H → G H)
    (hs : ∀ i y x H H', xs[i]? = some y → Ex H1 H → Y i H x H' → ∀ k : L2.St → Hp → Prop, (∀ σ2 H2, Ex H H2 → wipe σ2 us = wipe σ us → EvN te σ2 H2 (R y) → k σ2 H2) → g x (wipe σ us) H' k)
    (hq : ∀ l vs H2, H1 l = none → Ex H1 H2 → H2 l = some (.lst vs) → Rs R H2 vs xs → Q (.ref l) H2) : tLc (iHere J H1) g tYes te us σ H0 Q := fun D hD => by
  refine lc_it w (fun i H => ∃ vs, H D = some (.lst vs) ∧ Ex H1 (hide D H) ∧ Rs R (hide D H) vs (xs.take i)) ⟨[], upd_same, ?_, ?_⟩ ?_ ?_ ?_
  · rw [hide_upd, hide_none hD]
    exact Ex.refl _
  · exact .nil
  · rintro i H _ ⟨vs, _, e, _⟩
    exact hG H (e.trans hide_le)
  · rintro i x H H' hi ⟨vs, hv, e, r⟩ y
    obtain ⟨z, hz⟩ : ∃ z, xs[i]? = some z := ⟨xs[i]'(by omega), List.getElem?_eq_getElem (by omega)⟩
    refine hs i z x H H' hz (e.trans hide_le) y _ fun σ2 H2 e2 hw ev => ⟨hw, ?_⟩
    show te σ2 H2 fun y H4 => ∃ acc, H4 D = some (.lst acc) ∧ acc.length < sizeLine ∧ _
    refine ev H2 (Ex.refl _) _ fun p H3 hp e3 rp => ?_
    have hv2 := e2 _ _ hv
    have hv3 := e3 _ _ hv2
    have ne : p ≠ D := fun q => by
      rw [q, hv2] at hp
      cases hp
    have el : vs.length = (xs.take i).length := r.len
    rw [List.length_take] at el
    refine ⟨vs, hv3, sz_lt (by omega), vs ++ [.ref p], upd_same, ?_, ?_⟩
    · rw [hide_upd]
      exact e.trans (ex_hide (e2.trans e3))
    · rw [hide_upd, List.take_add_one, hz]
      exact (r.ex up (ex_hide (e2.trans e3))).snoc (off _ _ _ _ _ rp hv3 r.refs ne)
  · rintro H ⟨vs, hv, e, r⟩
    rw [← hl, List.take_length] at r
    exact hq D vs H hD (e.trans hide_le) hv (r.ex up hide_le)
variable {K : PySem.W.Frag} {σ : L2.St} {te tl : TE}
/-- over a list that stands -/
theorem ers_lc {a : Addr} {us : List V} {j : Nat} {ws : List Nat} (up : Up R) (off : Off R) (h : Ev tl σ H (.ref a)) (hx : SqL K H a us) (hn : us.length ≤ 40000) (hl : xs.length = us.length) (hw : ∀ x, wipe ((wipe σ ws).set j (some x)) ws = wipe σ ws)
    (he : ∀ (i : Nat) (u : V) (y : α) (H1 : Hp), Ex H H1 → us[i]? = some u → xs[i]? = some y → EvN te ((wipe σ ws).set j (some u)) H1 (R y)) : EvRs (tLc (iList K tl) (gName j) tYes te ws) σ H R xs := fun H0 e Q q => h H0 e _ fun H1 e1 => ⟨a, rfl, ⟨us, ex_l (e.trans e1) hx⟩,
  lcRs (H0 := H1) (walk_list (K := K) (a := a) (xs := us)) up off (by omega) hl (fun H2 e2 => ex_l ((e.trans e1).trans e2) hx) (fun i y x H2 H3 hy e2 yy k hk => by
    obtain ⟨rfl, hu⟩ := yy
    exact hk _ _ (Ex.refl _) (hw _) (he i x y _ ((e.trans e1).trans e2) hu hy)) fun l vs H2 hl0 e2 h2 r => q l vs H2 (fresh_back e1 hl0) (e1.trans e2) h2 r⟩
/-- over zip of a list and a tuple -/
theorem ers_zip {ta : TA} {a b : Addr} {us vs : List V} {j k : Nat} {ws : List Nat} (up : Up R) (off : Off R) (h : EvA ta σ H [.ref a, .ref b]) (hx : SqL K H a us) (hy : SqT K H b vs) (hn : us.length ≤ 40000) (hl : xs.length = us.length) (h2 : us.length = vs.length)
    (hw : ∀ x y, wipe (((wipe σ ws).set j (some x)).set k (some y)) ws = wipe σ ws)
    (he : ∀ (i : Nat) (u v : V) (y : α) (H1 : Hp), Ex H H1 → us[i]? = some u → vs[i]? = some v → xs[i]? = some y → EvN te (((wipe σ ws).set j (some u)).set k (some v)) H1 (R y)) : EvRs (tLc (iZipM K ta) (gTup K 2 (gCons (gName j) (gCons (gName k) gNil))) tYes te ws) σ H R xs := fun H0 e Q q => h H0 e _ fun H1 e1 => ⟨a, b, us, vs, rfl, ⟨ex_l (e.trans e1) hx, ex_t (e.trans e1) hy⟩,
  lcRs (H0 := H1) (walkM (K := K) (a := a) (b := b) h2) up off (by omega) hl (fun H2 e2 => ⟨ex_l ((e.trans e1).trans e2) hx, ex_t ((e.trans e1).trans e2) hy⟩) (fun i y x H2 H3 hyi e2 yy kk hk => by
    obtain ⟨m, u, v, rfl, hm, rfl, hu, hv⟩ := yy
    refine ⟨m, [u, v], rfl, st_of upd_same, rfl, u, [v], rfl, v, [], rfl, rfl, ?_⟩
    exact hk _ _ (Ex.new hm) (hw _ _) (he i u v y _ (((e.trans e1).trans e2).trans (Ex.new hm)) hu hv hyi)) fun l vs' H2 hl0 e2 h2 r => q l vs' H2 (fresh_back e1 hl0) (e1.trans e2) h2 r⟩
end

/-! ### xs[::-1] -/
theorem fm_self {α : Type} : ∀ l : List α, (List.range l.length).filterMap (fun k => l[k]?) = l := fun l => by
  have h : (List.range l.length).filterMap (fun k => l[k]?) = (List.range l.length).filterMap fun k => (l.map some).getD k none := by
    congr 1
    funext k
    rw [List.getD_eq_getElem?_getD, List.getElem?_map]
    cases l[k]? <;> rfl
  have g : (List.range l.length).map (fun k => (l.map some).getD k none) = l.map some := by
    apply List.ext_getElem
    · simp
    · intro i h1 h2
      simp at h1 ⊢
      simp [h1]
  have f : (List.range l.length).filterMap (fun k => (l.map some).getD k none) = ((List.range l.length).map fun k => (l.map some).getD k none).filterMap id := by
    rw [List.filterMap_map]
    rfl
  rw [h, f, g, List.filterMap_map]
  show l.filterMap some = l
  exact List.filterMap_some
theorem fm_congr {α β : Type} {f g : α → Option β} : ∀ l : List α, (∀ x ∈ l, f x = g x) → l.filterMap f = l.filterMap g
  | [], _ => rfl
  | x :: l, h => by
    rw [List.filterMap_cons, List.filterMap_cons, h x List.mem_cons_self, fm_congr l fun y hy => h y (List.mem_cons_of_mem _ hy)]
theorem pick_rev (us : List Value) : slicePick us.toArray none none (some (-1)) = us.reverse.toArray := by
  unfold slicePick sliceBounds sliceRange
  have n0 : ¬ ((-1 : Int) > 0) := by decide
  simp only [Option.getD_some, n0, if_false, List.size_toArray]
  have c : (if ((us.length : Int) - 1 > -1) then ((us.length : Int) - 1 - -1 - -1 - 1) / (- -1) else 0) = (us.length : Int) := by
    split
    · rw [show (- -1 : Int) = 1 from rfl, Int.ediv_one]
      omega
    · omega
  rw [c, Int.toNat_natCast, List.filterMap_map]
  congr 1
  have e : us.length = us.reverse.length := (List.length_reverse).symm
  conv => rhs; rw [← fm_self us.reverse]
  rw [← e]
  refine fm_congr _ fun k hk => ?_
  have hk' : k < us.length := List.mem_range.mp hk
  show us.toArray[((us.length : Int) - 1 + -1 * (k : Int)).toNat]? = _
  rw [List.getElem?_reverse hk', show ((us.length : Int) - 1 + -1 * (k : Int)).toNat = us.length - 1 - k by omega]
  simp
def tRev (K : PySem.W.Frag) (te : TE) (ts : TO) : TE := fun σ H Q => te σ H fun x H1 => ts σ H1 fun l H2 => l = some (-1) ∧ ∃ a xs, x = .ref a ∧ SqL K H2 a xs ∧ ∀ p, H2 p = none → Q (.ref p) (upd H2 p (.lst xs.reverse))
theorem vals_rev {xs : List V} {us : List Value} (r : Vals xs us) : Vals xs.reverse us.reverse := by
  refine vals_of_idx _ _ (by rw [List.length_reverse, List.length_reverse, r.length]) fun i u hi => ?_
  have lt := (List.getElem?_eq_some_iff.mp hi).1
  rw [List.length_reverse] at lt
  rw [List.getElem?_reverse lt] at hi
  have n := r.length
  obtain ⟨x, hx, rx⟩ := get_back r hi
  exact ⟨x, by rw [List.getElem?_reverse (by omega), n]; exact hx, rx⟩
theorem pe_rev {X : Cx} {e st : Expr} {te : TE} {ts : TO} {pos p2 : Pos} (he : PE X e te) (hs : PO X (some st) ts) : PE X (.Subscript e (.Slice none none (some st) p2) pos) (tRev X.K te ts) := by
  refine ⟨fun pins s σ H Q I0 h0 => ?_⟩
  refine Subscript_ (thn (he.run pins s σ H _ I0 h0) fun v s1 ⟨x, H1, I1, r1, q1⟩ => wpAny_Slice ?_)
  rw [evalPart_none]
  refine wpAny_pure (wpAny_pure (thn (hs.run pins s1 σ H1 _ I1 q1) fun vs s2 ⟨l, H2, I2, pl, el, a, xs, e1, hx, q⟩ => ?_))
  subst el e1
  cases r1
  have I3 : Inv X pins σ H2 { s2 with heap := s2.heap.push { cls := .type "slice", data := .fields #[.none, .none, vs] } } := I2.kept (t' := s2.toks) fun b ob z => Heap.get?_push_of_some _ z
  obtain ⟨ts', rv, pl2, hz⟩ := I3.list hx
  have n := rv.length
  refine tail_any (ops := [.ref a, .ref s2.heap.objs.size]) pl2.isList.typeIs slot_list_getitem.lookup ?_ (by with_unfolding_all rfl)
  refine wpAny_getItem_list_slice pl2.isList (Heap.IsSliceOf.new ..) .none .none pl (by decide) ?_ (by rw [List.size_toArray]; omega)
  rw [pick_rev]
  refine ⟨.ref _, _, I3.laid (t' := s2.toks) (o := .lst xs.reverse) (fun b ob z => Heap.get?_push_of_some _ z) (Nat.le_refl _) ?_, rfl, q _ (I3.hok.fresh (Nat.le_refl _))⟩
  exact ⟨by rw [List.length_reverse]; exact hz, _, 0, vals_rev rv, Heap.get?_push_size _ rfl⟩
section
variable {K : PySem.W.Frag} {σ : L2.St} {H : Hp} {te : TE} {ts : TO}
theorem el_rev {a : Addr} {xs : List V} (h : Ev te σ H (.ref a)) (hx : SqL K H a xs) (hs : EvO ts σ H (some (-1))) : EvL (tRev K te ts) σ H xs.reverse := fun H0 e0 Q q =>
  h H0 e0 _ fun H1 e1 => hs H1 (e0.trans e1) _ fun H2 e2 => ⟨rfl, a, xs, rfl, ex_l ((e0.trans e1).trans e2) hx, fun l hl => q l _ (fresh_back (e1.trans e2) hl) ((e1.trans e2).trans (Ex.new hl)) upd_same⟩
end

/-! ### items that are fixed values -/
theorem lcVs {J : It} {n : Nat} {G : Hp → Prop} {Y : Nat → Hp → V → Hp → Prop} (w : Walk J n G Y) {g : TG} {te : TE} {us : List Nat} {σ : L2.St} {H1 H0 : Hp} {Q : VK} {xs : List V} (hn : n ≤ 100000) (hl : xs.length = n) (hG : ∀ H, Ex H1 H → G H)
    (hs : ∀ (i : Nat) (y x : V) (H H' : Hp), xs[i]? = some y → Ex H1 H → Y i H x H' → ∀ k : L2.St → Hp → Prop, (∀ σ2 H2, Ex H H2 → wipe σ2 us = wipe σ us → Ev te σ2 H2 y → k σ2 H2) → g x (wipe σ us) H' k)
    (hq : ∀ l H2, H1 l = none → Ex H1 H2 → H2 l = some (.lst xs) → Q (.ref l) H2) : tLc (iHere J H1) g tYes te us σ H0 Q := fun D hD => by
  refine lc_it w (fun i H => H D = some (.lst (xs.take i)) ∧ Ex H1 (hide D H)) ⟨upd_same, ?_⟩ ?_ ?_ ?_
  · rw [hide_upd, hide_none hD]
    exact Ex.refl _
  · rintro i H _ ⟨_, e⟩
    exact hG H (e.trans hide_le)
  · rintro i x H H' hi ⟨hv, e⟩ y
    obtain ⟨z, hz⟩ : ∃ z, xs[i]? = some z := ⟨xs[i]'(by omega), List.getElem?_eq_getElem (by omega)⟩
    refine hs i z x H H' hz (e.trans hide_le) y _ fun σ2 H2 e2 hw ev => ⟨hw, ?_⟩
    show te σ2 H2 fun y H4 => ∃ acc, H4 D = some (.lst acc) ∧ acc.length < sizeLine ∧ _
    refine ev H2 (Ex.refl _) _ fun H3 e3 => ⟨_, e3 _ _ (e2 _ _ hv), sz_lt (by rw [List.length_take]; omega), ?_, ?_⟩
    · rw [upd_same, List.take_add_one, hz]
      rfl
    · rw [hide_upd]
      exact e.trans (ex_hide (e2.trans e3))
  · rintro H ⟨hv, e⟩
    rw [← hl, List.take_length] at hv
    exact hq D H hD (e.trans hide_le) hv
section
variable {K : PySem.W.Frag} {σ : L2.St} {H : Hp} {te tl : TE}
theorem elv_zip {ta : TA} {a b : Addr} {us vs xs : List V} {j k : Nat} {ws : List Nat} (h : EvA ta σ H [.ref a, .ref b]) (hx : SqL K H a us) (hy : SqT K H b vs) (hn : us.length ≤ 40000) (hl : xs.length = us.length) (h2 : us.length = vs.length)
    (hw : ∀ x y, wipe (((wipe σ ws).set j (some x)).set k (some y)) ws = wipe σ ws)
    (he : ∀ (i : Nat) (u v y : V) (H1 : Hp), Ex H H1 → us[i]? = some u → vs[i]? = some v → xs[i]? = some y → Ev te (((wipe σ ws).set j (some u)).set k (some v)) H1 y) : EvL (tLc (iZipM K ta) (gTup K 2 (gCons (gName j) (gCons (gName k) gNil))) tYes te ws) σ H xs := fun H0 e Q q => h H0 e _ fun H1 e1 => ⟨a, b, us, vs, rfl, ⟨ex_l (e.trans e1) hx, ex_t (e.trans e1) hy⟩,
  lcVs (H0 := H1) (walkM (K := K) (a := a) (b := b) h2) (by omega) hl (fun H2 e2 => ⟨ex_l ((e.trans e1).trans e2) hx, ex_t ((e.trans e1).trans e2) hy⟩) (fun i y x H2 H3 hyi e2 yy kk hk => by
    obtain ⟨m, u, v, rfl, hm, rfl, hu, hv⟩ := yy
    refine ⟨m, [u, v], rfl, st_of upd_same, rfl, u, [v], rfl, v, [], rfl, rfl, ?_⟩
    exact hk _ _ (Ex.new hm) (hw _ _) (he i u v y _ (((e.trans e1).trans e2).trans (Ex.new hm)) hu hv hyi)) fun l H2 hl0 e2 h2 => q l H2 (fresh_back e1 hl0) (e1.trans e2) h2⟩
/-- over a list of pairs -/
theorem elv_pairs {a : Addr} {us xs : List V} {j k : Nat} {ws : List Nat} (h : Ev tl σ H (.ref a)) (hx : SqL K H a us) (hn : us.length ≤ 40000) (hl : xs.length = us.length)
    (hw : ∀ x y, wipe (((wipe σ ws).set j (some x)).set k (some y)) ws = wipe σ ws)
    (he : ∀ (i : Nat) (u y : V), us[i]? = some u → xs[i]? = some y → ∃ (p : Addr) (x1 x2 : V), u = .ref p ∧ H p = some (.tup [x1, x2]) ∧ ∀ H1, Ex H H1 → Ev te (((wipe σ ws).set j (some x1)).set k (some x2)) H1 y) : EvL (tLc (iList K tl) (gTup K 2 (gCons (gName j) (gCons (gName k) gNil))) tYes te ws) σ H xs := fun H0 e Q q => h H0 e _ fun H1 e1 => ⟨a, rfl, ⟨us, ex_l (e.trans e1) hx⟩,
  lcVs (H0 := H1) (walk_list (K := K) (a := a) (xs := us)) (by omega) hl (fun H2 e2 => ex_l ((e.trans e1).trans e2) hx) (fun i y x H2 H3 hyi e2 yy kk hk => by
    obtain ⟨rfl, hu⟩ := yy
    obtain ⟨p, x1, x2, rfl, hp, hv⟩ := he i x y hu hyi
    have e3 := (e.trans e1).trans e2
    refine ⟨p, [x1, x2], rfl, st_of (e3 _ _ hp), rfl, x1, [x2], rfl, x2, [], rfl, rfl, ?_⟩
    exact hk _ _ (Ex.refl _) (hw _ _) (hv _ e3)) fun l H2 hl0 e2 h2 => q l H2 (fresh_back e1 hl0) (e1.trans e2) h2⟩
/-- two fors, the inner list new each time -/
theorem elv_lc2 {β : Type} {te1 : TE} {t1 : TT} {a : Addr} {us : List V} {ys : List (List β)} {r W : β → V} {F : β → Bool} {j k m : Nat} {ws ws1 : List Nat} (h : Ev tl σ H (.ref a)) (hx : SqL K H a us) (hl : ys.length = us.length) (hm : (ys.flatMap fun y => (y.filter F).map W).length ≤ 40000)
    (hw : ∀ x, wipe ((wipe σ ws).set j (some x)) ws = wipe σ ws) (hw1 : ∀ x y, wipe ((wipe ((wipe σ ws).set j (some x)) ws1).set k (some y)) ws1 = wipe ((wipe σ ws).set j (some x)) ws1)
    (hi : ∀ (i : Nat) (u : V) (y : List β) (H1 : Hp), Ex H H1 → us[i]? = some u → ys[i]? = some y → EvL te1 ((wipe σ ws).set j (some u)) H1 (y.map r))
    (ht : ∀ (u : V) (x : β) (H1 : Hp), Ex H H1 → (∃ y ∈ ys, x ∈ y) → EvT t1 ((wipe ((wipe σ ws).set j (some u)) ws1).set k (some (r x))) H1 (F x))
    (he : ∀ (u : V) (x : β) (H1 : Hp), Ex H H1 → (∃ y ∈ ys, x ∈ y) → Ev te ((wipe ((wipe σ ws).set j (some u)) ws1).set k (some (r x))) H1 (W x)) :
    EvL (tLc2 (iList K tl) (gName j) tYes (iList K te1) (gName k) t1 te ws ws1) σ H (ys.flatMap fun y => (y.filter F).map W) := fun H0 e Q q => h H0 e _ fun H1 e1 => ⟨a, rfl, ⟨us, ex_l (e.trans e1) hx⟩, fun D hD => by
  have w := walk_list (K := K) (a := a) (xs := us)
  have cut : ∀ i, ((ys.take i).flatMap fun y => (y.filter F).map W).length ≤ (ys.flatMap fun y => (y.filter F).map W).length := fun i => by
    conv => rhs; rw [← List.take_append_drop i ys, List.flatMap_append, List.length_append]
    omega
  refine ⟨fun i c H2 => c = us.length - i ∧ i ≤ us.length ∧ H2 D = some (.lst ((ys.take i).flatMap fun y => (y.filter F).map W)) ∧ Ex H1 (hide D H2), ⟨us.length, rfl, Nat.zero_le _, upd_same, ?_⟩, ?_⟩
  · rw [hide_upd, hide_none hD]
    exact Ex.refl _
  rintro i c H2 ⟨rfl, hi0, hv, e2⟩
  have e12 := (e.trans e1).trans (e2.trans hide_le)
  by_cases lt : i < us.length
  · refine .inr ⟨w.goes i H2 lt (ex_l e12 hx), fun H' => H' D = some (.lst ((ys.take (i + 1)).flatMap fun y => (y.filter F).map W)) ∧ Ex H1 (hide D H'), fun H' z => ⟨_, by omega, rfl, lt, z.1, z.2⟩, fun x H' yy => ?_⟩
    obtain ⟨rfl, hu⟩ := w.yields i H2 x H' lt (ex_l e12 hx) yy
    obtain ⟨y, hy⟩ : ∃ y, ys[i]? = some y := ⟨ys[i]'(by omega), List.getElem?_eq_getElem (by omega)⟩
    refine ⟨hw _, ?_⟩
    show te1 _ H' _
    refine hi i x y H' e12 hu hy H' (Ex.refl _) _ fun l H3 hl0 e3 h3 => ⟨l, rfl, ⟨_, sq_of h3⟩, ?_⟩
    have hv3 := e3 _ _ hv
    have nl : l ≠ D := fun z => by
      rw [z, hv] at hl0
      cases hl0
    have h3' : hide D H3 l = some (.lst (y.map r)) := by rw [hide_ne nl]; exact h3
    have w2 := walk_list (K := K) (a := l) (xs := y.map r)
    have e23 : Ex H1 (hide D H3) := e2.trans (ex_hide e3)
    have tk : (ys.take (i + 1)).flatMap (fun y => (y.filter F).map W) = ((ys.take i).flatMap fun y => (y.filter F).map W) ++ (y.filter F).map W := by
      rw [List.take_add_one, hy, List.flatMap_append]
      simp
    refine ⟨fun i2 c2 H4 => c2 = y.length - i2 ∧ i2 ≤ y.length ∧ H4 D = some (.lst (((ys.take i).flatMap fun y => (y.filter F).map W) ++ ((y.take i2).filter F).map W)) ∧ Ex (hide D H3) (hide D H4), ⟨y.length, rfl, Nat.zero_le _, ?_, Ex.refl _⟩, ?_⟩
    · rw [hv3]
      simp
    rintro i2 c2 H4 ⟨rfl, hi2, hv4, e4⟩
    have q4 : SqL K H4 l (y.map r) := sq_of (hide_le _ _ (e4 _ _ h3'))
    have ee : Ex H H4 := (e.trans e1).trans ((e23.trans e4).trans hide_le)
    by_cases lt2 : i2 < y.length
    · refine .inr ⟨w2.goes i2 H4 (by rw [List.length_map]; exact lt2) q4, fun H' => H' D = some (.lst (((ys.take i).flatMap fun y => (y.filter F).map W) ++ ((y.take (i2 + 1)).filter F).map W)) ∧ Ex (hide D H3) (hide D H'), fun H' z => ⟨_, by omega, rfl, lt2, z.1, z.2⟩, fun x2 H' yy => ?_⟩
      obtain ⟨rfl, hx2⟩ := w2.yields i2 H4 x2 H' (by rw [List.length_map]; exact lt2) q4 yy
      rw [List.getElem?_map, List.getElem?_eq_getElem lt2] at hx2
      have hx3 : r (y[i2]) = x2 := Option.some.inj hx2
      subst hx3
      have tk2 : ((y.take (i2 + 1)).filter F).map W = ((y.take i2).filter F).map W ++ (if F y[i2] = true then [W y[i2]] else []) := by
        rw [List.take_add_one, List.getElem?_eq_getElem lt2, List.filter_append, List.map_append]
        congr 1
        by_cases hf : F y[i2] = true <;> simp [hf]
      have inn : ∃ y' ∈ ys, y[i2] ∈ y' := ⟨y, List.mem_of_getElem? hy, List.getElem_mem lt2⟩
      refine ⟨hw1 _ _, ht _ _ H' ee inn H' (Ex.refl _) _ fun H5 e5 => ?_⟩
      by_cases hf : F y[i2] = true
      · rw [if_pos hf]
        refine he _ _ H5 (ee.trans e5) inn H5 (Ex.refl _) _ fun H6 e6 => ⟨_, e6 _ _ (e5 _ _ hv4), sz_lt ?_, ?_, ?_⟩
        · have h1 := cut (i + 1)
          rw [tk, List.length_append] at h1
          have h2 : ((y.take i2).filter F).length ≤ (y.filter F).length := by
            conv => rhs; rw [← List.take_append_drop i2 y, List.filter_append, List.length_append]
            omega
          rw [List.length_map] at h1
          rw [List.length_append, List.length_map]
          omega
        · rw [upd_same, tk2, if_pos hf, List.append_assoc]
        · rw [hide_upd]
          exact e4.trans (ex_hide (e5.trans e6))
      · rw [if_neg hf]
        refine ⟨?_, e4.trans (ex_hide e5)⟩
        rw [tk2, if_neg hf, List.append_nil]
        exact e5 _ _ hv4
    · have ei : i2 = y.length := by omega
      subst ei
      rw [List.take_length] at hv4
      have st := w2.stops H4 q4
      rw [List.length_map] at st
      exact .inl ⟨st, by rw [tk]; exact hv4, e23.trans e4⟩
  · have ei : i = us.length := by omega
    subst ei
    rw [← hl, List.take_length] at hv
    exact .inl ⟨w.stops H2 (ex_l e12 hx), q D H2 (fresh_back e1 hD) (e1.trans (e2.trans hide_le)) hv⟩⟩
/-- tuple(a new list of objects) -/
def EvRt {α : Type} (te : TE) (σ : L2.St) (H : Hp) (R : α → Addr → Hp → Prop) (xs : List α) : Prop := ∀ H1, Ex H H1 → ∀ Q : VK, (∀ l vs H2, H1 l = none → Ex H1 H2 → H2 l = some (.tup vs) → Rs R H2 vs xs → Q (.ref l) H2) → te σ H1 Q
theorem ers_tup {α : Type} {R : α → Addr → Hp → Prop} {xs : List α} (up : Up R) (h : EvRs te σ H R xs) : EvRt (tCB (fun xs H Q => ∃ p ys, xs = [.ref p] ∧ ((SqL K H p ys ∧ ∀ l, H l = none → Q (.ref l) (upd H l (.tup ys))) ∨ (SqT K H p ys ∧ Q (.ref p) H))) (tCons te tNil)) σ H R xs := fun H1 e Q q =>
  h H1 e _ fun l vs H2 hl e2 h2 r => ⟨l, vs, rfl, .inl ⟨sq_of h2, fun m hm => q m vs _ (fresh_back e2 hm) (e2.trans (Ex.new hm)) upd_same (r.ex up (Ex.new hm))⟩⟩
theorem eu_tupE {xs : List V} (h : EvL te σ H xs) : EvU (tCB (fun xs H Q => ∃ p ys, xs = [.ref p] ∧ ((SqL K H p ys ∧ ∀ l, H l = none → Q (.ref l) (upd H l (.tup ys))) ∨ (SqT K H p ys ∧ Q (.ref p) H))) (tCons te tNil)) σ H xs := fun H1 e Q q =>
  h H1 e _ fun l H2 hl e2 h2 => ⟨l, xs, rfl, .inl ⟨sq_of h2, fun m hm => q m _ (fresh_back e2 hm) (e2.trans (Ex.new hm)) upd_same⟩⟩
/-- a tuple that stands or is new -/
def EvTp (te : TE) (σ : L2.St) (H : Hp) (xs : List V) : Prop := ∀ H1, Ex H H1 → ∀ Q : VK, (∀ p H2, Ex H1 H2 → H2 p = some (.tup xs) → Q (.ref p) H2) → te σ H1 Q
end

/-! ### data of data compared -/
theorem layAll_of {n : Nat} : ∀ {ds : List PyData}, (∀ d ∈ ds, d.canLay0 = true ∧ d.depth ≤ n) → PyData.canLayAll0 ds = true ∧ PyData.depthAll ds ≤ n
  | [], _ => ⟨by simp [PyData.canLayAll0], by simp [PyData.depthAll]⟩
  | d :: ds, h => by
    have h1 := h d List.mem_cons_self
    have h2 := layAll_of (ds := ds) fun e he => h e (List.mem_cons_of_mem _ he)
    exact ⟨by simp [PyData.canLayAll0, h1.1, h2.1], by simp only [PyData.depthAll]; omega⟩
theorem shaped_tt {n : Nat} {ds : List PyData} (h : ∀ d ∈ ds, d.canLay0 = true ∧ d.depth ≤ n) (hn : n ≤ 60) : SeqAt.shaped (.tuple ds) = true := by
  have h2 := layAll_of h
  show (PyData.canLay0 (.tuple ds) && decide (PyData.depth (.tuple ds) ≤ 64)) = true
  rw [Bool.and_eq_true]
  exact ⟨by simp only [PyData.canLay0]; exact h2.1, decide_eq_true (by simp only [PyData.depth]; omega)⟩
theorem shaped_ll {n : Nat} {ds : List PyData} (h : ∀ d ∈ ds, d.canLay0 = true ∧ d.depth ≤ n) (hn : n ≤ 60) : SeqAt.shaped (.list ds) = true := by
  have h2 := layAll_of h
  show (PyData.canLay0 (.list ds) && decide (PyData.depth (.list ds) ≤ 64)) = true
  rw [Bool.and_eq_true]
  exact ⟨by simp only [PyData.canLay0]; exact h2.1, decide_eq_true (by simp only [PyData.depth]; omega)⟩
theorem lay_tup {vs : List V} (h : ∀ v ∈ vs, okV v = true) : (PyData.tuple (vs.map toD)).canLay0 = true ∧ (PyData.tuple (vs.map toD)).depth ≤ 1 := by
  have h2 := layAll_toD h
  exact ⟨by simp only [PyData.canLay0]; exact h2.1, by simp only [PyData.depth]; omega⟩
theorem lay_lst {vs : List V} (h : ∀ v ∈ vs, okV v = true) : (PyData.list (vs.map toD)).canLay0 = true ∧ (PyData.list (vs.map toD)).depth ≤ 1 := by
  have h2 := layAll_toD h
  exact ⟨by simp only [PyData.canLay0]; exact h2.1, by simp only [PyData.depth]; omega⟩
theorem eqF_same : ∀ xs : List V, (∀ v ∈ xs, PyData.eqv (toD v) (toD v) = true) → eqF xs xs = true
  | [], _ => rfl
  | x :: xs, h => by
    show (PyData.eqv (toD x) (toD x) && eqF xs xs) = true
    rw [h x List.mem_cons_self, eqF_same xs fun v hv => h v (List.mem_cons_of_mem _ hv)]
    rfl
theorem eqvAll_same : ∀ ds : List PyData, (∀ d ∈ ds, PyData.eqv d d = true) → PyData.eqvAll ds ds = true
  | [], _ => by simp [PyData.eqvAll]
  | d :: ds, h => by
    simp only [PyData.eqvAll]
    rw [h d List.mem_cons_self, eqvAll_same ds fun v hv => h v (List.mem_cons_of_mem _ hv)]
    rfl
section
variable {K : PySem.W.Frag} {σ : L2.St} {H : Hp} {te : TE} {tz : TS} {D : Ends} {α : Type} {R : α → Addr → Hp → Prop} {xs : List α}
/-- data of such objects -/
theorem Rs.dp {d : α → PyData} {vs : List V} (r : Rs R H vs xs) (h : ∀ x p, x ∈ xs → R x p H → Dp K H (.ref p) (d x)) : DpAll K H vs (xs.map d) := by
  induction r with
  | nil => exact .nil
  | cons r0 _ ih => exact .cons (h _ _ List.mem_cons_self r0) (ih fun x p hx => h x p (List.mem_cons_of_mem _ hx))
theorem q_asgRs {i : Nat} (h : EvRs te σ H R xs) (k : ∀ l vs H1, H l = none → Ex H H1 → H1 l = some (.lst vs) → Rs R H1 vs xs → tz D (σ.set i (some (.ref l))) H1) : tSeq (tAsg te (gName i)) tz D σ H := h H (Ex.refl H) _ k
theorem q_asgRt {i : Nat} (h : EvRt te σ H R xs) (k : ∀ l vs H1, H l = none → Ex H H1 → H1 l = some (.tup vs) → Rs R H1 vs xs → tz D (σ.set i (some (.ref l))) H1) : tSeq (tAsg te (gName i)) tz D σ H := h H (Ex.refl H) _ k
theorem s_asgRt {i : Nat} (h : EvRt te σ H R xs) (k : ∀ l vs H1, H l = none → Ex H H1 → H1 l = some (.tup vs) → Rs R H1 vs xs → D.nx (σ.set i (some (.ref l))) H1) : tAsg te (gName i) D σ H := h H (Ex.refl H) _ k
end

/-! ### a comprehension over range(n) whose items are drawn -/
def drawN {α : Type} (f : Int × Int → α × (Int × Int)) : Nat → Int × Int → List α × (Int × Int)
  | 0, s => ([], s)
  | i + 1, s => ((drawN f i s).1 ++ [(f (drawN f i s).2).1], (f (drawN f i s).2).2)
theorem drawN_len {α : Type} (f : Int × Int → α × (Int × Int)) (s : Int × Int) : ∀ n, (drawN f n s).1.length = n
  | 0 => rfl
  | n + 1 => by
    show ((drawN f n s).1 ++ [_]).length = _
    rw [List.length_append, drawN_len f s n]
    rfl
theorem drawN_pk {α : Type} {f : Int × Int → α × (Int × Int)} (hf : ∀ s, Pk s → Pk (f s).2) {s : Int × Int} (h : Pk s) : ∀ n, Pk (drawN f n s).2
  | 0 => h
  | n + 1 => hf _ (drawN_pk hf h n)
theorem drawN_all {α : Type} {f : Int × Int → α × (Int × Int)} {G : α → Prop} (hf : ∀ s, Pk s → Pk (f s).2 ∧ G (f s).1) {s : Int × Int} (h : Pk s) : ∀ n, ∀ x ∈ (drawN f n s).1, G x
  | 0 => fun x hx => by cases hx
  | n + 1 => fun x hx => by
    rcases List.mem_append.mp hx with hx | hx
    · exact drawN_all hf h n x hx
    · rw [List.mem_singleton.mp hx]
      exact (hf _ (drawN_pk (fun s hs => (hf s hs).1) h n)).2
/-- R speaks of its own object alone -/
def One {α : Type} (R : α → Addr → Hp → Prop) : Prop := ∀ x p H a, R x p H → p ≠ a → R x p (hide a H)
theorem ex_hide2 {p D : Addr} {H H' : Hp} (e : Ex (hide p H) H') : Ex (hide p (hide D H)) (hide p (hide D H')) := fun a o h => by
  obtain ⟨n1, h⟩ := hide_some h
  obtain ⟨n2, h⟩ := hide_some h
  rw [hide_ne n1, hide_ne n2]
  exact e a o (by rw [hide_ne n1]; exact h)
theorem lc_draw {α : Type} {R : α → Addr → Hp → Prop} (up : Up R) (one : One R) {f : Int × Int → α × (Int × Int)} (hf : ∀ s, Pk s → Pk (f s).2) {te : TE} {σ : L2.St} {us : List Nat} {j : Nat} {p : Addr} {s : Int × Int} {H0 H1 : Hp} {n : Nat} {Q : VK} (hk : Pk s) (hp : H1 p = some (pl s)) (hn : n ≤ 1000)
    (hw : ∀ x, wipe ((wipe σ us).set j (some x)) us = wipe σ us)
    (he : ∀ (i : Nat) (H : Hp) (s : Int × Int), Pk s → H p = some (pl s) → ∀ Q : VK, (∀ l H', H l = none → Ex (hide p H) H' → H' p = some (pl (f s).2) → R (f s).1 l H' → Q (.ref l) H') → te ((wipe σ us).set j (some (.int (i : Int)))) H Q)
    (hq : ∀ l vs H', H1 l = none → Ex (hide p H1) H' → H' p = some (pl (drawN f n s).2) → H' l = some (.lst vs) → Rs R (hide p H') vs (drawN f n s).1 → Q (.ref l) H') : tLc (iHere (Itr 0 n) H1) (gName j) tYes te us σ H0 Q := fun D hD => by
  have npD : p ≠ D := fun z => by
    rw [z, hD] at hp
    cases hp
  refine lc_it (walk_range (lo := 0) (n := n)) (fun i H => ∃ vs, H D = some (.lst vs) ∧ H p = some (pl (drawN f i s).2) ∧ Ex (hide p H1) (hide p (hide D H)) ∧ Rs R (hide p (hide D H)) vs (drawN f i s).1) ⟨[], upd_same, ?_, ?_, .nil⟩ (fun _ _ _ _ => trivial) ?_ ?_
  · rw [upd_ne npD]
    exact hp
  · rw [hide_upd, hide_none hD]
    exact Ex.refl _
  · rintro i x H H' hi ⟨vs, hv, hp2, e, r⟩ ⟨rfl, rfl⟩
    have ez : (0 : Int) + (i : Int) = (i : Int) := Int.zero_add _
    show wipe ((wipe σ us).set j (some (.int ((0 : Int) + (i : Int))))) us = wipe σ us ∧ te ((wipe σ us).set j (some (.int ((0 : Int) + (i : Int))))) H' _
    rw [ez]
    refine ⟨hw _, he i H' _ (drawN_pk hf hk i) hp2 _ fun l H4 hl e4 hp4 rl => ?_⟩
    have nlD : l ≠ D := fun z => by
      rw [z, hv] at hl
      cases hl
    have nlp : l ≠ p := fun z => by
      rw [z, hp2] at hl
      cases hl
    have hv4 : H4 D = some (.lst vs) := e4 _ _ (by rw [hide_ne npD.symm]; exact hv)
    have el := r.len
    rw [drawN_len] at el
    refine ⟨vs, hv4, sz_lt (by omega), vs ++ [.ref l], upd_same, ?_, ?_, ?_⟩
    · rw [upd_ne npD]
      exact hp4
    · rw [hide_upd]
      exact e.trans (ex_hide2 e4)
    · rw [hide_upd]
      exact (r.ex up (ex_hide2 e4)).snoc (one _ _ _ _ (one _ _ _ _ rl nlD) nlp)
  · rintro H ⟨vs, hv, hp2, e, r⟩
    have e2 : Ex (hide p (hide D H)) (hide p H) := ex_hide hide_le
    exact hq D vs H hD ((e.trans e2).trans hide_le) hp2 hv (r.ex up e2)
theorem qp_asgDraw {α : Type} {R : α → Addr → Hp → Prop} (up : Up R) (one : One R) {f : Int × Int → α × (Int × Int)} (hf : ∀ s, Pk s → Pk (f s).2) {ta : TA} {te : TE} {tz : TS} {E : Ends} {σ : L2.St} {us : List Nat} {i j : Nat} {p : Addr} {s s1 : Int × Int} {G H : Hp} {n : Int} (K0 : Kn G p s H) (h : EvAP ta σ G p s [.int n] s1) (hk : Pk s1) (hn : 0 ≤ n ∧ n ≤ 1000)
    (hw : ∀ x, wipe ((wipe σ us).set j (some x)) us = wipe σ us)
    (he : ∀ (i : Nat) (H : Hp) (s : Int × Int), Pk s → H p = some (pl s) → ∀ Q : VK, (∀ l H', H l = none → Ex (hide p H) H' → H' p = some (pl (f s).2) → R (f s).1 l H' → Q (.ref l) H') → te ((wipe σ us).set j (some (.int (i : Int)))) H Q)
    (k : ∀ l vs H', l ≠ p → Ex (hide p H) H' → H' p = some (pl (drawN f n.toNat s1).2) → H' l = some (.lst vs) → Rs R (hide p H') vs (drawN f n.toNat s1).1 → tz E (σ.set i (some (.ref l))) H') : tSeq (tAsg (tLc (iRng1 ta) (gName j) tYes te us) (gName i)) tz E σ H :=
  h H K0 _ fun H1 e1 g1 => ⟨n, rfl, by omega, by omega, lc_draw (H0 := H1) (Q := fun v H' => tz E (σ.set i (some v)) H') up one hf hk g1 (by omega) hw he fun l vs H' hl e' hp' hl' r' => k l vs H' (fun z => by
    rw [z, g1] at hl
    cases hl) (hx_trans e1 e') hp' hl' r'⟩
section
variable {K : PySem.W.Frag} {σ : L2.St} {H : Hp} {te tl : TE}
/-- over a list that stands, the items fixed values -/
theorem elv_lc {a : Addr} {us xs : List V} {j : Nat} {ws : List Nat} (h : Ev tl σ H (.ref a)) (hx : SqL K H a us) (hn : us.length ≤ 40000) (hl : xs.length = us.length) (hw : ∀ x, wipe ((wipe σ ws).set j (some x)) ws = wipe σ ws)
    (he : ∀ (i : Nat) (u y : V) (H1 : Hp), Ex H H1 → us[i]? = some u → xs[i]? = some y → Ev te ((wipe σ ws).set j (some u)) H1 y) : EvL (tLc (iList K tl) (gName j) tYes te ws) σ H xs := fun H0 e Q q => h H0 e _ fun H1 e1 => ⟨a, rfl, ⟨us, ex_l (e.trans e1) hx⟩,
  lcVs (H0 := H1) (walk_list (K := K) (a := a) (xs := us)) (by omega) hl (fun H2 e2 => ex_l ((e.trans e1).trans e2) hx) (fun i y x H2 H3 hy e2 yy k hk => by
    obtain ⟨rfl, hu⟩ := yy
    exact hk _ _ (Ex.refl _) (hw _) (he i x y _ ((e.trans e1).trans e2) hu hy)) fun l H2 hl0 e2 h2 => q l H2 (fresh_back e1 hl0) (e1.trans e2) h2⟩
end
end Kz
namespace Kz
open PySem PySem.Spec PyProof.Rows L2 Evl StX
/-- an own def called somewhere below -/
theorem call_at {X : Cx} {CX : CXT} {f : Addr} {fd : FuncData} {ps : List Str} {n : Nat} {sp : Sp} {E : XK} (F : FnOk X.prog X.w X.K X.mg X.base CX n f fd ps sp) (hb : Binds X.K fd ps []) (hx : Passes CX X E) {A : Around} (sb : Sub X n A)
    {pins : List (Addr × Obj)} {s : Shared} {σ : L2.St} {H : Hp} {vs : List V} {us : List Value} {Q : VK} (I : Inv X pins σ H s) (r : Vals vs us) (h : sp vs H Q E) : wpAny (model X.prog X.w) A (call (.ref f) us) (EP X pins σ Q) X.xe s := by
  have e0 : Env0 X.prog X.w X.K X.mg X.base A X.stack s H := by
    have e := I.env0
    exact ⟨by rw [sb.fr]; exact e.frames, e.mod, e.bs, e.bsz, e.funs, e.frf, e.hok, e.bare⟩
  have b := hb s us I.kIn (by rw [List.append_nil, ← r.length]; exact F.len _ _ _ _ h)
  rw [List.append_nil] at b
  refine wpAny_call (codeAny_mono (F.run A X.stack s H ⟨us, []⟩ us vs Q E sb.room e0 b r h) fun z s' hq => ?_)
  match z, hq with
  | .error er, hq => exact hx pins σ H s er s' I hq
  | .ok (.ret u), hq => exact I.after hq
  | .ok .next, hq => exact hq.elim
  | .ok .brk, hq => exact hq.elim
  | .ok .cont, hq => exact hq.elim
theorem sub_here {X : Cx} {n : Nat} (hr : Room n X.A) : Sub X n X.A := ⟨hr, rfl⟩
/-! ### x & y, x | y by the own method of x -/
structure OpC (K : PySem.W.Frag) (nm : String) (C f : Addr) : Prop where
  fst : PySem.W.selfFirst K C = true
  find : PySem.W.findIn K (.ref C) (PySem.dunder nm) = some (some (.ref f))
  isf : PySem.W.isFn K (.ref f) = true
  rev : PySem.W.findIn K (.ref C) (dunderR nm) = some none
def rBinOwn (C C2 : Addr) (sp : Sp) (E : XK) : R2 := fun x y H Q => ∃ a b dx dy fs gs, x = .ref a ∧ y = .ref b ∧ H a = some (.ins C dx fs) ∧ H b = some (.ins C2 dy gs) ∧ sp [.ref a, .ref b] H (fun v H' => ∃ r, v = .ref r ∧ Q (.ref r) H') E
theorem back_ref {X : Cx} {pins : List (Addr × Obj)} {σ : L2.St} {Q : VK} {v : Value} {s : Shared} (h : EP X pins σ (fun v H' => ∃ r, v = .ref r ∧ Q (.ref r) H') v s) : PySem.W.CmpBack (EP X pins σ Q) v s := by
  obtain ⟨x, H', I, r, p, rfl, q⟩ := h
  cases (show v = Value.ref p from r)
  exact ⟨.ref p, H', I, rfl, q⟩
theorem bin_two {prog : Program} {w : World} {A : Around} {E : Value → Shared → Prop} {s : Shared} {K : PySem.W.Frag} {a b C C2 f f2 : Addr} {oa ob : Obj} {da db : Option Obj} {op : Operator} {Q : Value → Shared → Prop} (Z : K.In s.heap) (J : PySem.W.InstAt s.heap a oa C da) (J2 : PySem.W.InstAt s.heap b ob C2 db)
    (h1 : OpC K op.info.2 C f) (h2 : OpC K op.info.2 C2 f2) (ne : C ≠ C2) (hs : PySem.W.subIn K (.ref C2) (.ref C) = some false) (h : wpAny (model prog w) A (call (.ref f) [.ref a, .ref b]) (PySem.W.CmpBack Q) E s) : wpAny (model prog w) A (binaryOp op (.ref a) (.ref b)) Q E s := by
  obtain ⟨c1, t1, k1, m1⟩ := PySem.W.ksp_first h1.fst
  obtain ⟨c2, t2, k2, m2⟩ := PySem.W.ksp_first h2.fst
  obtain ⟨_, g1, g2, g3⟩ := h1
  obtain ⟨_, u1, u2, u3⟩ := h2
  rcases hi : op.info with ⟨sym, nm⟩
  rw [hi] at g1 g3 u1 u3
  dsimp only at g1 g3 u1 u3
  have one := PySem.W.ksp_try Z J g1 g2 h
  obtain ⟨hh, g, d, tt, os⟩ := s
  have L1 : PySem.W.Looks (model prog w) hh (typeOf (.ref a)) (.ref C) := J.type
  have L2 : PySem.W.Looks (model prog w) hh (typeOf (.ref b)) (.ref C2) := J2.type
  have L3 : PySem.W.Looks (model prog w) hh (fillsNumberSlot (.ref C) nm) true := PySem.W.fills_K Z k1 m1 g1
  have L4 : PySem.W.Looks (model prog w) hh (fillsNumberSlot (.ref C2) nm) true := PySem.W.fills_K Z k2 m2 u1
  have L5 : PySem.W.Looks (model prog w) hh (isSubtype (.ref C2) (.ref C)) false := PySem.W.looks_subIn Z hs
  have L6 : PySem.W.Looks (model prog w) hh (numberSlotInPython (.ref C) nm) true := PySem.W.ksp_inPy Z g1 g3 (.inl rfl)
  have L7 : PySem.W.Looks (model prog w) hh (numberSlotInPython (.ref C2) nm) true := PySem.W.ksp_inPy Z u1 u3 (.inl rfl)
  have hne : (Value.ref C == Value.ref C2) = false := Bool.eq_false_iff.mpr fun q => ne (by cases beq_iff_eq.mp q; rfl)
  simp only [binaryOp, hi]
  refine wpAny_holding (wpAny_bind ?_)
  unfold binaryOp1
  refine wpAny_bind (L1.at (wpAny_bind (L2.at (wpAny_bind (L3.at ?_)))))
  simp only [hne, Bool.false_eq_true, if_false]
  ksp_lk
  refine wpAny_mono one (fun r s' z => ?_) fun _ _ e => e
  obtain ⟨v, rfl, hq⟩ := z
  ksp_lk
  exact hq
theorem op_binOwn {X : Cx} {CX : CXT} {op : Operator} {C C2 f f2 : Addr} {fd : FuncData} {ps : List Str} {k : Nat} {sp : Sp} {E : XK} (h1 : OpC X.K op.info.2 C f) (h2 : OpC X.K op.info.2 C2 f2) (hs : C = C2 ∨ PySem.W.subIn X.K (.ref C2) (.ref C) = some false)
    (F : FnOk X.prog X.w X.K X.mg X.base CX k f fd ps sp) (hr : Room k X.A) (hb : Binds X.K fd ps []) (hx : Passes CX X E) : OpR X (binaryOp op) (rBinOwn C C2 sp E) := by
  intro pins s σ H x y v u Q I rx ry h
  obtain ⟨a, b, dx, dy, fs, gs, rfl, rfl, ha, hb2, hsp⟩ := h
  cases (show v = Value.ref a from rx)
  cases (show u = Value.ref b from ry)
  obtain ⟨mA, J, _⟩ := ins_get I.hok ha
  obtain ⟨oa, J, _⟩ := J.look
  obtain ⟨mB, J2, _⟩ := ins_get I.hok hb2
  obtain ⟨ob, J2, _⟩ := J2.look
  have one := wpAny_mono (call_at F hb hx (sub_here hr) I (us := [.ref a, .ref b]) (.cons (show RelV (.ref a) (Value.ref a) from rfl) (.cons (show RelV (.ref b) (Value.ref b) from rfl) .nil)) hsp) (fun _ _ z => back_ref z) fun _ _ z => z
  by_cases ne : C = C2
  · subst ne
    obtain ⟨m, fr⟩ := I.fr
    exact PySem.W.binop_K fr I.ok.mod.kin J J2.type h1.fst h1.find h1.isf one
  · exact bin_two I.kIn J J2 h1 h2 ne (hs.resolve_left ne) one
/-! ### x == y by the own __eq__ of x -/
structure EqC (K : PySem.W.Frag) (C f : Addr) : Prop where
  find : PySem.W.findIn K (.ref C) "__eq__" = some (some (.ref f))
  isf : PySem.W.isFn K (.ref f) = true
def rEqOwn (K : PySem.W.Frag) (C : Addr) (sp : Sp) (E : XK) : R2 := fun x y H Q => ∃ a dx fs, x = .ref a ∧ H a = some (.ins C dx fs) ∧
  ((∃ b C2 dy gs, y = .ref b ∧ H b = some (.ins C2 dy gs) ∧ PySem.W.notFirst K C (.ref C2) = true) ∨ ∃ z, y = .str z ∧ PySem.W.notFirst K C (.type "str") = true) ∧ sp [.ref a, y] H (fun v H' => ∃ b, v = .bl b ∧ Q (.bl b) H') E
theorem back_bl {X : Cx} {pins : List (Addr × Obj)} {σ : L2.St} {Q : VK} {v : Value} {s : Shared} (h : EP X pins σ (fun v H' => ∃ b, v = .bl b ∧ Q (.bl b) H') v s) : PySem.W.CmpBack (EP X pins σ Q) v s := by
  obtain ⟨x, H', I, r, p, rfl, q⟩ := h
  cases (show v = Value.bool p from r)
  exact ⟨.bl p, H', I, rfl, q⟩
theorem op_eqOwn {X : Cx} {CX : CXT} {C f : Addr} {fd : FuncData} {ps : List Str} {k : Nat} {sp : Sp} {E : XK} (h1 : EqC X.K C f) (F : FnOk X.prog X.w X.K X.mg X.base CX k f fd ps sp) (hr : Room k X.A) (hb : Binds X.K fd ps []) (hx : Passes CX X E) : OpR X (compareOp .Eq) (rEqOwn X.K C sp E) := by
  intro pins s σ H x y v u Q I rx ry h
  obtain ⟨a, dx, fs, rfl, ha, hy, hsp⟩ := h
  cases (show v = Value.ref a from rx)
  obtain ⟨mA, J, _⟩ := ins_get I.hok ha
  obtain ⟨oa, J, _⟩ := J.look
  obtain ⟨m, fr⟩ := I.fr
  have one := wpAny_mono (call_at F hb hx (sub_here hr) I (us := [.ref a, u]) (.cons (show RelV (.ref a) (Value.ref a) from rfl) (.cons ry .nil)) hsp) (fun _ _ z => back_bl z) fun _ _ z => z
  show wpAny _ _ (richCompare .Eq (.ref a) u) _ _ s
  rcases hy with ⟨b, C2, dy, gs, rfl, hb2, nf⟩ | ⟨z, rfl, nf⟩
  · cases (show u = Value.ref b from ry)
    obtain ⟨mB, J2, _⟩ := ins_get I.hok hb2
    obtain ⟨ob, J2, _⟩ := J2.look
    exact PySem.W.cmp_K (op := .Eq) hr.units0 fr I.ok.mod.kin J J2.type nf h1.find h1.isf one
  · obtain ⟨t, rfl⟩ := ry
    exact PySem.W.cmp_K (op := .Eq) (tb := .type "str") hr.units0 fr I.ok.mod.kin J (PySem.W.Looks.of_pure rfl) nf h1.find h1.isf one
/-! ### str(x) and {x} by the own __str__ of x -/
structure StC (K : PySem.W.Frag) (C f : Addr) : Prop where
  find : PySem.W.findIn K (.ref C) "__str__" = some (some (.ref f))
  isf : PySem.W.isFn K (.ref f) = true
def rStrOwn (C : Addr) (sp : Sp) (E : XK) : List V → Hp → VK → Prop := fun xs H Q => ∃ a dx fs, xs = [.ref a] ∧ H a = some (.ins C dx fs) ∧ sp [.ref a] H (fun v H' => ∃ z, v = .str z ∧ Q (.str z) H') E
theorem back_str {X : Cx} {pins : List (Addr × Obj)} {σ : L2.St} {Q : VK} {v : Value} {s : Shared} (h : EP X pins σ (fun v H' => ∃ z, v = .str z ∧ Q (.str z) H') v s) : PySem.W.StrBack (EP X pins σ Q) v s := by
  obtain ⟨x, H', I, r, p, rfl, q⟩ := h
  obtain ⟨t, rfl⟩ := r
  exact ⟨.str p, H', I, ⟨t, rfl⟩, q⟩
theorem call_strOwn {X : Cx} {CX : CXT} {C f : Addr} {fd : FuncData} {ps : List Str} {k : Nat} {sp : Sp} {E : XK} (h1 : StC X.K C f) (F : FnOk X.prog X.w X.K X.mg X.base CX k f fd ps sp) (hr : Room (k + 2) X.A) (hb : Binds X.K fd ps []) (hx : Passes CX X E) : CallR X (.type "str") (rStrOwn C sp E) := by
  intro pins s σ H xs us Q I r h
  obtain ⟨a, dx, fs, rfl, ha, hsp⟩ := h
  obtain ⟨u, rfl, rx⟩ := vals1 r
  cases (show u = Value.ref a from rx)
  obtain ⟨mA, J, _⟩ := ins_get I.hok ha
  obtain ⟨oa, J, _⟩ := J.look
  have sb : Sub X k X.A.in1.in1 := (sub_here hr).in1.in1
  exact PySem.W.kso_call sb.room.units0 I.kIn J h1.find h1.isf (wpAny_mono (call_at F hb hx sb I (us := [.ref a]) (.cons (show RelV (.ref a) (Value.ref a) from rfl) .nil) hsp) (fun _ _ z => back_str z) fun _ _ z => z)
def tFmtOwn (C : Addr) (sp : Sp) (E : XK) (te : TE) : TE := fun σ H Q => te σ H fun x H1 => rStrOwn C sp E [x] H1 Q
structure FmC (K : PySem.W.Frag) (C f : Addr) : Prop where
  str : StC K C f
  fmt : PySem.W.findIn K (.ref C) "__format__" = some (some (.builtin "object.__format__"))
  obj : PySem.W.mroIn K C (.type "object") = some true
theorem pe_fmtOwn {X : Cx} {CX : CXT} {C f : Addr} {fd : FuncData} {ps : List Str} {k : Nat} {sp : Sp} {E : XK} {e : Expr} {te : TE} {pos : Pos} (h1 : FmC X.K C f) (F : FnOk X.prog X.w X.K X.mg X.base CX k f fd ps sp) (hr : Room (k + 1) X.A) (hb : Binds X.K fd ps []) (hx : Passes CX X E) (he : PE X e te) :
    PE X (.FormattedValue e (-1) none pos) (tFmtOwn C sp E te) := by
  refine ⟨fun pins s σ H Q I0 h0 => ?_⟩
  refine wpAny_FormattedValue_plain (thn (he.run pins s σ H _ I0 h0) fun v s1 hv => ?_)
  obtain ⟨x, H1, I, r1, a, dx, fs, hxs, ha, hsp⟩ := hv
  cases hxs
  cases (show v = Value.ref a from r1)
  have I2 : Inv X pins σ H1 { s1 with toks := s1.toks + 1 } := I.tok _
  obtain ⟨mA, J, _⟩ := ins_get I.hok ha
  obtain ⟨oa, J, _⟩ := J.look
  have sb : Sub X k X.A.in1 := (sub_here hr).in1
  exact PySem.W.kfo_fieldS sb.room.units0 I.kIn J h1.fmt h1.obj h1.str.find h1.str.isf (wpAny_mono (call_at F hb hx sb I2 (us := [.ref a]) (.cons (show RelV (.ref a) (Value.ref a) from rfl) .nil) hsp) (fun _ _ z => back_str z) fun _ _ z => z)
/-- one of two rules, by what stands there -/
def tAlt (t u : TE) : TE := fun σ H Q => t σ H Q ∨ u σ H Q
theorem pe_alt {X : Cx} {e : Expr} {t u : TE} (h1 : PE X e t) (h2 : PE X e u) : PE X e (tAlt t u) := ⟨fun pins s σ H Q I h => h.elim (h1.run pins s σ H Q I) (h2.run pins s σ H Q I)⟩
def tAltT (t u : TT) : TT := fun σ H Q => t σ H Q ∨ u σ H Q
theorem pt_alt {X : Cx} {e : Expr} {t u : TT} (h1 : PT X e t) (h2 : PT X e u) : PT X e (tAltT t u) := ⟨fun pins s σ H Q I h => h.elim (h1.run pins s σ H Q I) (h2.run pins s σ H Q I)⟩
theorem et_alt3 {a b c : TE} {σ : L2.St} {H : Hp} {k : Bool} (h : Ev (tAlt a (tAlt b c)) σ H (.bl k)) : EvT (tAltT (tTest a) (tAltT (tTest b) (tTest c))) σ H k := fun H1 e Q q =>
  h H1 e (fun v H2 => ∃ k, v = .bl k ∧ Q k H2) fun H2 e2 => ⟨k, rfl, q H2 e2⟩
/-- s.join(e) within a comprehension -/
theorem pe_joinK {X : Cx} {o e : Expr} {to te : TE} (K : PySem.W.Frag) (eK : X.K = K) {apos pos : Pos} (ho : PE X o to) (he : PE X e te) (hs : starEach [e] X.env = [(false, eval e X.env)] := by rfl) (hbase : attributeBase o "join" X.env (eval o X.env) = eval o X.env := by rfl) (hline : (apos.endLine == pos.line) = true := by rfl) :
    PE X (.Call (.Attribute o "join" apos) [e] [] pos) (tM1 (fun x xs H Q => ∃ a p, ∃ ys : List Str, x = .str a ∧ xs = [.ref p] ∧ (SqL K H p (ys.map V.str) ∨ SqT K H p (ys.map V.str)) ∧
      (ys.map (·.length)).sum + ys.length * a.length ≤ 16777216 ∧ Q (.str (Txt.join a ys)) H) to te) := eK ▸ pe_join ho he hs hbase hline
/-! ### the defs of such classes, as the terms name them -/
section
variable (P : Program) (w : World) (K : PySem.W.Frag) (mg : Str → Option Value) (base : Heap)
def DfO (nm : String) (C : Addr) (ps : List Str) (k : Nat) (sp : Sp) : Prop := ∃ (f : Addr) (fd : FuncData), OpC K nm C f ∧ Binds K fd ps [] ∧ FnOk P w K mg base (L2.CX P w) k f fd ps sp
def DfEq (C : Addr) (ps : List Str) (k : Nat) (sp : Sp) : Prop := ∃ (f : Addr) (fd : FuncData), EqC K C f ∧ Binds K fd ps [] ∧ FnOk P w K mg base CX0 k f fd ps sp
def DfSt (C : Addr) (ps : List Str) (k : Nat) (sp : Sp) : Prop := ∃ (f : Addr) (fd : FuncData), FmC K C f ∧ Binds K fd ps [] ∧ FnOk P w K mg base CX0 k f fd ps sp
/-- an own class whose __init__ may raise -/
def DfIX (x : Str) (C : Addr) (ps : List Str) (k : Nat) (sp : Sp) : Prop := ∃ (f : Addr) (fd : FuncData), Mk K C f ∧ mg x = some (.ref C) ∧ Binds K fd ps [] ∧ FnOk P w K mg base (L2.CX P w) k f fd ps sp
end
section
variable {X : Cx} {C C2 : Addr} {ps ps2 : List Str} {k k2 : Nat} {sp sp2 : Sp} {E : XK}
theorem op_dfO {op : Operator} {nm : String} (D : DfO X.prog X.w X.K X.mg X.base nm C ps k sp) (D2 : DfO X.prog X.w X.K X.mg X.base nm C2 ps2 k2 sp2) (hs : C = C2 ∨ PySem.W.subIn X.K (.ref C2) (.ref C) = some false) (hr : Room k X.A) (tk : Takes X (fun cls d _ H => E cls d H)) (he : op.info.2 = nm := by rfl) :
    OpR X (binaryOp op) (rBinOwn C C2 sp E) := by
  subst he
  obtain ⟨f, fd, h1, hb, F⟩ := D
  obtain ⟨f2, fd2, h2, _, _⟩ := D2
  exact op_binOwn h1 h2 hs F hr hb (passes_call tk fun _ _ _ _ h => h)
theorem op_eq_df (D : DfEq X.prog X.w X.K X.mg X.base C ps k sp) (hr : Room k X.A) : OpR X (compareOp .Eq) (rEqOwn X.K C sp E0) := by
  obtain ⟨f, fd, h1, hb, F⟩ := D
  exact op_eqOwn h1 F hr hb pass0
theorem call_str_df (D : DfSt X.prog X.w X.K X.mg X.base C ps k sp) (hr : Room (k + 2) X.A) : CallR X (.type "str") (rStrOwn C sp E0) := by
  obtain ⟨f, fd, h1, hb, F⟩ := D
  exact call_strOwn h1.str F hr hb pass0
theorem pe_fmt_df {e : Expr} {te : TE} {pos : Pos} (D : DfSt X.prog X.w X.K X.mg X.base C ps k sp) (hr : Room (k + 1) X.A) (he : PE X e te) : PE X (.FormattedValue e (-1) none pos) (tFmtOwn C sp E0 te) := by
  obtain ⟨f, fd, h1, hb, F⟩ := D
  exact pe_fmtOwn h1 F hr hb pass0 he
theorem pe_mkIX {x : Str} {p pos : Pos} {e : Expr} {es : List Expr} {t : TA} (D : DfIX X.prog X.w X.K X.mg X.base x C ps k sp) (hr : Room (k + 1) X.A) (hg : Gl X x) (tk : Takes X (fun cls d _ H => E cls d H)) (ha : PA X (e :: es) t) (hdb : (x == ("__debug__" : Str)) = false := by decide)
    (he : starEach (e :: es) X.env = (false, eval e X.env) :: starEach es X.env := by rfl) (hpl : (backTo pos (starEach es X.env)).any (·.1) = false := by rfl) : PE X (.Call (.Name x p) (e :: es) [] pos) (tMake C sp [] E t) := by
  obtain ⟨f, fd, M, hm, hb, F⟩ := D
  exact pe_make M F hr hg hm hb .nil (passes_call tk fun _ _ _ _ h => h) ha hdb he hpl
end
end Kz
namespace Kz
open PySem PySem.Spec PyProof.Rows L2 StX
/-! ### C(e, ..), its context None -/
theorem pmkN {X : Cx} {CX : CXT} {ds : List Value} {dvs : List V} {x : Str} {C fI : Addr} {k : Nat} {fd : FuncData} {ps : List Str} {sp : Sp} {e : Expr} {es : List Expr} {ta : TA} {p pos : Pos} (T : OexC X.K C) (iC : PySem.W.findIn X.K (.ref C) "__init__" = some (some (.ref fI))) (tI : PySem.W.typeIn X.K (.ref fI) = some (.type "function"))
    (F1 : FnOk X.prog X.w X.K X.mg X.base CX k fI fd ps sp) (hr : Room (k + 1) X.A) (hb : Binds X.K fd ps ds) (hd : Vals dvs ds) (hx : Passes CX X (fun _ _ _ => False)) (hg : Gl X x) (hm : X.mg x = some (.ref C)) (ha : PA X (e :: es) ta)
    (hdb : (x == ("__debug__" : Str)) = false := by decide) (he : starEach (e :: es) X.env = (false, eval e X.env) :: starEach es X.env := by rfl) (hpl : (backTo pos (starEach es X.env)).any (·.1) = false := by rfl) :
    L2N.PMk X (.Call (.Name x p) (e :: es) [] pos) (tMkO C sp dvs ta) := by
  intro pn st sl Hp0 QX I hh
  obtain ⟨nm, qn, Nn, bb, bm, sn, su, ab, co, dd, m0, m1, m2, m3, m5, hC, hbm⟩ := T.cls
  refine wpAny_Call_Name_kw (ld_glob I hg hm ?_ hdb)
  refine PySem.W.callWith_K (h₀ := X.base) I.ok.mod.kin T.kC (thn (ha.run pos pn st sl Hp0 _ I hh) fun us s1 hv => ?_) he hpl
  obtain ⟨vs, H1, I1, r1, hz, q1⟩ := hv
  refine ⟨I1.kIn, ?_⟩
  show wpAny _ _ (call (.ref C) us) _ _ _
  obtain ⟨hp, gg, dr, tk, os⟩ := s1
  have z1 : hp.objs.size ≤ hp.objs.size + 1 := Nat.le_succ _
  have hn : H1 (hp.objs.size + 1) = none := I1.hok.fresh z1
  have hq := q1 (hp.objs.size + 1) hn
  have keep : ∀ b o, hp.get? b = some o → ((hp.push (PySem.W.kdv_tup us)).push (PySem.HandSPX.excO C hp.objs.size)).get? b = some o := fun b o z => Heap.get?_push_of_some _ (Heap.get?_push_of_some _ z)
  have there : ((hp.push (PySem.W.kdv_tup us)).push (PySem.HandSPX.excO C hp.objs.size)).get? (hp.objs.size + 1) = some (PySem.HandSPX.excO C hp.objs.size) := by heap_get
  have J := I1.laid (t' := tk) (a := hp.objs.size + 1) (o := exo (hp.objs.size + 1) C none) (h' := (hp.push (PySem.W.kdv_tup us)).push (PySem.HandSPX.excO C hp.objs.size)) keep z1 (exo_ok there)
  have rr : Vals (V.ref (hp.objs.size + 1) :: (vs ++ dvs)) (Value.ref (hp.objs.size + 1) :: (us ++ ds)) := .cons rfl (r1.append hd)
  have ll : (Value.ref (hp.objs.size + 1) :: us ++ ds).length = ps.length := by
    have z := rr.length
    rw [F1.len _ _ _ _ hq] at z
    exact z.symm
  refine wpAny_call (PySem.HandSPX.call_own F.excBase_ValueError (fun Y => PySem.HandSPX.refsVE_contains Y bm hbm) (I1.kIn _ _ hC) (PySem.W.looks_findIn I1.kIn iC) (fun self => PySem.W.bind_fn I1.kIn self tI) (by rw [← Paired.length r1, sizeLine_eq]; omega)
    (codeAny_mono (F1.run _ X.stack _ _ ⟨Value.ref (hp.objs.size + 1) :: us, []⟩ (Value.ref (hp.objs.size + 1) :: (us ++ ds)) _ _ (fun _ _ _ => False) (hr.make C us []) (J.env0.make C us []) (hb _ (Value.ref (hp.objs.size + 1) :: us) J.kIn ll) rr hq) fun z s' hz' => ?_))
  match z, hz' with
  | .error er, w' => exact hx pn sl _ _ er s' J w'
  | .ok .next, w' => exact False.elim w'
  | .ok .brk, w' => exact False.elim w'
  | .ok .cont, w' => exact False.elim w'
  | .ok (.ret u), w' =>
    obtain ⟨v, H2, os2, bare2, un2, hok2, rv, ev, d, fs, ea, ed, hd1, q2⟩ := w'
    subst ev
    obtain ⟨h2, g2, d2, t2, os'⟩ := s'
    obtain ⟨t0, G, J2, kG, ge, hoe, na⟩ := mk_end0 (d2 := d2) (t2 := t2) I1 z1 keep un2 hok2 os2 bare2 ea ed hd1
    exact ⟨rv, hp.objs.size + 1, _, _, ⟨G, g2, d2, t2, os'⟩, _, .ref C, some d, rfl, J2, kG, ge, hoe, ⟨rfl, rfl, fun ws hw => by cases hw; rfl⟩, rfl, rfl, na, rfl, bare2, raises_own T.exC T.tyC, q2⟩
/-- a caller's word of such an exception, over a heap with more in it -/
theorem cxUpN {P : Program} {w : World} : CXUp (L2N.CX P w) := by
  intro out s H s2 H2 E e s' un kp ho hc
  obtain ⟨a, B, H', c, d, ea, fl, hok, ub, na, os, ag, he⟩ := hc
  have nx : ∀ b : Addr, b ∉ ([] : List Addr) := by simp
  refine ⟨a, B, H', c, d, ea, fl, hok, ?_, na, os.trans ho, ag, he⟩
  constructor
  case keep => exact fun b o q n hb => ub.keep b o (kp b o q) (un.free b o q n (nx b)) hb
  case slot => exact fun b o q hb => ub.slot b o (kp b o q) hb
  case free => exact fun b o q n => ub.free b o (kp b o q) (un.free b o q n (nx b))
  case there => exact fun b o q hb => ub.there b o (kp b o q) hb
  case tups => exact fun b xs q => ub.tups b xs (un.tups b xs q)
  case frzs => exact fun b o xs q => ub.frzs b o xs (un.frzs b o xs q)
  case tbls =>
    intro b ps q
    obtain ⟨more1, e1⟩ := un.tbls b ps q
    obtain ⟨more2, e2⟩ := ub.tbls b _ e1
    exact ⟨more1 ++ more2, by rw [e2, Array.append_assoc]⟩
theorem takesN {X : Cx} {W : WX} (tk : L2.Takes X W) : L2N.Takes X W := fun u s' ⟨a, B, sI, pins, σ, H, cls, d, e, I, nb, up, sky, na, os, ag, w⟩ =>
  tk u s' ⟨a, B, sI, pins, σ, H, cls, d, e, I, nb, up, by
    rcases sky with ⟨k1, k2, k3, oe, vs, k4, k5, k6, k7⟩ | fl | ⟨k1, k2, k3, k4⟩
    · exact .inl ⟨k1, k2, k3, oe, vs, k4, k5.zc, k6, k7⟩
    · exact .inr (.inl (L2H.flyingZ_imp (fun o z => z.zc) fl))
    · exact .inr (.inr ⟨k1, k2, k3, L2H.tracedZ_imp (fun o z => z.zc) k4⟩), na, os, ag, w⟩
/-! ### an object made, the wish told at the slots -/
theorem run_makeS {X : Cx} {CX : CXT} {k : Nat} {f C : Addr} {sp : Sp} {E : XK} {pins : List (Addr × Obj)} {σ : L2.St} {H : Hp} {s : Shared} {Q : VK} {us : List Value} {vs : List V} (M : Mk X.K C f) (F : FnR X.prog X.w X.K X.mg X.base CX k f sp) (hr : Room (k + 1) X.A) (hx : PassesAt CX X σ E) (I : Inv X pins σ H s) (r : Vals vs us)
    (h : ∀ x dx, H x = none → H dx = none → dx ≠ x → sp (V.ref x :: vs) (upd (upd H dx (.own x)) x (.ins C dx [])) (fun v H2 => v = .non ∧ Q (.ref x) H2) E) : wpAny (model X.prog X.w) X.A (call (.ref C) us) (EP X pins σ Q) X.xe s := by
  have J := Inv.made (C := C) I
  have rr : Vals (V.ref (s.heap.objs.size + 1) :: vs) (Value.ref (s.heap.objs.size + 1) :: us) := .cons rfl r
  have hh := h (s.heap.objs.size + 1) s.heap.objs.size (I.hok.fresh (Nat.le_succ _)) (I.hok.fresh (Nat.le_refl _)) (Nat.ne_of_lt (Nat.lt_succ_self _))
  refine wpAny_call (make_map (f := f) I.kIn M.makes M.init (beq_iff_eq.mp M.fn) (codeAny_mono (F _ X.stack _ _ (Value.ref (s.heap.objs.size + 1) :: us) _ _ E (hr.make C us []) (J.env0.make C us []) rr hh) fun z s' hz => ?_))
  match z, hz with
  | .error er, hz => exact hx pins _ _ er s' J hz
  | .ok .next, hz => exact hz.elim
  | .ok .brk, hz => exact hz.elim
  | .ok .cont, hz => exact hz.elim
  | .ok (.ret u), hz =>
    obtain ⟨v, H', I3, rv, ev, q3⟩ := J.after hz
    subst ev
    exact ⟨rv, ⟨V.ref (s.heap.objs.size + 1), H', I3, rfl, q3⟩⟩
def tMakeS (C : Addr) (sp : Sp) (W : WX) (t : TA) : TE := fun σ H Q => tMakeR C sp (WE W σ) t σ H Q
section
variable {X : Cx} {CX : CXT} {k : Nat} {f C : Addr} {sp : Sp} {W : WX} {x : Str} {e : Expr} {es : List Expr} {te : TE} {t : TA} {p sp_ pos : Pos}
theorem pe_makeS (M : Mk X.K C f) (F : FnR X.prog X.w X.K X.mg X.base CX k f sp) (hr : Room (k + 1) X.A) (hg : Gl X x) (hm : X.mg x = some (.ref C)) (hx : ∀ σ, PassesAt CX X σ (WE W σ)) (ha : PA X (e :: es) t) (hdb : (x == ("__debug__" : Str)) = false := by decide)
    (he : starEach (e :: es) X.env = (false, eval e X.env) :: starEach es X.env := by rfl) (hpl : (backTo pos (starEach es X.env)).any (·.1) = false := by rfl) : PE X (.Call (.Name x p) (e :: es) [] pos) (tMakeS C sp W t) := by
  constructor
  intro pins s σ H Q I h
  refine wpAny_Call_Name_kw (ld_glob I hg hm ?_ hdb)
  refine PySem.W.callWith_K (h₀ := X.base) I.ok.mod.kin M.kp (thn (ha.run pos pins s σ H _ I h) fun us s1 hv => ?_) he hpl
  obtain ⟨vs, H1, I1, r, q⟩ := hv
  exact ⟨I1.kIn, run_makeS M F hr (hx σ) I1 r q⟩
theorem pe_makeS1 (M : Mk X.K C f) (F : FnR X.prog X.w X.K X.mg X.base CX k f sp) (hr : Room (k + 1) X.A) (hg : Gl X x) (hm : X.mg x = some (.ref C)) (hx : ∀ σ, PassesAt CX X σ (WE W σ)) (he : PE X e te) (hdb : (x == ("__debug__" : Str)) = false := by decide)
    (hst : starEach [.Starred e sp_] X.env = [(true, eval e X.env)] := by rfl) : PE X (.Call (.Name x p) [.Starred e sp_] [] pos) (tMakeS C sp W (tStar X.K te tNil)) := by
  constructor
  intro pins s σ H Q I h
  refine wpAny_Call_Name_kw (ld_glob I hg hm ?_ hdb)
  refine PySem.W.callWith_S (h₀ := X.base) I.ok.mod.kin M.kp (thn (he.run pins s σ H _ I h) fun v s1 hv => ?_) hst
  obtain ⟨y, H1, I1, ry, a, xs, ey, hxs, q⟩ := hv
  subst ey
  obtain rfl : v = Value.ref a := ry
  refine star_any I1 hxs fun us s2 I2 rv => ⟨I2.kIn, run_makeS M F hr (hx σ) I2 rv ?_⟩
  simp only [tNil, List.append_nil] at q
  exact q
end
/-! ### raise Y(..) from e, e the exception that is handled -/
/-- the heap behind «from c»: field 3 is c, field 4 is True -/
def fromH (h : Heap) (a c : Addr) : Heap := (h.update a (Obj.mapFields (·.setIfInBounds 3 (.ref c)))).update a (Obj.mapFields (·.setIfInBounds 4 (.bool true)))
theorem fromH_at {h : Heap} {a c : Addr} {oe : Obj} {vs : Array Value} (ha : h.get? a = some oe) (hd : oe.data = .fields vs) :
    (fromH h a c).get? a = some ((oe.mapFields (·.setIfInBounds 3 (.ref c))).mapFields (·.setIfInBounds 4 (.bool true))) ∧ ((oe.mapFields (·.setIfInBounds 3 (.ref c))).mapFields (·.setIfInBounds 4 (.bool true))).data = .fields ((vs.setIfInBounds 3 (.ref c)).setIfInBounds 4 (.bool true)) := by
  have d1 := Obj.data_mapFields hd (·.setIfInBounds 3 (.ref c))
  have d2 := Obj.data_mapFields d1 (·.setIfInBounds 4 (.bool true))
  refine ⟨?_, d2⟩
  unfold fromH
  exact Heap.get?_update_self _ (Heap.get?_update_self _ ha (Obj.isFreed_of_fields d1)) (Obj.isFreed_of_fields d2)
theorem fromH_ne {h : Heap} {a b c : Addr} (ne : a ≠ b) : (fromH h a c).get? b = h.get? b := (Heap.get?_update_other _ _ ne).trans (Heap.get?_update_other _ _ ne)
open L2H HotX in
theorem raise_made_from {prog : Program} {w : World} {A : Around} {E : Value → Shared → Prop} {env : Env} {s : Shared} {x c : Sem Value} {Q : Flow → Shared → Prop} {x1 : Addr}
    (h : wpAny (model prog w) A x (fun v s₁ => (∀ Q' : Value → Shared → Prop, Q' (.ref x1) s₁ → wpAny (model prog w) A c Q' E s₁) ∧ ∃ a oe vs cls o1 v1 cls1, v = .ref a ∧ s₁.heap.get? a = some oe ∧ oe.cls = cls ∧ oe.data = .fields vs ∧ vs[1]? = some .none ∧ 4 < vs.size ∧ x1 ≠ a ∧ HotAt A x1 s₁.heap ∧
      s₁.heap.get? x1 = some o1 ∧ o1.cls = cls1 ∧ o1.data = .fields v1 ∧ PySem.W.Looks (model prog w) s₁.heap (isSubtype cls1 (.type "BaseException")) true ∧
      PySem.W.Looks (model prog w) s₁.heap (isSubtype cls (.type "BaseException")) true ∧ PySem.W.Looks (model prog w) (fromH s₁.heap a x1) (typeOf cls) (.type "type") ∧
      E (.ref a) { s₁ with heap := (fromH s₁.heap a x1).update a (Obj.mapFields (·.setIfInBounds 2 (.ref x1))) }) E s) : wpAny (model prog w) A (raiseStmt env (some x) (some c)) Q E s := by
  unfold raiseStmt
  refine wpAny_bind (wpAny_mono h (fun v s1 hv => ?_) fun _ _ z => z)
  obtain ⟨hcs, a, oe, vs, cls, o1, v1, cls1, rfl, ha, hcl, hd, hv1, hi, ne, hot, hx1, hc1, hd1, B1, L1, L3, fin⟩ := hv
  have notype : ∀ {b : Addr} {o : Obj} {ws : Array Value} {t : Shared} {Q' : Bool → Shared → Prop}, t.heap.get? b = some o → o.data = .fields ws → Q' false t → wpAny (model prog w) A (isType (.ref b)) Q' E t := by
    intro b o ws t Q' hb hw hq
    simp only [isType, loadHead]
    refine wpAny_bind (wpAny_loadPart hb ?_)
    rw [hw]
    exact wpAny_pure hq
  have TA : PySem.W.Looks (model prog w) s1.heap (typeOf (.ref a)) cls := fun A Q E s k q => wpAny_typeOf_ref (k _ _ ha) (by rw [hcl]; exact q)
  have TX : PySem.W.Looks (model prog w) s1.heap (typeOf (.ref x1)) cls1 := fun A Q E s k q => wpAny_typeOf_ref (k _ _ hx1) (by rw [hc1]; exact q)
  have IA : PySem.W.Looks (model prog w) s1.heap (isInstance (.ref a) (.type "BaseException")) true := TA.andThen L1
  have IX : PySem.W.Looks (model prog w) s1.heap (isInstance (.ref x1) (.type "BaseException")) true := TX.andThen B1
  -- excFromValue of an exception
  have exv : ∀ {b : Addr} {o : Obj} {ws : Array Value} {m : String} {Q' : Value → Shared → Prop}, s1.heap.get? b = some o → o.data = .fields ws → PySem.W.Looks (model prog w) s1.heap (isInstance (.ref b) (.type "BaseException")) true → Q' (.ref b) s1 → wpAny (model prog w) A (excFromValue (.ref b) m) Q' E s1 := by
    intro b o ws m Q' hb hw L q
    unfold excFromValue isExcClass
    refine wpAny_bind (wpAny_bind (notype hb hw ?_))
    simp only [Bool.false_eq_true, if_false]
    refine wpAny_pure ?_
    simp only [Bool.false_eq_true, if_false]
    refine wpAny_bind (L.here ?_)
    simp only [if_true]
    exact wpAny_pure q
  obtain ⟨ha4, hd4⟩ := fromH_at (c := x1) ha hd
  have k3 := Obj.data_mapFields hd (·.setIfInBounds 3 (.ref x1))
  have ha3 := Heap.get?_update_self (Obj.mapFields (·.setIfInBounds 3 (.ref x1))) ha (Obj.isFreed_of_fields k3)
  have z3 : 3 < vs.size := by omega
  have z4 : 4 < (vs.setIfInBounds 3 (.ref x1)).size := by rw [set_size]; exact hi
  have z2 : 2 < ((vs.setIfInBounds 3 (.ref x1)).setIfInBounds 4 (.bool true)).size := by rw [set_size, set_size]; omega
  have one : ((vs.setIfInBounds 3 (.ref x1)).setIfInBounds 4 (.bool true))[1]? = some Value.none := set_other (by decide) (set_other (by decide) hv1)
  have cl4 : ((oe.mapFields (·.setIfInBounds 3 (.ref x1))).mapFields (·.setIfInBounds 4 (.bool true))).cls = cls := by rw [Obj.cls_mapFields, Obj.cls_mapFields]; exact hcl
  have TA4 : PySem.W.Looks (model prog w) (fromH s1.heap a x1) (typeOf (.ref a)) cls := fun A Q E s k q => wpAny_typeOf_ref (k _ _ ha4) (by rw [cl4]; exact q)
  have hot4 : HotAt A x1 (fromH s1.heap a x1) := by
    obtain ⟨q1, o, ws, q2, q3, q4⟩ := hot
    exact ⟨q1, o, ws, by rw [fromH_ne (Ne.symm ne)]; exact q2, q3, q4⟩
  have rest : wpAny (model prog w) A (do
      let b ← isType (.ref a)
      if b = true then do
        let e ← holding [.ref a] (raisedFor (.ref a) (.ref a))
        setFlight e none
        raiseNew e
      else do
        let e ← raisedInstance (.ref a)
        setFlight e none
        raiseNew e : Sem Flow) Q E { s1 with heap := fromH s1.heap a x1 } := by
    refine wpAny_bind (notype (t := { s1 with heap := fromH s1.heap a x1 }) ha4 hd4 ?_)
    simp only [Bool.false_eq_true, if_false]
    unfold raisedInstance
    refine wpAny_bind (wpAny_bind (TA4.here (wpAny_bind (L3.here ?_))))
    rw [if_pos (beq_self_eq_true _)]
    refine wpAny_pure ?_
    unfold setFlight
    refine wpAny_bind (wpAny_bind (wpAny_field ha4 hd4 one ?_))
    rw [if_neg (by decide)]
    exact wpAny_pure (raiseNew_hot hot4 ne ha4 hd4 z2 fin)
  refine wpAny_bind (wpAny_holding (hcs _ (wpAny_bind (wpAny_pure ?_))))
  dsimp only
  refine wpAny_bind (wpAny_holding (exv ha hd IA ?_))
  first
  | rw [if_neg (show ¬ ((Value.ref x1 == Value.none) = true) from by simp)]
  | simp only [show (Value.ref x1 == Value.none) = false from rfl, Bool.false_eq_true, if_false]
  first
  | refine wpAny_bind (wpAny_holding (exv hx1 hd1 IX (wpAny_bind (wpAny_setField ha hd z3 (wpAny_bind (wpAny_setField ha3 k3 z4 ?_))))))
  | refine wpAny_bind (wpAny_bind (wpAny_holding (exv hx1 hd1 IX (wpAny_bind (wpAny_setField ha hd z3 (wpAny_setField ha3 k3 z4 ?_))))))
  | refine wpAny_bind (wpAny_holding (exv hx1 hd1 IX (wpAny_bind (wpAny_bind (wpAny_setField ha hd z3 (wpAny_bind (wpAny_setField ha3 k3 z4 ?_)))))))
  first
  | exact rest
  | (dsimp only; exact rest)
  | (refine wpAny_pure ?_; exact rest)
  | (simp only [bind_pure_comp] ; exact rest)
/-- a local's value, the state as it is -/
def Here (X : Cx) (e : Expr) (i : Nat) : Prop := ∀ (pins : List (Addr × Obj)) (s : Shared) (σ : L2.St) (H : Hp) (a : Addr), Inv X pins σ H s → σ[i]? = some (some (.ref a)) → ∀ (Q : Value → Shared → Prop) (E : Value → Shared → Prop), Q (.ref a) s → wpAny (model X.prog X.w) X.A (eval e X.env) Q E s
theorem here_name {X : Cx} {i : Nat} {x : Str} {pos : Pos} (hN : X.N[i]? = some x) (hk : X.env.kindOf x = some .local) (hd : (x == ("__debug__" : Str)) = false := by decide) : Here X (.Name x pos) i := by
  intro pins s σ H a I hi Q E q
  obtain ⟨m, hn, hl⟩ := I.loc
  obtain ⟨u, r, l⟩ := hl i x _ hN hi (.inl hk)
  cases (show u = Value.ref a from r)
  rcases l with ⟨h1, hm⟩ | ⟨h1, _⟩
  · exact wpAny_Name (wpAny_loadName_local I.ok.kind h1 hn hm q) hd
  · rw [hk] at h1
    rcases h1 with h1 | h1 <;> cases h1
open L2H HotX in
theorem ps_raiseHF {X : Cx} {W : WX} {e ce : Expr} {t : L2.St → Hp → XK → Prop} {i : Nat} {p : Addr × Obj} {pos : Pos} {c1 : Value} (hot : Hot1 X.A p) (hp : p ∈ X.pn) (hc1 : p.2.cls = c1) (hr1 : Raises X c1) (tk : L2.Takes X W) (he : PMk5 X e t) (hce : Here X ce i) :
    PS X (.Raise (some e) (some ce) pos) (fun _ σ H => σ[i]? = some (some (.ref p.1)) ∧ t σ H fun cls d H' => W cls d σ H') := by
  refine ⟨fun pins s σ H D I h => ?_⟩
  obtain ⟨hi, h⟩ := h
  obtain ⟨hh, v1, e1, cc⟩ := hot
  show wpAny _ _ (do standAt pos; raiseStmt X.env (some (do let v ← eval e X.env; standAt pos; pure v)) (some (do let v ← eval ce X.env; standAt pos; pure v))) _ _ _
  refine wpAny_bind (wpAny_standAt (raise_made_from (x1 := p.1) (wpAny_bind (wpAny_mono (he pins s σ H _ I h) (fun u s1 hu => wpAny_bind (wpAny_standAt (wpAny_pure ?_))) fun _ _ z => z))))
  obtain ⟨⟨a, oe, vs, sI, H', cls, d, rfl, J, k, hne, ha, hz, hd, h1, na, os, ag, r, q⟩, h5⟩ := hu
  have h4 : 4 < vs.size := h5 a oe vs rfl ha hd
  have P1 := (J.pin p (List.mem_append_left _ hp)).1
  have nap : p.1 ≠ a := fun z => by
    rw [z, hne] at P1
    cases P1
  have k4 : ∀ b u, sI.heap.get? b = some u → (fromH s1.heap a p.1).get? b = some u := fun b u z => by
    rw [fromH_ne (fun y => by rw [← y, hne] at z; cases z)]
    exact k b u z
  obtain ⟨r1, _⟩ := r (model X.prog X.w) s1.heap (J.kIn.keeps k)
  obtain ⟨_, r2⟩ := r (model X.prog X.w) (fromH s1.heap a p.1) (J.kIn.keeps k4)
  obtain ⟨r3, _⟩ := hr1 (model X.prog X.w) s1.heap (J.kIn.keeps k)
  obtain ⟨ha4, hd4⟩ := fromH_at (c := p.1) ha hd
  have hd5 := Obj.data_mapFields hd4 (·.setIfInBounds 2 (Value.ref p.1))
  have g12 : (((vs.setIfInBounds 3 (.ref p.1)).setIfInBounds 4 (.bool true)).setIfInBounds 2 (Value.ref p.1))[1]? = some Value.none := set_other (by decide) (set_other (by decide) (set_other (by decide) h1))
  -- the local is read over the heap with the new exception in it
  have J1 : Inv X pins σ H' s1 := J.call' (ch := []) os (Un.kept k) (J.hok.kept k) ag (fun b z => absurd z (by simp))
  refine ⟨fun Q' q' => wpAny_bind (hce pins s1 σ H' p.1 J1 hi _ _ (wpAny_bind (wpAny_standAt (wpAny_pure q')))), a, oe, vs, cls, p.2, v1, c1, rfl, ha, hz.1, hd, h1, h4, nap, ⟨hh, p.2, v1, k _ _ P1, e1, cc⟩, k _ _ P1, hc1, e1, r3, r1, r2, tk _ _ (XE.new J (fun b u z => ?_) hne (Heap.get?_update_self _ ha4 (Obj.isFreed_of_fields hd5)) ⟨?_, ?_⟩ hd5 g12 na os ag q)⟩
  · show ((fromH s1.heap a p.1).update a (Obj.mapFields (·.setIfInBounds 2 (.ref p.1)))).get? b = some u
    rw [Heap.get?_update_other _ _ (fun y => by rw [← y, hne] at z; cases z)]
    exact k4 b u z
  · rw [Obj.cls_mapFields, Obj.cls_mapFields, Obj.cls_mapFields]
    exact hz.1
  · rw [HandSPX.dict_mapFields, HandSPX.dict_mapFields, HandSPX.dict_mapFields]
    exact hz.2.1
/-! ### except x as n, a suite that raises: n goes, the new exception leaves the def -/
theorem frames_any {h h' B : Heap} (k : ∀ b o, h.get? b = some o → (∀ ws, o.data ≠ .fields ws) → ∃ o', h'.get? b = some o' ∧ ∀ ws, o'.data ≠ .fields ws) : ∀ {l : List Env}, h.FunFrames B l → h'.FunFrames B l
  | [], _ => trivial
  | env :: l, z => by
    obtain ⟨z1, ⟨L, o, z2, z3, z4, z5⟩, z6⟩ := z
    obtain ⟨o', w1, w2⟩ := k L o z4 z5
    exact ⟨z1, ⟨L, o', z2, z3, w1, w2⟩, frames_any k z6⟩
theorem held_same {B h h' : Heap} {env : Env} {out : List Env} {a L : Addr} {Z : Obj → Prop} {m : Str → Option Value} (hf : env.frame = some L) (hh : HandSPX.HeldZ B (env :: out) a Z L h) (sb : Heap.SameBut L h h') (hn : h'.Ns L m) : HandSPX.HeldZ B (env :: out) a Z L h' := by
  obtain ⟨k1, k2, k3, oe, vs, T, oT, ts, t1, t2, t3, t4, t5, t6, t7, t8, t9⟩ := hh
  obtain ⟨nB, oL, gL, dL⟩ := k3.mem (b := L) (List.mem_filterMap.mpr ⟨env, List.mem_cons_self, hf⟩)
  have nrec : ∀ {b : Addr} {o : Obj} {ws : Array Value}, h.get? b = some o → o.data = .fields ws → b ≠ L := fun {b o ws} g d z => by
    rw [z, gL] at g
    cases g
    exact dL ws d
  refine ⟨fun b o g => ?_, k2, frames_any (fun b o g d => ?_) k3, oe, vs, T, oT, ts, (sb.2 a (nrec t1 t3)).trans t1, t2, t3, t4, t5, t6, (sb.2 T (nrec t7 t8)).trans t7, t8, t9⟩
  · have nb : b ≠ L := fun z => by
      rw [z, nB] at g
      cases g
    exact (sb.2 b nb).trans (k1 b o g)
  · by_cases hb : b = L
    · subst hb
      obtain ⟨o', es, ep, g', d', _⟩ := hn
      exact ⟨o', g', fun ws z => by rw [d'] at z; cases z⟩
    · exact ⟨o, (sb.2 b hb).trans g, d⟩
theorem sky_note {M : Model} {A : Around} {E₁ : Value → Shared → Prop} {env : Env} {out : List Env} {B : Heap} {L a : Addr} {cls : Value} {d : Option Addr} {s : Shared} {Q : Unit → Shared → Prop} (hfr : A.frames = some (env :: out)) (hf : env.frame = some L) (x : L2.Sky B (env :: out) a (Zc cls d) L s.heap)
    (hQ : ∀ h', HandSPX.HeldZ B (env :: out) a (Zc cls d) L h' → s.heap.UpToSlots h' → Q () { s with heap := h' }) : wpAny M A (noteFrame (.ref a) env) Q E₁ s := by
  rcases x with ⟨x1, x2, x3, oe, vs, x4, x5, x6, x7⟩ | fl | hh
  · exact HandSPX.look_newZ Zc.steady hfr x3 hf x4 x1 x2 x6 x7 x5 hQ
  · exact HandSPX.looks_onZ Zc.steady hfr hf fl hQ
  · exact HandSPX.againZ hf hh.2.2.2 (hQ s.heap hh (Heap.UpToSlots.refl _))
theorem held_on {M : Model} {A : Around} {E₁ : Value → Shared → Prop} {B : Heap} {l : List Env} {L a : Addr} {Z : Obj → Prop} {s : Shared} {Q : Unit → Shared → Prop} (hh : HandSPX.HeldZ B l a Z L s.heap) (hQ : ∀ h', HandSPX.HeldZ B l a Z L h' → s.heap.UpToSlots h' → Q () { s with heap := h' }) :
    wpAny M A (setFlight (.ref a) (some L)) Q E₁ s := HandSPX.setFlight_onZ hh hQ
theorem as_leaves {X : Cx} {E : XK} {E₁ : Value → Shared → Prop} {a0 : Addr} {pn : List (Addr × Obj)} {xe1 : Value → Shared → Prop} {n : Str} {pos : Pos} {E2 : Value → Shared → Prop} {u : Value} {s3 : Shared} (hs : X.stack = X.env :: X.outer) (hf : X.env.frame = some X.env.locals) (hex : X.ex = [])
    (hx : X.xe = fun e s' => wpAny (model X.prog X.w) X.A (leaving X.env e) (fun _ s'' => L2.CX X.prog X.w X.outer X.H_0 X.s_0 E e s'') E₁ s') (hl : X.env.kindOf n = some .local)
    (x : L2.XE { X with A := X.A.mark (some (.ref a0)), calm := false, pn := pn, xe := xe1 } (fun cls d _ H => E cls d H) u s3) :
    wpAny (model X.prog X.w) (X.A.mark (some (.ref a0))) (noteFrame u X.env) (fun _ s4 => wpAny (model X.prog X.w) (X.A.mark (some (.ref a0))) (do bindName X.env n .none; unbindBehindTheSuite X.env n pos) (fun _ s5 =>
      wpAny (model X.prog X.w) (X.A.mark (some (.ref a0))) (passOn "try.except-as" u X.env : Sem Flow) (fun _ _ => False) (notedBy (model X.prog X.w) (X.A.mark (some (.ref a0))) X.env (cameBackBy (model X.prog X.w) X.A X.env X.xe)) s5) E2 s4)
      (notedBy (model X.prog X.w) (X.A.mark (some (.ref a0))) X.env (cameBackBy (model X.prog X.w) X.A X.env X.xe)) s3 := by
  obtain ⟨a, B, sI, pins, σ, H, cls, d, rfl, I, nb, up, sky, na, os, ag, w⟩ := x
  have hst : X.A.frames = some X.stack := I.ok.frames
  have hfr : (X.A.mark (some (.ref a0))).frames = some (X.env :: X.outer) := by
    rw [← hs]
    exact I.ok.frames
  have sky : L2.Sky B (X.env :: X.outer) a (Zc cls d) X.env.locals s3.heap := by
    rw [← hs]
    exact sky
  refine sky_note hfr hf sky fun h1 hh1 up1 => ?_
  have J := I.landed (s' := { s3 with heap := h1 }) nb hh1.1 (up.trans up1) os ag
  obtain ⟨m, hn, _⟩ := id J.loc
  refine wpAny_nameGoes_keeps hl hn (by rw [show X.env.scope.kind = .function from I.ok.kind]; rfl) fun h2 v hn2 sb => ?_
  have hh2 := held_same hf hh1 sb hn2
  obtain ⟨k1, k2, k3, oe, vs, T, oT, ts, t1, t2, t3, t4, t5⟩ := id hh2
  unfold PySem.passOn
  refine wpAny_bind (wpAny_field t1 t3 t4 ?_)
  rw [if_neg (show ¬ ((Value.ref T == Value.none) = true) from by simp)]
  have fin : ∀ s5 : Shared, s5.heap = h2 → s5.os = s3.os → s5.gens = s3.gens → wpAny (model X.prog X.w) (X.A.mark (some (.ref a0))) (setFlight (.ref a) X.env.frame) (fun _ s6 => wpAny (model X.prog X.w) (X.A.mark (some (.ref a0))) (throw (.ref a) : Sem Flow) (fun _ _ => False) (notedBy (model X.prog X.w) (X.A.mark (some (.ref a0))) X.env (cameBackBy (model X.prog X.w) X.A X.env X.xe)) s6)
      (notedBy (model X.prog X.w) (X.A.mark (some (.ref a0))) X.env (cameBackBy (model X.prog X.w) X.A X.env X.xe)) s5 := by
    intro s5 e5 eo eg
    rw [hf]
    refine held_on (s := s5) (by rw [e5]; exact hh2) fun h3 hh3 up3 => wpAny_throw (L2H.passesAt_of hx (some (.ref a0)) _ _ ?_)
    rw [hx]
    refine HandSPX.leaves_heldZ hf hh3 fun h4 fl4 up4 => ?_
    have nst : ∀ b o, X.s_0.heap.get? b = some o → b ∉ X.fs → b ∉ frs X.stack := fun b o g hb hm => by
      rcases List.mem_cons.mp (I.stkSub b hm) with z | z
      · have l1 := Heap.lt_size g
        have l2 : X.s_0.heap.objs.size ≤ X.env.locals := I.ok.above
        rw [z] at l1
        exact absurd (Nat.lt_of_lt_of_le l1 l2) (Nat.lt_irrefl _)
      · exact hb z
    have nex : ∀ b : Addr, b ∉ X.ex := fun b hb => by
      rw [hex] at hb
      cases hb
    refine ⟨a, B, H, cls, d, rfl, fl4, I.inGround nb, ?_, na, ?_, ?_, w⟩
    · constructor
      case keep => exact fun b o g n hb => nb b o (I.base.keep b o g n hb (nex b)) (nst b o g hb)
      case free => exact fun b o g n => I.base.free b o g n (nex b)
      case tups => exact I.base.tups
      case frzs => exact I.base.frzs
      case tbls => exact I.base.tbls
      case there =>
        intro b o g hb
        obtain ⟨o', g1⟩ := I.base.there b o g (nex b)
        exact ⟨o', nb b o' g1 (nst b o g hb)⟩
      case slot =>
        intro b o g hb
        obtain ⟨_, o0, g0, hnf⟩ := I.ok.funs.mem hb
        rw [g] at g0
        cases g0
        have nL : b ≠ X.env.locals := Nat.ne_of_lt (Nat.lt_of_lt_of_le (Heap.lt_size g) I.ok.above)
        obtain ⟨s1, g1⟩ := I.base.slot b o g (I.ok.frf b hb) hb (nex b)
        obtain ⟨s2, g2⟩ := up b _ g1 hnf
        obtain ⟨s3', g3⟩ := up1 b _ g2 hnf
        have g4 : h2.get? b = some { o with slots := s3' } := (sb.2 b nL).trans g3
        obtain ⟨s5', g5⟩ := up3 b { o with slots := s3' } (by rw [e5]; exact g4) hnf
        obtain ⟨s6, g6⟩ := up4 b _ g5 hnf
        exact ⟨s6, g6⟩
    · show s5.os = X.s_0.os
      rw [eo, os]
      exact I.os
    · show AllBare s5.gens
      rw [eg]
      exact ag
  first
    | exact wpAny_bind (wpAny_pure (wpAny_bind (fin _ rfl rfl rfl)))
    | exact wpAny_bind (fin _ rfl rfl rfl)
/-- the suite's ends: none but by an exception -/
def dead : Ends := { nx := fun _ _ => False, rt := fun _ _ => False, bk := fun _ _ => False, ct := fun _ _ => False }
def wAsX (K : PySem.W.Frag) (c : Value) (i : Nat) (ts : Addr → Value → Option Addr → TS) : WX := fun cls d σ H => PySem.W.exmOne K cls c = some true ∧ ∀ a, H a = none → ts a cls d dead (σ.set i (some (.ref a))) H
/-- try: body, except x as n: a suite that raises; the body raises what the clause names -/
theorem ps_try_asX {X : Cx} {E : XK} {E₁ : Value → Shared → Prop} {x n : Str} {c : Value} {i : Nat} {body suite : List Stmt} {b₀ : Stmt} {np pos pos' : Pos} {tb : WX → TS} {ts : Addr → Value → Option Addr → TS} (hs : X.stack = X.env :: X.outer) (hf : X.env.frame = some X.env.locals) (hex : X.ex = [])
    (hx : X.xe = fun e s' => wpAny (model X.prog X.w) X.A (leaving X.env e) (fun _ s'' => L2.CX X.prog X.w X.outer X.H_0 X.s_0 E e s'') E₁ s') (hN : X.N.Nodup) (hi : X.N[i]? = some n) (hl : X.env.kindOf n = some .local) (hc : Names X x c)
    (hb : ∀ (W : WX) (pn : List (Addr × Obj)) (xe : Value → Shared → Prop), L2N.Takes (X.tr pn xe) W → PSs (X.tr pn xe) body (tb W))
    (hsu : ∀ (a : Addr) (oe : Obj) (cls : Value) (d : Option Addr) (pn : List (Addr × Obj)) (xe : Value → Shared → Prop), L2N.Zn cls d oe → (∃ vs, oe.data = .fields vs) → L2.Takes { X with A := X.A.mark (some (.ref a)), calm := false, pn := (a, oe) :: pn, xe := xe } (fun cls d _ H => E cls d H) →
      L2H.Hot1 (X.A.mark (some (.ref a))) (a, oe) → PSs { X with A := X.A.mark (some (.ref a)), calm := false, pn := (a, oe) :: pn, xe := xe } (b₀ :: suite) (ts a cls d)) :
    PS X (.Try body [.ExceptHandler (some (.Name x np)) (some n) (b₀ :: suite) pos'] [] [] pos) (fun D σ H => tb (wAsX X.K c i ts) D σ H) := by
  refine ⟨fun pins s σ H D I h => ?_⟩
  have ok := I.ok
  have hfr : X.A.frames = some (X.env :: X.outer) := by rw [ok.frames, hs]
  refine wpAny_Try_except ?_
  refine wpAny_mono ((hb (wAsX X.K c i ts) (X.pn ++ pins) _ (fun u s' xx => ?_)).run [] s σ H D (I.toTry _) h) (fun f s1 hsp => ?_) (fun e s1 he => he)
  · obtain ⟨a, B, sI, pins', σ', H', cls, d, rfl, J', nb, up, sky, na, os, ag, yes, go⟩ := xx
    have J : Inv X pins σ' H' sI := J'.ofTry ok
    have sky' : L2.Sky B (X.env :: X.outer) a (L2N.Zn cls d) X.env.locals s'.heap := by
      rw [← hs]
      exact sky
    show wpAny (model X.prog X.w) X.A (noteFrame (.ref a) X.env) _ _ _
    refine L2N.Sky.land L2N.Zn.steady hfr hf sky' fun h3 fl3 up3 => ?_
    have J3 : Inv X pins σ' H' { s' with heap := h3 } := J.landed nb fl3.1 (up.trans up3) os ag
    obtain ⟨o3, v3, g3, z3, d3⟩ := fl3.there
    have out : a ∉ frs (X.env :: X.outer) := fun hm => by
      obtain ⟨_, o', e', q⟩ := fl3.2.2.1.mem hm
      rw [g3] at e'
      cases e'
      exact q _ d3
    have nL : a ≠ X.env.locals := fun z => out (List.mem_filterMap.mpr ⟨X.env, List.mem_cons_self, by rw [hf, z]⟩)
    have nF : a ∉ X.fs := fun hm => out (by
      obtain ⟨e, he, q⟩ := List.mem_filterMap.mp hm
      exact List.mem_filterMap.mpr ⟨e, List.mem_cons_of_mem _ he, q⟩)
    have S3 := J3.suite g3 d3 na nL nF
    refine wpAny_handleBy_cons (codeAny_handlers_test ?_) (by intro q; cases q)
    have LT : PySem.W.Looks (model X.prog X.w) h3 (typeOf (.ref a)) cls := fun A Q E s k q => wpAny_typeOf_ref (k _ _ g3) (by rw [z3.1]; exact q)
    have LM := PySem.W.exm_one (M := model X.prog X.w) J3.kIn LT yes
    have test : ∀ {Q : Value → Shared → Prop} {E : Value → Shared → Prop}, Q c { s' with heap := h3 } → wpAny (model X.prog X.w) (X.A.mark (some (.ref a))) (eval (.Name x np) X.env) Q E { s' with heap := h3 } := fun {Q E} q => by
      obtain ⟨hg, hdb, hm | ⟨hm, hv, hnn⟩⟩ := hc
      · exact ld_glob (X := X.suite a ((a, o3) :: (X.pn ++ pins))) S3 hg hm q hdb
      · exact ld_blt (X := X.suite a ((a, o3) :: (X.pn ++ pins))) S3 hg hm hv q hnn hdb
    refine test (LM.here ?_)
    refine codeAny_handlers_suite_as ?_
    refine HandSPX.lands_againZ fl3 fun h4 fl4 up4 => ?_
    have J4 : Inv X pins σ' H' { s' with heap := h4 } := J.landed nb fl4.1 ((up.trans up3).trans up4) os ag
    obtain ⟨o4, v4, g4, z4, d4⟩ := fl4.there
    have S4 := J4.suite g4 d4 na nL nF
    refine store_ok (X := X.suite a ((a, o4) :: (X.pn ++ pins))) (v := .ref a) S4 hN hi (.inl hl) rfl (fun s5 S5 => ?_) (.inr hl)
    refine wpAny_mono ((hsu a o4 cls d (X.pn ++ pins) _ z4 ⟨_, d4⟩ (fun u6 s6 x6 => as_leaves (E₁ := E₁) hs hf hex hx hl x6) ⟨rfl, v4, d4, z4.2.2 v4 d4⟩).run [] s5 _ H' dead (S5.wish _) (go a na)) (fun f s6 hsp => ?_) (fun e6 s6 z => z)
    cases f with
    | next =>
      obtain ⟨_, _, _, w'⟩ := hsp
      exact w'.elim
    | brk =>
      obtain ⟨_, _, _, w'⟩ := hsp
      exact w'.elim
    | cont =>
      obtain ⟨_, _, _, w'⟩ := hsp
      exact w'.elim
    | ret u =>
      obtain ⟨_, _, _, _, _, w'⟩ := hsp
      exact w'.elim
  · cases f with
    | next =>
      obtain ⟨σ', H', J', q⟩ := hsp
      exact wpAny_execs_nil ⟨σ', H', J'.ofTry ok, q⟩
    | brk =>
      obtain ⟨σ', H', J', q⟩ := hsp
      exact ⟨σ', H', J'.ofTry ok, q⟩
    | cont =>
      obtain ⟨σ', H', J', q⟩ := hsp
      exact ⟨σ', H', J'.ofTry ok, q⟩
    | ret u =>
      obtain ⟨v, σ', H', J', r, q⟩ := hsp
      exact ⟨v, σ', H', J'.ofTry ok, r, q⟩
/-! ### as the texts use them -/
/-- an own class whose starred __init__ may raise exceptions whose context is None -/
def DfSN (P : Program) (w : World) (K : PySem.W.Frag) (mg : Str → Option Value) (base : Heap) (x : Str) (C : Addr) (k : Nat) (sp : Sp) : Prop :=
  ∃ f : Addr, Mk K C f ∧ mg x = some (.ref C) ∧ FnR P w K mg base (L2N.CX P w) k f sp
/-- an own exception's __init__, called while another one is handled -/
def DfHX (P : Program) (w : World) (K : PySem.W.Frag) (mg : Str → Option Value) (base : Heap) (x : Str) (C : Addr) (ps : List Str) (k : Nat) (sp : Sp) : Prop :=
  ∃ (f : Addr) (fd : FuncData), OexC K C ∧ PySem.W.findIn K (.ref C) "__init__" = some (some (.ref f)) ∧ PySem.W.typeIn K (.ref f) = some (.type "function") ∧ mg x = some (.ref C) ∧ Binds K fd ps [] ∧ L2H.FnH P w K mg base CX0 k f fd ps sp
open L2H in
theorem Fun.okH {P : Program} {w : World} {K : PySem.W.Frag} {mg : Str → Option Value} {base : Heap} {x qual : Str} {st : Stmt} {f : Addr} {fd : FuncData} {N ps : List Str} {k : Nat} {sp : Sp} (F : Fun K x qual st f fd) (S : FnScope N ps (defScope st)) (len : ∀ vs H Q E, sp vs H Q E → vs.length = ps.length)
    (walk : ∀ (cdv : Value) (A : Around) (outer : List Env) (s : Shared) (H : Hp) (vs : List V) (Q : VK) (E : XK) (p : Addr × Obj), Hot1 A p → RoomH k (A.deeper (envOfC qual (defScope st) s.heap.objs.size f cdv)) → sp vs H Q E →
      ∃ t, PSs (cxH CX0 P w K mg base N qual (defScope st) f cdv A outer s H E p) (defBody st) t ∧ t { nx := fun _ H' => Q .non H', rt := Q } (L2.start N vs) H) : FnH P w K mg base CX0 (k + 1) f fd ps sp := by
  obtain ⟨oc, od, kV, doc, pm, an, cdv, ct, osl, rfl, lk, hcd⟩ := F.ex
  exact fn_ofH lk hcd S len fun A outer s H vs Q E p hot hr h => walk cdv A outer s H vs Q E p hot hr h
section
variable {X : Cx} {C : Addr} {k : Nat} {ps : List Str} {sp : Sp} {W : WX} {x : Str} {e ce : Expr} {es : List Expr} {te : TE} {t : TA} {p sp_ pos pos2 : Pos}
theorem pe_mkSN1 (K0 : PySem.W.Frag) (eK : X.K = K0) (D : DfSN X.prog X.w X.K X.mg X.base x C k sp) (hr : Room (k + 1) X.A) (hg : Gl X x) (tk : L2N.Takes X W) (he : PE X e te) (hdb : (x == ("__debug__" : Str)) = false := by decide) (hst : starEach [.Starred e sp_] X.env = [(true, eval e X.env)] := by rfl) :
    PE X (.Call (.Name x p) [.Starred e sp_] [] pos) (tMakeS C sp W (tStar K0 te tNil)) := by
  subst eK
  obtain ⟨f, M, hm, F⟩ := D
  exact pe_makeS1 M F hr hg hm (L2N.passAt tk) he hdb hst
theorem pe_mkIXS {ds : List Value} (D : DfIX X.prog X.w X.K X.mg X.base x C ps k sp) (hr : Room (k + 1) X.A) (hg : Gl X x) (tk : L2.Takes X W) (ha : PA X (e :: es) t) (hdb : (x == ("__debug__" : Str)) = false := by decide)
    (he : starEach (e :: es) X.env = (false, eval e X.env) :: starEach es X.env := by rfl) (hpl : (backTo pos (starEach es X.env)).any (·.1) = false := by rfl) : PE X (.Call (.Name x p) (e :: es) [] pos) (tMakeS C (fun vs H Q E => sp (vs ++ []) H Q E) W t) := by
  obtain ⟨f, fd, M, hm, hb, F⟩ := D
  exact pe_makeS M (F.raw hb .nil) hr hg hm (L2.passAt tk) ha hdb he hpl
theorem ps_raiseXN (D : DfX X.prog X.w X.K X.mg X.base x C ps k sp) (hr : Room (k + 1) X.A) (hg : Gl X x) (hc : X.calm = true) (tk : L2N.Takes X W) (ha : PA X (e :: es) t) (hdb : (x == ("__debug__" : Str)) = false := by decide)
    (he : starEach (e :: es) X.env = (false, eval e X.env) :: starEach es X.env := by rfl) (hpl : (backTo pos (starEach es X.env)).any (·.1) = false := by rfl) :
    PS X (.Raise (some (.Call (.Name x p) (e :: es) [] pos)) none pos2) (fun _ σ H => tMkO C sp [] t σ H fun cls d H' => W cls d σ H') := by
  obtain ⟨f, fd, h1, h2, h3, h4, h5, F⟩ := D
  exact L2N.ps_raise hc tk (pmkN h1 h2 h3 F hr h5 .nil pass0 hg h4 ha hdb he hpl)
theorem call_isXK {a : Addr} {oe : Obj} {c : Value} {d : Option Addr} (K0 : PySem.W.Frag) (eK : X.K = K0) (hp : (a, oe) ∈ X.pn) (hz : Zc c d oe) (hf : ∃ vs, oe.data = .fields vs) : CallR X (.builtin "isinstance") (rXo K0 a c d) := by
  subst eK
  exact call_isX hp hz hf
/-- raise Y(..) from e within: except .. as e -/
theorem ps_raiseXF (K0 : PySem.W.Frag) (eK : X.K = K0) {a0 : Addr} {i : Nat} {q : Addr × Obj} {cls : Value} {d : Option Addr} (ea : q.1 = a0) (D : DfHX X.prog X.w X.K X.mg X.base x C ps k sp) (hot : L2H.Hot1 X.A q) (hq : q ∈ X.pn) (hz : L2N.Zn cls d q.2) (tk : L2.Takes X W) (hr : L2H.RoomH (k + 1) X.A) (hg : Gl X x) (ha : PA X (e :: es) t) (hce : Here X ce i) (hdb : (x == ("__debug__" : Str)) = false := by decide)
    (he : starEach (e :: es) X.env = (false, eval e X.env) :: starEach es X.env := by rfl) (hpl : (backTo pos (starEach es X.env)).any (·.1) = false := by rfl) :
    PS X (.Raise (some (.Call (.Name x p) (e :: es) [] pos)) (some ce) pos2) (fun _ σ H => (PySem.W.subIn K0 cls (.type "BaseException") = some true ∧ PySem.W.typeIn K0 cls = some (.type "type")) ∧ σ[i]? = some (some (.ref a0)) ∧ tMkO C sp [] t σ H fun c d H' => W c d σ H') := by
  subst eK ea
  obtain ⟨f, fd, h1, h2, h3, h4, h5, F⟩ := D
  constructor
  intro pins s σ H D I h
  obtain ⟨⟨r1, r2⟩, h⟩ := h
  exact (ps_raiseHF hot hq hz.1 (raises_own r1 r2) tk (L2H.pmk5_oexH h1 h2 h3 F hr ⟨q, hot, hq⟩ h5 pass0 hg h4 ha hdb he hpl) hce).run pins s σ H D I h
end
end Kz
namespace Kz
open PySem PySem.Spec PyProof.Rows L2 Evl StX
def kI (ns : List Nat) : List Key := ns.map fun (n : Nat) => Sum.inl (n : Int)
theorem kI_V (ns : List Nat) : (kI ns).map kV = ns.map fun (n : Nat) => V.int (n : Int) := by
  unfold kI
  rw [List.map_map]
  rfl
theorem kI_inj {a b : List Nat} (h : kI a = kI b) : a = b := by
  unfold kI at h
  induction a generalizing b with
  | nil =>
    cases b with
    | nil => rfl
    | cons _ _ => cases h
  | cons x a ih =>
    cases b with
    | nil => cases h
    | cons y b =>
      injection h with h1 h2
      injection h1 with h1
      rw [ih h2, Int.ofNat.inj h1]
theorem tk_room {A : Around} {prog : Program} {w : World} {K : Type} [DecidableEq K] {knd : KeyKind prog w K} (hu : A.units + 1 < cLine) : (tupleKind knd).room A := Nat.lt_of_succ_lt hu
/-- {k: v}, k a tuple -/
def tDisp1T (tk tv : TE) : TE := fun σ H Q => ∀ p, H p = none → tk σ (upd H p (.dT [])) fun x H1 => tv σ H1 fun y H2 => ∃ (b : Addr) (ks : List Key), x = .ref b ∧ H2 b = some (.tup (ks.map kV)) ∧ H2 p = some (.dT []) ∧ Q (.ref p) (upd H2 p (.dT [(ks, y)]))
theorem pe_disp1T {X : Cx} {k v : Expr} {tk tv : TE} {pos : Pos} (hu : X.A.units + 1 < cLine) (hk : PE X k tk) (hv : PE X v tv) : PE X (.Dict [some k] [v] pos) (tDisp1T tk tv) := by
  refine ⟨fun pins s σ H Q I q => ?_⟩
  have hn := I.hok.fresh (Nat.le_refl s.heap.objs.size)
  have I1 := I.laid (a := s.heap.objs.size) (o := .dT []) (h' := s.heap.push { cls := .type "dict", data := .dict #[] }) (t' := s.toks) (fun _ _ q => Heap.get?_push_of_some _ q) (Nat.le_refl _) (dt_empty s.heap I.big)
  rw [arm_eval_Dict, zip_pairTrees [some k] [v] X.env pos rfl rfl, dictDisplay_pairs _ (by simp [pairTrees]) (by simp [pairTrees])]
  refine wpAny_bind (wpAny_standAt (wpAny_bind ?_))
  unfold subDict
  refine wpAny_bind (wpAny_alloc ?_)
  refine wpAny_bind (wpAny_holding ?_)
  rw [if_pos (show (pairTrees [some k] [v] X.env pos).length ≤ 15 by show 1 ≤ 15; decide)]
  refine wpAny_bind (evalPairs_cons (thn (hk.run pins _ σ _ _ I1 (q _ hn)) fun u s1 h1 => ?_))
  obtain ⟨x, H1, I2, rx, q1⟩ := h1
  refine wpAny_bind (thn (hv.run pins s1 σ H1 _ I2 q1) fun u2 s2 h2 => wpAny_bind (wpAny_standAt (wpAny_pure (evalPairs_nil ?_))))
  obtain ⟨y, H2, I3, ry, b, ks, ex, eb, ep, q2⟩ := h2
  subst ex
  obtain rfl : u = Value.ref b := rx
  obtain ⟨z, hd, xs, rel, dd⟩ := dt_of I3.hok ep
  cases rel
  refine wpAny_holding (wpAny_bind ?_)
  rw [List.forIn_cons]
  refine wpAny_bind (wpAny_bind (wpAny_dictSet_heap (hsz := by simp) ((tk_room hu)) (key_of I3.hok eb) dd fun h' dd' hs => wpAny_pure ?_))
  dsimp only
  rw [List.forIn_nil]
  refine wpAny_pure (wpAny_pure (wpAny_pure (wpAny_pure ⟨.ref s.heap.objs.size, _, ?_, rfl, q2⟩)))
  obtain ⟨qo, es, pp, hq, h2, h3, h4, _, h5⟩ := dd'
  have rel2 : KT H2 (putK ([] : List (List Key × V)) ks y) (storedH [] ks b u2) := KT.put .nil ks eb ry
  exact d_write I3 (by rw [ep]; exact True.intro) hs ⟨qo, hq⟩ ⟨by rw [sizeLine_eq]; show 1 ≤ _; omega, hd, _, rel2.keeps fun c ys ec => by
    rw [upd_ne (ne_of ec ep (fun z => nomatch z))]
    exact ec, qo, es, pp, hq, h2, h3, h4, h5⟩
/-! lists of objects, by place -/
theorem Rs.at {α : Type} {R : α → Addr → Hp → Prop} {H : Hp} {vs : List V} {xs : List α} (h : Rs R H vs xs) {i : Nat} {x : α} (hi : xs[i]? = some x) : ∃ p, vs[i]? = some (.ref p) ∧ R x p H := by
  induction h generalizing i with
  | nil => cases hi
  | cons r0 _ ih =>
    cases i with
    | zero =>
      cases hi
      exact ⟨_, rfl, r0⟩
    | succ i => exact ih hi
/-! zip of two lists; zip of a list of pairs and a tuple -/
section
variable {K : PySem.W.Frag} {σ : L2.St} {H : Hp} {te tl : TE}
theorem elv_zipL {ta : TA} {a b : Addr} {us vs xs : List V} {j k : Nat} {ws : List Nat} (h : EvA ta σ H [.ref a, .ref b]) (hx : SqL K H a us) (hy : SqL K H b vs) (hn : us.length ≤ 40000) (hl : xs.length = us.length) (h2 : us.length = vs.length)
    (hw : ∀ x y, wipe (((wipe σ ws).set j (some x)).set k (some y)) ws = wipe σ ws)
    (he : ∀ (i : Nat) (u v y : V) (H1 : Hp), Ex H H1 → us[i]? = some u → vs[i]? = some v → xs[i]? = some y → Ev te (((wipe σ ws).set j (some u)).set k (some v)) H1 y) : EvL (tLc (iZip K ta) (gTup K 2 (gCons (gName j) (gCons (gName k) gNil))) tYes te ws) σ H xs := fun H0 e Q q => h H0 e _ fun H1 e1 => ⟨a, b, us, vs, rfl, ex_l (e.trans e1) hx, ex_l (e.trans e1) hy,
  lcVs (H0 := H1) (walk_zip (K := K) (a := a) (b := b) (xs := us) (ys := vs) (n := us.length) (by omega)) (by omega) hl (fun H2 e2 => ⟨ex_l ((e.trans e1).trans e2) hx, ex_l ((e.trans e1).trans e2) hy⟩) (fun i y x H2 H3 hyi e2 yy kk hk => by
    obtain ⟨m, u, v, rfl, hm, rfl, hu, hv⟩ := yy
    refine ⟨m, [u, v], rfl, st_of upd_same, rfl, u, [v], rfl, v, [], rfl, rfl, ?_⟩
    exact hk _ _ (Ex.new hm) (hw _ _) (he i u v y _ (((e.trans e1).trans e2).trans (Ex.new hm)) hu hv hyi)) fun l H2 hl0 e2 h2 => q l H2 (fresh_back e1 hl0) (e1.trans e2) h2⟩
theorem elv_zipN {ta : TA} {a b : Addr} {us vs xs : List V} {j1 j2 k : Nat} {ws : List Nat} (h : EvA ta σ H [.ref a, .ref b]) (hx : SqL K H a us) (hy : SqT K H b vs) (hn : us.length ≤ 40000) (hl : xs.length = us.length) (h2 : us.length = vs.length)
    (hw : ∀ x y z, wipe ((((wipe σ ws).set j1 (some x)).set j2 (some y)).set k (some z)) ws = wipe σ ws)
    (he : ∀ (i : Nat) (u v y : V), us[i]? = some u → vs[i]? = some v → xs[i]? = some y → ∃ (p : Addr) (x1 x2 : V), u = .ref p ∧ H p = some (.tup [x1, x2]) ∧ ∀ H1, Ex H H1 → Ev te ((((wipe σ ws).set j1 (some x1)).set j2 (some x2)).set k (some v)) H1 y) :
    EvL (tLc (iZipM K ta) (gTup K 2 (gCons (gTup K 2 (gCons (gName j1) (gCons (gName j2) gNil))) (gCons (gName k) gNil))) tYes te ws) σ H xs := fun H0 e Q q => h H0 e _ fun H1 e1 => ⟨a, b, us, vs, rfl, ⟨ex_l (e.trans e1) hx, ex_t (e.trans e1) hy⟩,
  lcVs (H0 := H1) (walkM (K := K) (a := a) (b := b) h2) (by omega) hl (fun H2 e2 => ⟨ex_l ((e.trans e1).trans e2) hx, ex_t ((e.trans e1).trans e2) hy⟩) (fun i y x H2 H3 hyi e2 yy kk hk => by
    obtain ⟨m, u, v, rfl, hm, rfl, hu, hv⟩ := yy
    obtain ⟨p, x1, x2, rfl, hp, hE⟩ := he i u v y hu hv hyi
    have e3 := (((e.trans e1).trans e2).trans (Ex.new (o := .tup [V.ref p, v]) hm))
    refine ⟨m, [V.ref p, v], rfl, st_of upd_same, rfl, V.ref p, [v], rfl, ?_⟩
    refine ⟨p, [x1, x2], rfl, st_of (e3 _ _ hp), rfl, x1, [x2], rfl, x2, [], rfl, rfl, ?_⟩
    refine ⟨v, [], rfl, rfl, ?_⟩
    exact hk _ _ (Ex.new hm) (hw _ _ _) (hE _ e3)) fun l H2 hl0 e2 h2 => q l H2 (fresh_back e1 hl0) (e1.trans e2) h2⟩
end
/-! comprehensions of objects whose own lists are told apart from the one that is filled -/
def Off2 {α : Type} (R : α → Addr → Hp → Prop) : Prop := ∀ x p H D acc ys, R x p H → H D = some (.lst acc) → Rs R H acc ys → p ≠ D → R x p (hide D H)
theorem lcRs2 {α : Type} {R : α → Addr → Hp → Prop} {xs : List α} {J : It} {n : Nat} {G : Hp → Prop} {Y : Nat → Hp → V → Hp → Prop} (w : Walk J n G Y) {g : TG} {te : TE} {us : List Nat} {σ : L2.St} {H1 H0 : Hp} {Q : VK} (up : Up R) (off : Off2 R) (hn : n ≤ 100000) (hl : xs.length = n) (hG : ∀ H, Ex H1 H → G H)
    (hs : ∀ i y x H H', xs[i]? = some y → Ex H1 H → Y i H x H' → ∀ k : L2.St → Hp → Prop, (∀ σ2 H2, Ex H H2 → wipe σ2 us = wipe σ us → EvN te σ2 H2 (R y) → k σ2 H2) → g x (wipe σ us) H' k)
    (hq : ∀ l vs H2, H1 l = none → Ex H1 H2 → H2 l = some (.lst vs) → Rs R H2 vs xs → Q (.ref l) H2) : tLc (iHere J H1) g tYes te us σ H0 Q := fun D hD => by
  refine lc_it w (fun i H => ∃ vs, H D = some (.lst vs) ∧ Ex H1 (hide D H) ∧ Rs R (hide D H) vs (xs.take i)) ⟨[], upd_same, ?_, ?_⟩ ?_ ?_ ?_
  · rw [hide_upd, hide_none hD]
    exact Ex.refl _
  · exact .nil
  · rintro i H _ ⟨vs, _, e, _⟩
    exact hG H (e.trans hide_le)
  · rintro i x H H' hi ⟨vs, hv, e, r⟩ y
    obtain ⟨z, hz⟩ : ∃ z, xs[i]? = some z := ⟨xs[i]'(by omega), List.getElem?_eq_getElem (by omega)⟩
    refine hs i z x H H' hz (e.trans hide_le) y _ fun σ2 H2 e2 hw ev => ⟨hw, ?_⟩
    show te σ2 H2 fun y H4 => ∃ acc, H4 D = some (.lst acc) ∧ acc.length < sizeLine ∧ _
    refine ev H2 (Ex.refl _) _ fun p H3 hp e3 rp => ?_
    have hv2 := e2 _ _ hv
    have hv3 := e3 _ _ hv2
    have ne : p ≠ D := fun q => by
      rw [q, hv2] at hp
      cases hp
    have el : vs.length = (xs.take i).length := r.len
    rw [List.length_take] at el
    refine ⟨vs, hv3, sz_lt (by omega), vs ++ [.ref p], upd_same, ?_, ?_⟩
    · rw [hide_upd]
      exact e.trans (ex_hide (e2.trans e3))
    · rw [hide_upd, List.take_add_one, hz]
      exact (r.ex up (ex_hide (e2.trans e3))).snoc (off _ _ _ _ _ _ rp hv3 (r.ex up ((hide_le.trans e2).trans e3)) ne)
  · rintro H ⟨vs, hv, e, r⟩
    rw [← hl, List.take_length] at r
    exact hq D vs H hD (e.trans hide_le) hv (r.ex up hide_le)
theorem ers_lc2 {α : Type} {R : α → Addr → Hp → Prop} {xs : List α} {K : PySem.W.Frag} {σ : L2.St} {H : Hp} {te tl : TE} {a : Addr} {us : List V} {j : Nat} {ws : List Nat} (up : Up R) (off : Off2 R) (h : Ev tl σ H (.ref a)) (hx : SqL K H a us) (hn : us.length ≤ 40000) (hl : xs.length = us.length) (hw : ∀ x, wipe ((wipe σ ws).set j (some x)) ws = wipe σ ws)
    (he : ∀ (i : Nat) (u : V) (y : α) (H1 : Hp), Ex H H1 → us[i]? = some u → xs[i]? = some y → EvN te ((wipe σ ws).set j (some u)) H1 (R y)) : EvRs (tLc (iList K tl) (gName j) tYes te ws) σ H R xs := fun H0 e Q q => h H0 e _ fun H1 e1 => ⟨a, rfl, ⟨us, ex_l (e.trans e1) hx⟩,
  lcRs2 (H0 := H1) (walk_list (K := K) (a := a) (xs := us)) up off (by omega) hl (fun H2 e2 => ex_l ((e.trans e1).trans e2) hx) (fun i y x H2 H3 hy e2 yy k hk => by
    obtain ⟨rfl, hu⟩ := yy
    exact hk _ _ (Ex.refl _) (hw _) (he i x y _ ((e.trans e1).trans e2) hu hy)) fun l vs H2 hl0 e2 h2 r => q l vs H2 (fresh_back e1 hl0) (e1.trans e2) h2 r⟩
theorem Rs.app' {α : Type} {R : α → Addr → Hp → Prop} {H : Hp} {vs ws : List V} {xs ys : List α} (h : Rs R H vs xs) (k : Rs R H ws ys) : Rs R H (vs ++ ws) (xs ++ ys) := by
  induction h with
  | nil => exact k
  | cons r _ ih => exact .cons r ih
theorem Rs.off {α : Type} {R : α → Addr → Hp → Prop} {H : Hp} {D : Addr} {acc vs : List V} {xs : List α} (off : Off R) (nl : ∀ x p H D acc, R x p H → H D = some (.lst acc) → p ≠ D) (r : Rs R H vs xs) (hD : H D = some (.lst acc)) (refs : ∀ v ∈ acc, ∃ q : Addr, v = .ref q) : Rs R (hide D H) vs xs :=
  r.imp fun x p _ h => off x p H D acc h hD refs (nl x p H D acc h hD)
/-- two fors, the outer over a new list, the inner over a new list of objects each time, which are kept -/
theorem ers_flat {α : Type} {R : α → Addr → Hp → Prop} {K : PySem.W.Frag} {σ : L2.St} {H : Hp} {te te1 tl : TE} {us : List V} {ys : List (List α)} {j k : Nat} {ws ws1 : List Nat} (up : Up R) (off : Off R) (nl : ∀ x p H D acc, R x p H → H D = some (.lst acc) → p ≠ D) (h : EvL tl σ H us) (hl : ys.length = us.length) (hm : ys.flatten.length ≤ 40000)
    (hw : ∀ x, wipe ((wipe σ ws).set j (some x)) ws = wipe σ ws) (hw1 : ∀ x y, wipe ((wipe ((wipe σ ws).set j (some x)) ws1).set k (some y)) ws1 = wipe ((wipe σ ws).set j (some x)) ws1)
    (hi : ∀ (i : Nat) (u : V) (y : List α) (H1 : Hp), Ex H H1 → us[i]? = some u → ys[i]? = some y → EvRs te1 ((wipe σ ws).set j (some u)) H1 R y)
    (he : ∀ (u x : V) (H1 : Hp), Ex H H1 → Ev te ((wipe ((wipe σ ws).set j (some u)) ws1).set k (some x)) H1 x) :
    EvRs (tLc2 (iList K tl) (gName j) tYes (iList K te1) (gName k) tYes te ws ws1) σ H R ys.flatten := fun H0 e Q q => h H0 e _ fun a H1 ha0 e1 ha => ⟨a, rfl, ⟨us, sq_of ha⟩, fun D hD => by
  have w := walk_list (K := K) (a := a) (xs := us)
  have cut : ∀ i, (ys.take i).flatten.length ≤ ys.flatten.length := fun i => by
    conv => rhs; rw [← List.take_append_drop i ys, List.flatten_append, List.length_append]
    omega
  refine ⟨fun i c H2 => c = us.length - i ∧ i ≤ us.length ∧ ∃ vs, H2 D = some (.lst vs) ∧ Ex H1 (hide D H2) ∧ Rs R (hide D H2) vs (ys.take i).flatten, ⟨us.length, rfl, Nat.zero_le _, [], upd_same, ?_, .nil⟩, ?_⟩
  · rw [hide_upd, hide_none hD]
    exact Ex.refl _
  rintro i c H2 ⟨rfl, hi0, vs, hv, e2, r2⟩
  have e12 := (e.trans e1).trans (e2.trans hide_le)
  have ha2 : SqL K H2 a us := sq_of (hide_le _ _ (e2 _ _ ha))
  by_cases lt : i < us.length
  · refine .inr ⟨w.goes i H2 lt ha2, fun H' => ∃ vs, H' D = some (.lst vs) ∧ Ex H1 (hide D H') ∧ Rs R (hide D H') vs (ys.take (i + 1)).flatten, fun H' z => ⟨_, by omega, rfl, lt, z⟩, fun x H' yy => ?_⟩
    obtain ⟨rfl, hu⟩ := w.yields i H2 x H' lt ha2 yy
    obtain ⟨y, hy⟩ : ∃ y, ys[i]? = some y := ⟨ys[i]'(by omega), List.getElem?_eq_getElem (by omega)⟩
    refine ⟨hw _, ?_⟩
    show te1 _ H' _
    refine hi i x y H' e12 hu hy H' (Ex.refl _) _ fun l zs H3 hl0 e3 h3 r3 => ⟨l, rfl, ⟨_, sq_of h3⟩, ?_⟩
    have hv3 := e3 _ _ hv
    have nlD : l ≠ D := fun z => by
      rw [z, hv] at hl0
      cases hl0
    have h3' : hide D H3 l = some (.lst zs) := by rw [hide_ne nlD]; exact h3
    have w2 := walk_list (K := K) (a := l) (xs := zs)
    have e23 : Ex H1 (hide D H3) := e2.trans (ex_hide e3)
    have r3' : Rs R (hide D H3) zs y := r3.off off nl hv3 r2.refs
    have r2' := r2.ex up (ex_hide e3)
    have tk : (ys.take (i + 1)).flatten = (ys.take i).flatten ++ y := by
      rw [List.take_add_one, hy, List.flatten_append]
      simp
    have lz := r3'.len
    have lv := r2'.len
    have c1 := cut (i + 1)
    rw [tk, List.length_append] at c1
    refine ⟨fun i2 c2 H4 => c2 = zs.length - i2 ∧ i2 ≤ zs.length ∧ H4 D = some (.lst (vs ++ zs.take i2)) ∧ Ex (hide D H3) (hide D H4), ⟨zs.length, rfl, Nat.zero_le _, ?_, Ex.refl _⟩, ?_⟩
    · rw [hv3, List.take_zero, List.append_nil]
    rintro i2 c2 H4 ⟨rfl, hi2, hv4, e4⟩
    have q4 : SqL K H4 l zs := sq_of (hide_le _ _ (e4 _ _ h3'))
    have ee : Ex H H4 := (e.trans e1).trans ((e23.trans e4).trans hide_le)
    by_cases lt2 : i2 < zs.length
    · refine .inr ⟨w2.goes i2 H4 lt2 q4, fun H' => H' D = some (.lst (vs ++ zs.take (i2 + 1))) ∧ Ex (hide D H3) (hide D H'), fun H' z => ⟨_, by omega, rfl, lt2, z.1, z.2⟩, fun x2 H' yy => ?_⟩
      obtain ⟨rfl, hx2⟩ := w2.yields i2 H4 x2 H' lt2 q4 yy
      refine ⟨hw1 _ _, ?_⟩
      show (te _ H' _)
      refine he _ _ H' ee H' (Ex.refl _) _ fun H6 e6 => ⟨_, e6 _ _ hv4, sz_lt ?_, ?_, ?_⟩
      · rw [List.length_append, List.length_take]
        omega
      · rw [upd_same, List.append_assoc, List.take_add_one, hx2]
        rfl
      · rw [hide_upd]
        exact e4.trans (ex_hide e6)
    · have ei : i2 = zs.length := by omega
      subst ei
      rw [List.take_length] at hv4
      have st := w2.stops H4 q4
      refine .inl ⟨st, vs ++ zs, hv4, e23.trans e4, ?_⟩
      rw [tk]
      exact (r2'.ex up e4).app' (r3'.ex up e4)
  · have ei : i = us.length := by omega
    subst ei
    rw [← hl, List.take_length] at r2
    exact .inl ⟨w.stops H2 ha2, q D vs H2 (fresh_back e1 hD) (e1.trans (e2.trans hide_le)) hv (r2.ex up hide_le)⟩⟩
/-- [*xs, *ys] -/
theorem el_star2 {K : PySem.W.Frag} {σ : L2.St} {H : Hp} {ta tb : TE} {a b : Addr} {xs ys : List V} (ha : Ev ta σ H (.ref a)) (hb : Ev tb σ H (.ref b)) (hx : SqL K H a xs) (hy : SqL K H b ys) (hl : (xs ++ ys).length ≤ 100000) : EvL (tLst (tStar K ta (tStar K tb tNil))) σ H (xs ++ ys) := fun H1 e Q q =>
  ha H1 e _ fun H2 e2 => ⟨a, xs, rfl, .inr (ex_l (e.trans e2) hx), hb H2 (e.trans e2) _ fun H3 e3 => ⟨b, ys, rfl, .inr (ex_l ((e.trans e2).trans e3) hy), by
    show (xs ++ (ys ++ [])).length ≤ sizeLine ∧ _
    rw [List.append_nil]
    exact ⟨sz_of hl, fun p hp => q p _ (fresh_back (e2.trans e3) hp) ((e2.trans e3).trans (Ex.new hp)) upd_same⟩⟩⟩
/-- for i, x in enumerate(a list that stands) -/
theorem q_forEL {K : PySem.W.Frag} {σ : L2.St} {H : Hp} {te : TE} {D : Ends} {tu tz : TS} {a : Addr} {xs : List V} {j k : Nat} (h : Ev te σ H (.ref a)) (hx : SqL K H a xs) (Pv : Nat → L2.St → Hp → Prop) (h0 : ∀ H1, Ex H H1 → Pv 0 σ H1) (hl : ∀ i σ' H', i ≤ xs.length → Pv i σ' H' → SqL K H' a xs)
    (hs : ∀ i x σ' H' T, xs[i]? = some x → Pv i σ' H' → H' T = none → tu { D with nx := Pv (i + 1), ct := Pv (i + 1), bk := tz D } ((σ'.set j (some (.int (i : Int)))).set k (some x)) (upd H' T (.tup [.int (i : Int), x])))
    (hd : ∀ σ' H', Pv xs.length σ' H' → tz D σ' H') : tSeq (tFor (iEnum K (tCons te tNil)) (gTup K 2 (gCons (gName j) (gCons (gName k) gNil))) tu) tz D σ H :=
  h H (Ex.refl H) _ fun H1 e => ⟨a, xs, rfl, ex_l e hx, for_it (D := { D with nx := tz D }) (walk_enum (K := K) (a := a) (xs := xs)) Pv (h0 H1 e) hl (fun i x σ' H' H'' hi pc y => by
    obtain ⟨T, i', c, rfl, hT, rfl, hi', hc⟩ := y
    cases hi'
    exact ⟨T, [_, _], rfl, st_of upd_same, rfl, _, _, rfl, _, _, rfl, rfl, hs i c σ' H' T hc pc hT⟩) hd⟩
/-- as q_forEL, with nothing behind it -/
theorem s_forEL {K : PySem.W.Frag} {σ : L2.St} {H : Hp} {te : TE} {D : Ends} {tu : TS} {a : Addr} {xs : List V} {j k : Nat} (h : Ev te σ H (.ref a)) (hx : SqL K H a xs) (Pv : Nat → L2.St → Hp → Prop) (h0 : ∀ H1, Ex H H1 → Pv 0 σ H1) (hl : ∀ i σ' H', i ≤ xs.length → Pv i σ' H' → SqL K H' a xs)
    (hs : ∀ i x σ' H' T, xs[i]? = some x → Pv i σ' H' → H' T = none → tu { D with nx := Pv (i + 1), ct := Pv (i + 1), bk := D.nx } ((σ'.set j (some (.int (i : Int)))).set k (some x)) (upd H' T (.tup [.int (i : Int), x])))
    (hd : ∀ σ' H', Pv xs.length σ' H' → D.nx σ' H') : tFor (iEnum K (tCons te tNil)) (gTup K 2 (gCons (gName j) (gCons (gName k) gNil))) tu D σ H :=
  h H (Ex.refl H) _ fun H1 e => ⟨a, xs, rfl, ex_l e hx, for_it (D := D) (walk_enum (K := K) (a := a) (xs := xs)) Pv (h0 H1 e) hl (fun i x σ' H' H'' hi pc y => by
    obtain ⟨T, i', c, rfl, hT, rfl, hi', hc⟩ := y
    cases hi'
    exact ⟨T, [_, _], rfl, st_of upd_same, rfl, _, _, rfl, _, _, rfl, rfl, hs i c σ' H' T hc pc hT⟩) hd⟩
/-- as q_forEL, for any target -/
theorem q_forEg {K : PySem.W.Frag} {σ : L2.St} {H : Hp} {te : TE} {D : Ends} {tu tz : TS} {g : TG} {a : Addr} {xs : List V} (h : Ev te σ H (.ref a)) (hx : SqL K H a xs) (Pv : Nat → L2.St → Hp → Prop) (h0 : ∀ H1, Ex H H1 → Pv 0 σ H1) (hl : ∀ i σ' H', i ≤ xs.length → Pv i σ' H' → SqL K H' a xs)
    (hs : ∀ i x σ' H' T, xs[i]? = some x → Pv i σ' H' → H' T = none → g (.ref T) σ' (upd H' T (.tup [.int (i : Int), x])) fun σ2 H2 => tu { D with nx := Pv (i + 1), ct := Pv (i + 1), bk := tz D } σ2 H2)
    (hd : ∀ σ' H', Pv xs.length σ' H' → tz D σ' H') : tSeq (tFor (iEnum K (tCons te tNil)) g tu) tz D σ H :=
  h H (Ex.refl H) _ fun H1 e => ⟨a, xs, rfl, ex_l e hx, for_it (D := { D with nx := tz D }) (walk_enum (K := K) (a := a) (xs := xs)) Pv (h0 H1 e) hl (fun i x σ' H' H'' hi pc y => by
    obtain ⟨T, i', c, rfl, hT, rfl, hi', hc⟩ := y
    cases hi'
    exact hs i c σ' H' T hc pc hT) hd⟩
/-- objects told with what they hold -/
theorem Rs.choose {α β : Type} {S : α → β → Addr → Hp → Prop} {H : Hp} {vs : List V} {xs : List α} (r : Rs (fun x p H => ∃ d, S x d p H) H vs xs) : ∃ ds : List β, ds.length = xs.length ∧ Rs (fun (e : α × β) p H => S e.1 e.2 p H) H vs (xs.zip ds) := by
  induction r with
  | nil => exact ⟨[], rfl, .nil⟩
  | cons r0 _ ih =>
    obtain ⟨d, hd⟩ := r0
    obtain ⟨ds, h1, h2⟩ := ih
    exact ⟨d :: ds, by rw [List.length_cons, List.length_cons, h1], .cons hd h2⟩
/-! sorted(d) of a dict with one tuple key at most -/
theorem list_sort_few {prog : Program} {w : World} {A : Around} {E : Value → Shared → Prop} {s : Shared} {a : Addr} {vs : List Value} {n : Nat} {P : Fin → Shared → Prop} (ho : s.heap.get? a = some (seqObj "list" vs.toArray n)) (h2' : vs.length < 2)
    (h : P (.done (.ret .none)) { s with heap := sortedHeap s.heap a vs vs.toArray }) : wpAny (model prog w) A (Builtin.«list.sort» ⟨[.ref a], []⟩) P E s := by
  rw [list_sort_plain]
  have ha : a < s.heap.objs.size := Heap.lt_size ho
  have hle : vs.length ≤ sizeLine := by rw [sizeLine_eq]; omega
  refine wpAny_bind (listItems_at ho rfl ?_)
  refine wpAny_bind (listUpdate_at ho rfl ?_)
  obtain ⟨e1, ho1⟩ : ∃ e1, (s.heap.update a (Obj.mapSeq fun _ => #[])).get? a = some (seqObj "list" #[] e1) := ⟨_, get?_update_seq ho (fun _ => #[])⟩
  refine wpAny_bind (seqEpoch_at ho1 rfl ?_)
  refine wpAny_bind (wpAny_newTuple ?_)
  refine wpAny_bind (wpAny_newList ?_)
  refine wpAny_holding ?_
  have ho6 : (((s.heap.update a (Obj.mapSeq fun _ => #[])).push (seqObj "tuple" vs.toArray 0)).push (seqObj "list" #[] 0)).get? a = some (seqObj "list" #[] e1) := by
    rw [Heap.get?_push_ne _ _ _ (by rw [size_push', Heap.size_update]; exact Nat.ne_of_lt (Nat.lt_succ_of_lt ha)), Heap.get?_push_ne _ _ _ (by rw [Heap.size_update]; exact Nat.ne_of_lt ha)]
    exact ho1
  show wpAny (model prog w) A _ P E { s with heap := ((s.heap.update a (Obj.mapSeq fun _ => #[])).push (seqObj "tuple" vs.toArray 0)).push (seqObj "list" #[] 0) }
  dsimp only
  have hsz : vs.toArray.size = vs.length := by simp
  have h2 : vs.toArray.size < 2 := by omega
  rw [if_pos h2, if_pos h2]
  refine wpAny_bind (wpAny_pure ?_)
  rw [StateT.run_pure]
  refine wpAny_bind (wpAny_pure ?_)
  dsimp only
  refine wpAny_bind (seqEpoch_at ho6 rfl ?_)
  refine wpAny_bind (listUpdate_at ho6 rfl ?_ (hsz2 := by rw [Array.size_map]; show (pairsOf vs).size ≤ _; rw [pairsOf_size, sizeLine_eq]; omega))
  simp only [bne_self_eq_false, Bool.false_eq_true, if_false]
  have e : (arrOf (SortSt.mk' general' (vs.toArray.zip vs.toArray) #[] 7 none)).map (·.2) = vs.toArray := by
    show (vs.toArray.zip vs.toArray).map (·.2) = vs.toArray
    apply Array.ext'
    rw [Array.toList_map]
    simp [List.map_snd_zip]
  rw [e]
  exact wpAny_pure h
theorem call_sortedDT1 {X : Cx} (hcalm : X.calm = true) : CallR X (.builtin "sorted") (fun xs H Q => ∃ (d : Addr) (kvs : List (List Key × V)), xs = [.ref d] ∧ Rd H d (.dT kvs) ∧ kvs.length < 2 ∧
    ∀ (p : Addr) (bs : List Addr), H p = none → IsKeys H kvs bs → Q (.ref p) (upd H p (.lst (bs.map V.ref)))) := by
  intro pins s σ H xs us Q I r q
  obtain ⟨d, kvs, ex, hd, h2, q⟩ := q
  subst ex
  obtain ⟨u, eu, rx⟩ := vals1 r
  subst eu
  cases rx
  obtain ⟨z, hs, ks, pr, o, es, ep, ho, hx, hdt, he, hn⟩ := (show ObjOk X.prog X.w H s.heap d (.dT kvs) from hd.ok I.hok)
  have l1 : es.size = ks.length := size_of_entries he
  have l2 : kvs.length = ks.length := Paired.length pr
  refine Calls.call_function_entry PyProof.Rows.kind_sorted PyProof.Rows.plain_sorted PyProof.Rows.entry_sorted (PyProof.Rows.args_sorted1 _) ?_
  unfold Builtin.«sorted»
  refine wpAny_bind (m := checkCount "sorted" 1 1 _) (wpAny_pure ?_)
  refine wpAny_bind (PySem.W.kdu_collect (A := X.A.in1) (kdl_raw hs hx hdt) (I.ok.hd hcalm) ho (by omega) fun h' tk acc' hk it => ?_)
  have ea : acc'.toList = (ks.map fun x => x.2.1).map Value.ref := by
    have hl : acc'.toList.length = ks.length := by rw [Array.length_toList, it.1]; exact l1
    apply List.ext_getElem?
    intro j
    rw [List.map_map, List.getElem?_map]
    cases hj : acc'.toList[j]? with
    | none =>
      have h1 := List.getElem?_eq_none_iff.mp hj
      rw [List.getElem?_eq_none (by omega)]
      rfl
    | some v =>
      obtain ⟨en, hen, hv⟩ := it.2 j v (by rw [← Array.getElem?_toList]; exact hj)
      have qe := entry_at he j
      rw [hen] at qe
      cases hb : ks[j]? with
      | none =>
        rw [hb] at qe
        exact nomatch (show some en = none from qe)
      | some b =>
        rw [hb] at qe
        have e2 : en = entryOfKey (tupleKind (mixKind X.prog X.w)) b := Option.some.inj qe
        rw [hv, e2]
        rfl
  have hal : acc'.toList.length = ks.length := by rw [ea, List.length_map, List.length_map]
  have I1 : Inv X pins σ H { s with heap := h', toks := tk } := I.kept hk
  refine wpAny_bind (wpAny_newList ?_ (by rw [hal, sizeLine_eq]; omega))
  have hoL : (h'.push (seqObj "list" acc'.toList.toArray 0)).get? h'.objs.size = some (seqObj "list" acc'.toList.toArray 0) := Heap.get?_push_size _ rfl
  show wpAny _ _ _ _ _ { s with heap := h'.push (seqObj "list" acc'.toList.toArray 0), toks := tk }
  refine wpAny_bind (wpAny_holding (wpAny_call_entry PyProof.Rows.slot_list_sort ⟨_, hoL, rfl⟩ PyProof.Rows.entry_list_sort
    (list_sort_few (s := { s with heap := h'.push (seqObj "list" acc'.toList.toArray 0), toks := tk }) hoL (by rw [hal]; omega) ⟨_, rfl, ?_⟩) (PyProof.Rows.args_list_sort _)))
  obtain ⟨e', he'⟩ := PyProof.Rows.sortedHeap_at (vs := acc'.toList) (out := acc'.toList.toArray) hoL
  have hlen : ((ks.map fun x => x.2.1).map V.ref).length ≤ sizeLine := by
    rw [List.length_map, List.length_map, sizeLine_eq]
    omega
  refine wpAny_pure ⟨_, rfl, .ref h'.objs.size, upd H h'.objs.size (.lst ((ks.map fun x => x.2.1).map V.ref)), I1.laid (t' := tk) (fun b u e => ?_) (Nat.le_refl _)
    (show ObjOk X.prog X.w _ _ _ (.lst ((ks.map fun x => x.2.1).map V.ref)) from ⟨hlen, acc'.toList, e', by rw [ea]; exact vals_refs _, by exact he'⟩), rfl, q _ _ (I1.hok.fresh (Nat.le_refl _)) (isKeys_of pr)⟩
  have hb : b < h'.objs.size := Heap.lt_size e
  rw [PyProof.Rows.sortedHeap_old (Nat.ne_of_lt hb) (by rw [size_push']; exact Nat.lt_succ_of_lt hb)]
  exact Heap.get?_push_of_some _ e
/-- a comprehension over a new list of objects -/
theorem ers_lcR {α β : Type} {S : β → Addr → Hp → Prop} {R : α → Addr → Hp → Prop} {ks : List β} {f : β → α} {K : PySem.W.Frag} {σ : L2.St} {H : Hp} {te tl : TE} {j : Nat} {ws : List Nat} (upS : Up S) (up : Up R) (off : Off R) (h : EvRs tl σ H S ks) (hn : ks.length ≤ 40000) (hw : ∀ x, wipe ((wipe σ ws).set j (some x)) ws = wipe σ ws)
    (he : ∀ (k : β) (q : Addr) (H1 : Hp), k ∈ ks → Ex H H1 → S k q H1 → EvN te ((wipe σ ws).set j (some (.ref q))) H1 (R (f k))) : EvRs (tLc (iList K tl) (gName j) tYes te ws) σ H R (ks.map f) := fun H0 e Q q => h H0 e _ fun a us H1 ha e1 h1 r1 => ⟨a, rfl, ⟨us, sq_of h1⟩, by
  have l1 := r1.len
  exact lcRs (H0 := H1) (walk_list (K := K) (a := a) (xs := us)) up off (by omega) (by rw [List.length_map]; omega) (fun H2 e2 => ex_l e2 (sq_of h1)) (fun i y x H2 H3 hy e2 yy k hk => by
    obtain ⟨rfl, hu⟩ := yy
    obtain ⟨p, z, rfl, hz, hS⟩ := r1.get hu
    rw [List.getElem?_map, hz] at hy
    cases hy
    exact hk _ _ (Ex.refl _) (hw _) (he z p _ (List.mem_of_getElem? hz) ((e.trans e1).trans e2) (upS _ _ _ _ e2 hS))) fun l vs H2 hl0 e2 h2 r => q l vs H2 (fresh_back e1 hl0) (e1.trans e2) h2 r⟩
/-! len(set(xs)) of any ints -/
def dedN (ns : List Int) : List Int := PyProof.Rows.firstMet (fun i => ns.getD i 0) ns.length
theorem met_all (f : Nat → Int) : ∀ i, (PyProof.Rows.firstMet f i).length ≤ i ∧ ((PyProof.Rows.firstMet f i).length = i → PyProof.Rows.firstMet f i = (List.range i).map f ∧ ((List.range i).map f).Nodup)
  | 0 => ⟨Nat.le_refl _, fun _ => ⟨rfl, by simp⟩⟩
  | i + 1 => by
    obtain ⟨h1, h2⟩ := met_all f i
    rw [PyProof.Rows.firstMet_succ]
    show (if (PyProof.Rows.firstMet f i).any (· == f i) = true then PyProof.Rows.firstMet f i else PyProof.Rows.firstMet f i ++ [f i]).length ≤ i + 1 ∧ ((if (PyProof.Rows.firstMet f i).any (· == f i) = true then PyProof.Rows.firstMet f i else PyProof.Rows.firstMet f i ++ [f i]).length = i + 1 → (if (PyProof.Rows.firstMet f i).any (· == f i) = true then PyProof.Rows.firstMet f i else PyProof.Rows.firstMet f i ++ [f i]) = _ ∧ _)
    by_cases h : (PyProof.Rows.firstMet f i).any (· == f i) = true
    · rw [if_pos h]
      exact ⟨by omega, fun z => by omega⟩
    · rw [if_neg h, List.length_append]
      refine ⟨by show _ + 1 ≤ _; omega, fun z => ?_⟩
      have z' : (PyProof.Rows.firstMet f i).length = i := by
        have : (PyProof.Rows.firstMet f i).length + 1 = i + 1 := z
        omega
      obtain ⟨e, nd⟩ := h2 z'
      rw [e] at h ⊢
      rw [List.range_succ, List.map_append]
      refine ⟨rfl, List.nodup_append.mpr ⟨nd, by simp, fun a ha b hb => ?_⟩⟩
      rw [List.map_cons, List.map_nil, List.mem_singleton] at hb
      rintro rfl
      exact h (List.any_eq_true.mpr ⟨a, ha, by rw [hb]; exact beq_self_eq_true _⟩)
theorem ded_len (ns : List Int) : (dedN ns).length ≤ ns.length := (met_all _ _).1
theorem ded_iff (ns : List Int) : (dedN ns).length = ns.length ↔ ns.Nodup := by
  constructor
  · intro h
    have := ((met_all (fun i => ns.getD i 0) ns.length).2 h).2
    have e : (List.range ns.length).map (fun i => ns.getD i 0) = ns := by
      apply List.ext_getElem
      · simp
      · intro k h1 h2
        rw [List.getElem_map, List.getElem_range, List.getD_eq_getElem?_getD, List.getElem?_eq_getElem h2]
        rfl
    rwa [e] at this
  · intro h
    unfold dedN
    rw [RZ.firstMet_nodup h ns.length (Nat.le_refl _), List.take_length]
def tLenSetG (K : PySem.W.Frag) (ta : TE) : TE := fun σ H Q => ta σ H fun x H1 => ∃ (l : Addr) (ns : List Int), x = .ref l ∧ SqL K H1 l (ns.map V.int) ∧ ns.length ≤ 4000 ∧ Q (.int ((dedN ns).length : Nat)) H1
theorem pe_lenSetG {X : Cx} {a : Expr} {ta : TE} {p p2 q pos : Pos} (hg : Gl X "len") (hm : X.mg "len" = none) (hg2 : Gl X "set") (hm2 : X.mg "set" = none) (ha : PE X a ta) (hc : X.calm = true := by rfl)
    (na : starEach [a] X.env = (false, eval a X.env) :: starEach [] X.env := by rfl) : PE X (.Call (.Name "len" p) [.Call (.Name "set" p2) [a] [] q] [] pos) (tLenSetG X.K ta) := by
  refine ⟨fun pins s σ H Q I h => ?_⟩
  refine Call_ (ld_blt I hg hm boot_len ?_)
  refine PyProof.Rows.callWith_builtin1 (PyProof.Rows.args_cons ?_ rfl) rfl rfl
  refine Call_ (ld_blt I hg2 hm2 boot_set ?_)
  refine PyProof.Rows.callWith_type1 (PyProof.Rows.args_cons (thn (ha.run pins s σ H _ I h) fun v s1 ⟨x, H1, I1, r1, q1⟩ => PyProof.Rows.args_nil ?_) na) na rfl
  obtain ⟨l, ns, rfl, hq, hl, q1⟩ := q1
  cases r1
  obtain ⟨its, r, pl, hz⟩ := I1.list hq
  have hlen : its.toArray.size = ns.length := by rw [List.size_toArray, ← r.length, List.length_map]
  refine call_set_list (I1.ok.hd hc) pl.isList (by simpa using RZ.intsAre_vals r) (by rw [hlen]; unfold scanBound; omega) fun h' tk hS hk => ?_
  refine PyProof.Rows.args_nil ?_
  rw [hlen] at hS
  have hdl := ded_len ns
  rw [show PyProof.Rows.firstMet (fun i => ns.getD i 0) ns.length = dedN ns from rfl] at hS
  obtain ⟨o, es, ep, t, ho, hex, hd, _, _, _, hf, hn⟩ := hS
  have I2 : Inv X pins σ H1 { s1 with heap := h', toks := tk } := I1.kept fun b o e => hk b o (Heap.lt_size e) e
  exact call_len_set ho hex hd hf (by rw [hn] <;> omega) ⟨.int (dedN ns).length, H1, I2.tok _, ⟨_, by rw [hn]⟩, q1⟩
/-! exceptions that keep two things -/
def spXI2 (C : Addr) (f g : Str) : Sp := fun vs H Q _ => ∃ (a : Addr) (v w : V), vs = [.ref a, v, w] ∧ H a = some (exo a C none) ∧ ∀ dx, H dx = none → dx ≠ a → Q .non (upd (upd (upd H dx (exd dx [(f, v)])) a (exo a C (some dx))) dx (exd dx [(g, w), (f, v)]))
theorem mkX2 {C : Addr} {f g : Str} {σ : L2.St} {H : Hp} {te tf : TE} {v w : V} {Q : XK} (h : Ev te σ H v) (k : Ev tf σ H w) (q : ∀ d H1, H d = none → Ex H H1 → H1 d = some (.xd [(g, w), (f, v)]) → Q (.ref C) (some d) H1) : tMkO C (spXI2 C f g) [] (tCons te (tCons tf tNil)) σ H Q :=
  h H (Ex.refl _) _ fun H0 e0 => k H0 e0 _ fun H1 e01 => ⟨by simp, fun a ha => ⟨a, v, w, rfl, upd_same, fun dx hdx hne => by
    have e1 := e0.trans e01
    have hd1 : H1 dx = none := by
      rw [upd_ne hne] at hdx
      exact hdx
    refine ⟨rfl, dx, _, by rw [upd_ne (Ne.symm hne), upd_same], upd_same, hd1, q dx _ (fresh_back e1 hd1) (e1.trans fun b o hb => ?_) upd_same⟩
    have nb : b ≠ dx := ne_of_none hb hd1
    have na : b ≠ a := ne_of_none hb ha
    rw [upd_ne nb, del_ne na, upd_ne nb, upd_ne na, upd_ne nb, upd_ne na]
    exact hb⟩⟩
theorem cr_sortedIK {X : Cx} (K : PySem.W.Frag) (e : X.K = K) : CallR X (.builtin "sorted") (rSortedI K) := e ▸ cr_sortedI
end Kz
namespace Kz
open PySem PySem.Spec PyProof.Rows L2 Evl StX
/-! ### the set comprehension with two fors -/
section
variable {prog : Program} {w : World} {A : Around} {R : Result → Shared → Prop} {e elt t0 i0 t1 i1 : Expr} {scope : Scope} {pos : Pos} {it acc : Value} {env : Env} {s : Shared}
abbrev Nb (prog : Program) (w : World) (A : Around) (env : Env) (R : Result → Shared → Prop) : Value → Shared → Prop := notedBy (model prog w) A env fun x s' => R (.error x) s'
/-- one loop of a comprehension whose turn is stored and goes on with rest -/
theorem turns {d : Nat} {p0 : Pos} {tg : Expr} {rest : Sem Fin} (hq : (Code.compLoop e d it acc env).quiet = true)
    (hden : (model prog w).den (.compLoop e d it acc env) = (compTurn e d it acc env).onRaise (fun x => do noteFrame x env; theTreesLotGoes x)) (hund : A.under (.compLoop e d it acc env) = A)
    (ht : compTurn e d it acc env = (standAt p0 >>= fun _ => pyNext it >>= fun r => match r with
      | none => pure (.done .next)
      | some v => letOwnedTupleGo tg it v >>= fun _ => assign tg env v >>= fun _ => rest))
    (I : Nat → Shared → Prop)
    (turn : ∀ n s, I n s → wpAny (model prog w) A (pyNext it) (fun r s1 => match r with
      | none => R (.ok .next) s1
      | some v => wpAny (model prog w) A (letOwnedTupleGo tg it v) (fun _ s2 => wpAny (model prog w) A (assign tg env v) (fun _ s3 =>
          wpAny (model prog w) A rest (fun z s4 => z = .again (.compLoop e d it acc env) ∧ ∃ m, m < n ∧ I m s4) (Nb prog w A env R) s3) (Nb prog w A env R) s2) (Nb prog w A env R) s1) (Nb prog w A env R) s)
    (n : Nat) (h : I n s) : codeAny (model prog w) A (.compLoop e d it acc env) R s := by
  refine codeAny_loop hq I (fun n s hI => ?_) n h
  rw [hden, hund]
  refine wpAny_noted ?_
  rw [ht]
  refine wpAny_bind (wpAny_standAt (wpAny_bind (thn (turn n s hI) fun r s1 h1 => ?_)))
  cases r with
  | none => exact wpAny_pure h1
  | some v =>
    refine wpAny_bind (thn h1 fun _ s2 h2 => wpAny_bind (thn h2 fun _ s3 h3 => thn h3 fun z s4 h4 => ?_))
    obtain ⟨rfl, h4⟩ := h4
    exact ⟨rfl, h4⟩
abbrev sc2 (elt t0 i0 t1 i1 : Expr) (scope : Scope) (pos : Pos) : Expr := .SetComp elt [⟨t0, i0, [], 0⟩, ⟨t1, i1, [], 0⟩] scope pos
theorem turn_out : compTurn (sc2 elt t0 i0 t1 i1 scope pos) 0 it acc env = (standAt i0.pos >>= fun _ => pyNext it >>= fun r => match r with
      | none => pure (.done .next)
      | some v => letOwnedTupleGo t0 it v >>= fun _ => assign t0 env v >>= fun _ =>
        eval i1 env >>= fun x => standAt i1.pos >>= fun _ => foldedSetIterable i1 env x >>= fun x => holding [x] (pyIter x) >>= fun j => runOwn (.compStart (sc2 elt t0 i0 t1 i1 scope pos) 1 j acc env) env >>= fun _ => again (.compLoop (sc2 elt t0 i0 t1 i1 scope pos) 0 it acc env)) := by rfl
theorem turn_in : compTurn (sc2 elt t0 i0 t1 i1 scope pos) 1 it acc env = (standAt i1.pos >>= fun _ => pyNext it >>= fun r => match r with
      | none => pure (.done .next)
      | some v => letOwnedTupleGo t1 it v >>= fun _ => assign t1 env v >>= fun _ =>
        (eval elt env >>= fun x => standAt elt.pos >>= fun _ => call (.builtin "set.add") [acc, x] >>= fun _ => pure ()) >>= fun _ => again (.compLoop (sc2 elt t0 i0 t1 i1 scope pos) 1 it acc env)) := by rfl
end

/-- where the inner loop begins -/
theorem start_in {prog : Program} {w : World} {A : Around} {R : Result → Shared → Prop} {elt t0 i0 t1 i1 : Expr} {scope : Scope} {pos : Pos} {it acc : Value} {env : Env} {s : Shared}
    (h0 : codeAny (model prog w) A (.compLoop (sc2 elt t0 i0 t1 i1 scope pos) 1 it acc env) R s)
    (h : wpAny (model prog w) A (pyIter it) (fun j s' => codeAny (model prog w) A (.compLoop (sc2 elt t0 i0 t1 i1 scope pos) 1 j acc env) R s') (notedBy (model prog w) A env fun x s' => R (.error x) s') s) :
    codeAny (model prog w) A (.compStart (sc2 elt t0 i0 t1 i1 scope pos) 1 it acc env) R s := by
  have e : compStart (sc2 elt t0 i0 t1 i1 scope pos) 1 it acc env = (ask >>= fun r => if r.params.followText "comprehension-iter-twice" = true then again (.compLoop (sc2 elt t0 i0 t1 i1 scope pos) 1 it acc env)
      else rule "comprehension.iter-twice" >>= fun _ => standAt i1.pos >>= fun _ => pyIter it >>= fun j => again (.compLoop (sc2 elt t0 i0 t1 i1 scope pos) 1 j acc env)) := by rfl
  refine codeAny_of_tree ?_
  show wpAny _ _ ((compStart (sc2 elt t0 i0 t1 i1 scope pos) 1 it acc env).onRaise (fun x => do noteFrame x env; standAt theWindowsPlace)) _ _ s
  refine wpAny_notedAt ?_
  rw [e]
  refine wpAny_bind (wpAny_askSetting ?_)
  split
  · exact wpAny_pure ⟨rfl, h0⟩
  · exact wpAny_bind (wpAny_rule (wpAny_bind (wpAny_standAt (wpAny_bind (wpAny_mono h (fun j s' hj => wpAny_pure ⟨rfl, hj⟩) fun _ _ z => z)))))
/-- {elt for t0 in i0 for t1 in i1} where each elt is an int: D the new set -/
def tSc2 (w : World) (wi : TI) (g : TG) (wi1 : TI) (g1 : TG) (te : TE) (vs vs1 : List Nat) : TE := fun σ H Q => wi σ H fun J H1 => ∀ D, H1 D = none → ∃ W : Nat → Nat → Hp → Prop, (∃ m, W 0 m (upd H1 D (SetO w D (fun _ => false) 0))) ∧ ∀ i m H2, W i m H2 →
  (J.stop i H2 ∧ Q (.ref D) H2) ∨ (J.go i H2 ∧ ∃ N0 : Hp → Prop, (∀ H3, N0 H3 → ∃ m', m' < m ∧ W (i + 1) m' H3) ∧ ∀ x H3, J.yld i H2 x H3 → g x (wipe σ vs) H3 fun σ2 H4 => wipe σ2 vs = wipe σ vs ∧
    wi1 σ2 H4 fun J1 H5 => ∃ W1 : Nat → Nat → Hp → Prop, (∃ m, W1 0 m H5) ∧ ∀ j k H6, W1 j k H6 →
      (J1.stop j H6 ∧ N0 H6) ∨ (J1.go j H6 ∧ ∃ N1 : Hp → Prop, (∀ H7, N1 H7 → ∃ k', k' < k ∧ W1 (j + 1) k' H7) ∧ ∀ y H7, J1.yld j H6 y H7 → g1 y (wipe σ2 vs1) H7 fun σ3 H8 => wipe σ3 vs1 = wipe σ2 vs1 ∧
        te σ3 H8 fun v H9 => ∃ (c : Int) (S : Int → Bool) (n : Nat), v = .int c ∧ H9 D = some (SetO w D S n) ∧ n + 1 < scanBound ∧ N1 (upd H9 D (SetO w D (fun z => S z || decide (z = c)) (if S c = true then n else n + 1)))))
section
variable {X : Cx}
/-- set.add of an int -/
theorem put_int {pins : List (Addr × Obj)} {σ : L2.St} {H : Hp} {s : Shared} {E : Value → Shared → Prop} {D : Addr} {S : Int → Bool} {n : Nat} {c : Int} {v : Value} {Q : Value → Shared → Prop} (I : Inv X pins σ H s) (hD : H D = some (SetO X.w D S n)) (room : n + 1 < scanBound) (rv : RelV (.int c) v)
    (k : ∀ s', Inv X pins σ (upd H D (SetO X.w D (fun z => S z || decide (z = c)) (if S c = true then n else n + 1))) s' → Q .none s') : wpAny (model X.prog X.w) X.A (call (.builtin "set.add") [.ref D, v]) Q E s := by
  obtain ⟨tk, rfl⟩ := rv
  refine setR_add (setO_get I hD) room fun h' sb new => k _ ?_
  obtain ⟨ob, _, _, _, hob, _⟩ := id new
  exact I.write (e := D) (t' := s.toks + 1) (by rw [hD]; trivial) (.inl rfl) (fun b u hb hu => (sb.2 b hb).trans hu) ⟨ob, hob⟩ (setO_new new)
theorem sc2_loops {pins : List (Addr × Obj)} {s : Shared} {σ : L2.St} {H : Hp} {Q : VK} {elt tg iter tg1 iter1 : Expr} {scope : Scope} {own : List (Str × Nat)} {vs1 : List Nat} {pos pos' : Pos} {wi wi1 : TI} {g g1 : TG} {te : TE} {Qf : Value → Shared → Prop}
    (hc : X.calm = true) (hN : X.N.Nodup) (I : Inv X pins σ H s) (hi : PI X tg iter wi) (ok : BlkOk X.N X.env.scope scope own) (hv : ∀ i ∈ vs1, i ∈ own.map (·.2))
    (hg : ∀ (s : Shared) (H : Hp) (C : Addr) (cl : List (Str × Addr)) (fp : List Addr), PG (X.blk s H scope (compEnvC scope cl C X.env) fp) tg g)
    (he : ∀ (s : Shared) (H : Hp) (C : Addr) (cl : List (Str × Addr)) (fp : List Addr), PE (X.blk s H scope (compEnvC scope cl C X.env) fp) elt te) (hs : ∀ x, foldedSetIterable iter X.env x = pure x)
    (hi1 : ∀ (s : Shared) (H : Hp) (C : Addr) (cl : List (Str × Addr)) (fp : List Addr), PI (X.blk s H scope (compEnvC scope cl C X.env) fp) tg1 iter1 wi1)
    (hg1 : ∀ (s : Shared) (H : Hp) (C : Addr) (cl : List (Str × Addr)) (fp : List Addr), PG (X.blk s H scope (compEnvC scope cl C X.env) fp) tg1 g1) (hs1 : ∀ env x, foldedSetIterable iter1 env x = pure x)
    (h : tSc2 X.w wi g wi1 g1 te (own.map (·.2)) vs1 σ H Q)
    (hRR : ∀ D C s' m H', Inv X pins σ H' s' → Q (.ref D) H' → s'.heap.Ns C m → FpOk X pins H' C → compPost (model X.prog X.w) X.A X.xe none Qf (.ref D) C (.ok .next) s') :
    wpAny (model X.prog X.w) X.A (comprehension (sc2 elt tg iter tg1 iter1 scope pos) scope X.env pos' (newSet (.type "set")) false (eval iter X.env) none) Qf X.xe s := by
  have cells : ∀ y ∈ scope.names, y.2 = .free → ∃ c, X.env.cells.lookup y.1 = some c := fun y hy e => (ok.free y hy e).elim (fun k => I.ok.has _ (.inl k)) fun k => I.ok.has _ (.inr k)
  refine wpAny_comprehension_free (use := none) rfl hs (closure_ok cells) ok.kind (fun y hy e => by rw [ok.uniq y hy, e]) (thn (hi.run pins s σ H _ I h) fun xv s1 hx => thn hx fun itv s2 h2 => ?_)
  obtain ⟨it, fp, tn, J, H2, rfl, I2, T, st2, f2, q⟩ := h2
  refine PpSet.newSet_ok (newEnv_comp ?_)
  have new0 := setR_fresh (h := s2.heap) X.w
  generalize hD : s2.heap.objs.size = D at new0 ⊢
  obtain ⟨W, ⟨m0, w0⟩, turn⟩ := q D (I2.hok.fresh (Nat.le_of_eq hD))
  have lt2 : ∀ b ∈ fp, b < D := fun b hb => by
    obtain ⟨o, e, _⟩ := T.obj _ _ st2 b hb
    rw [← hD]
    exact Heap.lt_size e
  have I3 := I2.laid (a := D) (o := SetO X.w D (fun _ => false) 0) (h' := s2.heap.push { cls := .type "set", dict := none, data := .set #[] 0 (.fresh 0 0 (!X.w.params.followText "set-order")) }) (t' := s2.toks) (fun b o e => Heap.get?_push_of_some _ e) (Nat.le_of_eq hD) (setO_new new0)
  have st3 := T.keep _ _ (s2.heap.push { cls := .type "set", dict := none, data := .set #[] 0 (.fresh 0 0 (!X.w.params.followText "set-order")) }) st2 fun b _ o e => Heap.get?_push_of_some _ e
  have big : D < (s2.heap.push { cls := .type "set", dict := none, data := .set #[] 0 (.fresh 0 0 (!X.w.params.followText "set-order")) }).objs.size := by
    rw [Heap.size_push, hD]
    exact Nat.lt_succ_self _
  generalize s2.heap.push { cls := .type "set", dict := none, data := .set #[] 0 (.fresh 0 0 (!X.w.params.followText "set-order")) } = hp3 at I3 st3 big ⊢
  obtain ⟨s3, hs3⟩ : ∃ s3 : Shared, s3 = { s2 with heap := hp3 } := ⟨_, rfl⟩
  rw [← hs3] at I3
  have hh3 : s3.heap = hp3 := by rw [hs3]
  generalize hH3 : upd H2 D (SetO X.w D (fun _ => false) 0) = H3 at I3 w0
  have f3 : ∀ b ∈ fp, FpOk X pins H3 b ∧ b < s3.heap.objs.size := fun b hb => by
    have lt := lt2 b hb
    refine ⟨⟨?_, (f2 b hb).2⟩, by rw [hh3]; exact Nat.lt_trans lt big⟩
    rw [← hH3, upd_ne (Nat.ne_of_lt lt)]
    exact (f2 b hb).1
  have I4 := block_start I3 ok hN f3
  show codeAny _ _ (.compStart (sc2 elt tg iter tg1 iter1 scope pos) 0 (.ref it) (.ref D) (compEnvC scope (cellsFrom (hp3.objs.size + 1) scope.names (cloFrom X.env.cells scope.names [])) hp3.objs.size X.env)) (compPost (model X.prog X.w) X.A X.xe none Qf (.ref D) hp3.objs.size) { s2 with heap := pushCells (hp3.push { cls := .type "dict", data := .dict #[] }) scope.names }
  obtain ⟨s4, hs4⟩ : ∃ s4 : Shared, s4 = { s2 with heap := pushCells (hp3.push { cls := .type "dict", data := .dict #[] }) scope.names } := ⟨_, rfl⟩
  rw [hh3] at I4
  have I4 : Inv (X.blk s3 H3 scope (compEnvC scope (cellsFrom (hp3.objs.size + 1) scope.names (cloFrom X.env.cells scope.names [])) hp3.objs.size X.env) fp) [] (wipe σ (own.map (·.2))) H3 s4 := by
    rw [hs4]
    rw [hs3] at I4 ⊢
    exact I4
  rw [← hs4]
  have st4 : tn 0 s4.heap := T.keep _ _ _ st3 fun b _ o e => by rw [hs4]; exact pushCells_keeps _ _ _ _ (Heap.get?_push_of_some _ e)
  have pg := hg s3 H3 hp3.objs.size (cellsFrom (hp3.objs.size + 1) scope.names (cloFrom X.env.cells scope.names [])) fp
  have pe := he s3 H3 hp3.objs.size (cellsFrom (hp3.objs.size + 1) scope.names (cloFrom X.env.cells scope.names [])) fp
  have pi1 := hi1 s3 H3 hp3.objs.size (cellsFrom (hp3.objs.size + 1) scope.names (cloFrom X.env.cells scope.names [])) fp
  have pg1 := hg1 s3 H3 hp3.objs.size (cellsFrom (hp3.objs.size + 1) scope.names (cloFrom X.env.cells scope.names [])) fp
  have hC : (compEnvC scope (cellsFrom (hp3.objs.size + 1) scope.names (cloFrom X.env.cells scope.names [])) hp3.objs.size X.env).locals = hp3.objs.size := rfl
  generalize compEnvC scope (cellsFrom (hp3.objs.size + 1) scope.names (cloFrom X.env.cells scope.names [])) hp3.objs.size X.env = ce at I4 pg pe pi1 pg1 hC ⊢
  have stat : ∀ {σ' : L2.St} {H' : Hp} {s' : Shared}, Inv (X.blk s3 H3 scope ce fp) [] σ' H' s' → (∀ b ∈ fp, H' b = none) → ∀ b ∈ fp, FpOk (X.blk s3 H3 scope ce fp) [] H' b := fun {σ' H' s'} I' hn b hb =>
    ⟨hn b hb, (I'.ok.exf b hb).1, I'.ok.exfs b hb, .inl hb, fun x c e => (I'.ok.exf b hb).2 x c e, fun p hp => absurd (show p ∈ ([] : List (Addr × Obj)) ++ [] from hp) (by simp)⟩
  have loop : codeAny (model X.prog X.w) X.A (.compLoop (sc2 elt tg iter tg1 iter1 scope pos) 0 (.ref it) (.ref D) ce) (compPost (model X.prog X.w) X.A X.xe none Qf (.ref D) hp3.objs.size) s4 := by
    refine turns rfl rfl rfl turn_out (fun n s' => ∃ i H', Inv (X.blk s3 H3 scope ce fp) [] (wipe σ (own.map (·.2))) H' s' ∧ tn i s'.heap ∧ (∀ b ∈ fp, H' b = none) ∧ W i n H') ?_ m0 ⟨0, H3, I4, st4, fun b hb => (f3 b hb).1.1, w0⟩
    rintro n s5 ⟨i, H5, I5, st5, n5, w5⟩
    rcases turn i n H5 w5 with ⟨stop, qq⟩ | ⟨go, N0, hN0, step⟩
    · refine thnF (T.done (X.blk s3 H3 scope ce fp) rfl rfl rfl hc i [] s5 _ H5 (fun _ _ => False) I5 (stat I5 n5) st5 stop) fun r s6 ⟨hr, I6⟩ => ?_
      subst hr
      have I7 : Inv X pins σ H5 s6 := I3.call' (ch := fp) I6.os I6.base I6.hok I6.bare fun b hb => ⟨(f3 b hb).1.2.2.2.1, (f3 b hb).1.2.1, (f3 b hb).1.2.2.2.2.1, (f3 b hb).1.2.2.2.2.2⟩
      obtain ⟨m, hn, _⟩ := I6.loc
      have nC : H5 ce.locals = none := I6.free
      have hn : s6.heap.Ns ce.locals m := hn
      rw [hC] at hn nC
      exact hRR D hp3.objs.size s6 m H5 I7 qq hn (I3.fpOk (Nat.le_of_eq (by rw [hh3])) nC)
    · refine thnF (T.item (X.blk s3 H3 scope ce fp) rfl rfl rfl hc i [] s5 _ H5 (fun _ _ => False) I5 (stat I5 n5) st5 go) fun r s6 ⟨u, hr, h6⟩ => ?_
      subst hr
      refine thnF h6 fun _ s7 ⟨x, H7, I7, r7, y7, st7, n7⟩ => ?_
      have I7p := I7.pinned (stat I7 n7) (T.obj _ _ st7)
      refine thnF (pg.run _ s7 _ H7 x u _ I7p r7 (step x H7 y7)) fun _ s8 ⟨σ8, H8, I8, hw8, q8⟩ => ?_
      have len8 : (wipe σ (own.map (·.2))).length = σ8.length := by rw [← hw8, wipe_length]
      refine wpAny_bind (thnF (pi1.run _ s8 σ8 H8 _ I8 q8) fun xv s9 hx => wpAny_bind (wpAny_standAt (wpAny_bind (wpAny_of_eq (hs1 ce xv) (wpAny_bind (wpAny_holding (thnF hx fun itv s10 h10 => ?_)))))))
      obtain ⟨it1, fp1, tn1, J1, H10, rfl, I10, T1, st10, f10, W1, ⟨m1, w1⟩, turn1⟩ := h10
      have stat1 : ∀ {H' : Hp}, (∀ b ∈ fp1, H' b = none) → ∀ b ∈ fp1, FpOk (X.blk s3 H3 scope ce fp) ([] ++ pinsAt fp s7.heap) H' b := fun hn b hb => ⟨hn b hb, (f10 b hb).2⟩
      have inner : codeAny (model X.prog X.w) X.A (.compLoop (sc2 elt tg iter tg1 iter1 scope pos) 1 (.ref it1) (.ref D) ce) (fun z s' => match z with
          | .ok _ => ∃ m, m < n ∧ ∃ i H', Inv (X.blk s3 H3 scope ce fp) [] (wipe σ (own.map (·.2))) H' s' ∧ tn i s'.heap ∧ (∀ b ∈ fp, H' b = none) ∧ W i m H'
          | .error _ => False) s10 := by
        refine turns rfl rfl rfl turn_in (fun k s' => ∃ j H', Inv (X.blk s3 H3 scope ce fp) ([] ++ pinsAt fp s7.heap) (wipe σ8 vs1) H' s' ∧ tn1 j s'.heap ∧ (∀ b ∈ fp1, H' b = none) ∧ W1 j k H') ?_ m1 ⟨0, H10, I10.weak (wipe_length _ _) (fun j v e => (wipe_some e).1), st10, fun b hb => (f10 b hb).1, w1⟩
        rintro k s11 ⟨j, H11, I11, st11, n11, w11⟩
        rcases turn1 j k H11 w11 with ⟨stop1, nx0⟩ | ⟨go1, N1, hN1, step1⟩
        · refine thnF (T1.done (X.blk s3 H3 scope ce fp) rfl rfl rfl hc j _ s11 (wipe σ8 vs1) H11 (fun _ _ => False) I11 (stat1 n11) st11 stop1) fun r s12 ⟨hr, I12⟩ => ?_
          subst hr
          obtain ⟨m', lt, w'⟩ := hN0 H11 nx0
          have pin : ∀ b ∈ fp, ∀ o, s7.heap.get? b = some o → s12.heap.get? b = some o ∧ H11 b = none := fun b hb o e =>
            ⟨(I12.pin (b, o) (List.mem_append_right _ (List.mem_append_right _ (mem_pinsAt hb e)))).1, (I12.pin (b, o) (List.mem_append_right _ (List.mem_append_right _ (mem_pinsAt hb e)))).2.1⟩
          refine ⟨m', lt, i + 1, H11, (I12.unpinned (pins := [])).weak (len8.trans (wipe_length σ8 vs1).symm) (fun j v e => ?_), T.keep _ _ _ st7 fun b hb o e => (pin b hb o e).1, fun b hb => ?_, w'⟩
          · rw [← hw8] at e
            obtain ⟨e1, e2⟩ := wipe_some e
            rw [wipe_out fun z => e2 (hv j z)]
            exact e1
          · obtain ⟨o, e, _⟩ := T.obj _ _ st7 b hb
            exact (pin b hb o e).2
        · refine thnF (T1.item (X.blk s3 H3 scope ce fp) rfl rfl rfl hc j _ s11 (wipe σ8 vs1) H11 (fun _ _ => False) I11 (stat1 n11) st11 go1) fun r s12 ⟨u1, hr, h12⟩ => ?_
          subst hr
          refine thnF h12 fun _ s13 ⟨x1, H13, I13, r13, y13, st13, n13⟩ => ?_
          have I13p := I13.pinned (stat1 n13) (T1.obj _ _ st13)
          refine thnF (pg1.run _ s13 (wipe σ8 vs1) H13 x1 u1 _ I13p r13 (step1 x1 H13 y13)) fun _ s14 ⟨σ14, H14, I14, hw14, q14⟩ => ?_
          refine wpAny_bind (wpAny_bind (thnF (pe.run _ s14 σ14 H14 _ I14 q14) fun v s15 ⟨yv, H15, I15, r15, c, S, m, ey, hD15, room, nx⟩ => wpAny_bind (wpAny_standAt (wpAny_bind ?_))))
          subst ey
          refine put_int (X := X.blk s3 H3 scope ce fp) I15 hD15 room r15 fun s16 I16 => wpAny_pure (wpAny_pure ⟨rfl, ?_⟩)
          obtain ⟨k', lt, w'⟩ := hN1 _ nx
          have pin1 : ∀ b ∈ fp1, ∀ o, s13.heap.get? b = some o → s16.heap.get? b = some o ∧ (upd H15 D (SetO X.w D (fun z => S z || decide (z = c)) (if S c = true then m else m + 1))) b = none := fun b hb o e =>
            ⟨(I16.pin (b, o) (List.mem_append_right _ (List.mem_append_right _ (mem_pinsAt hb e)))).1, (I16.pin (b, o) (List.mem_append_right _ (List.mem_append_right _ (mem_pinsAt hb e)))).2.1⟩
          refine ⟨k', lt, j + 1, _, I16.unpinned.weak (by rw [← hw14, wipe_length]) (fun j v e => by rw [← hw14] at e; exact (wipe_some e).1), T1.keep _ _ _ st13 fun b hb o e => (pin1 b hb o e).1, fun b hb => ?_, w'⟩
          obtain ⟨o, e, _⟩ := T1.obj _ _ st13 b hb
          exact (pin1 b hb o e).2
      refine wpAny_bind (wpAny_runOwn ?_)
      rw [Around.mark_none]
      refine codeAny_mono (start_in inner (T1.self X.A 0 _ _ _ st10 inner)) fun z s' hz => ?_
      cases z with
      | ok f => exact wpAny_pure ⟨rfl, hz⟩
      | error er => exact hz.elim
  exact PpSet.codeAny_compStart_set loop (T.self X.A 0 _ _ _ st4 loop)
/-- as a value -/
theorem pe_sc2 {elt tg iter tg1 iter1 : Expr} {scope : Scope} {own : List (Str × Nat)} {vs1 : List Nat} {pos : Pos} {wi wi1 : TI} {g g1 : TG} {te : TE} (hc : X.calm = true) (hN : X.N.Nodup) (hi : PI X tg iter wi) (ok : BlkOk X.N X.env.scope scope own) (hv : ∀ i ∈ vs1, i ∈ own.map (·.2))
    (hg : ∀ (s : Shared) (H : Hp) (C : Addr) (cl : List (Str × Addr)) (fp : List Addr), PG (X.blk s H scope (compEnvC scope cl C X.env) fp) tg g)
    (hi1 : ∀ (s : Shared) (H : Hp) (C : Addr) (cl : List (Str × Addr)) (fp : List Addr), PI (X.blk s H scope (compEnvC scope cl C X.env) fp) tg1 iter1 wi1)
    (hg1 : ∀ (s : Shared) (H : Hp) (C : Addr) (cl : List (Str × Addr)) (fp : List Addr), PG (X.blk s H scope (compEnvC scope cl C X.env) fp) tg1 g1)
    (he : ∀ (s : Shared) (H : Hp) (C : Addr) (cl : List (Str × Addr)) (fp : List Addr), PE (X.blk s H scope (compEnvC scope cl C X.env) fp) elt te)
    (hs : ∀ x, foldedSetIterable iter X.env x = pure x := by intro _; rfl) (hs1 : ∀ env x, foldedSetIterable iter1 env x = pure x := by intro _ _; rfl) :
    PE X (sc2 elt tg iter tg1 iter1 scope pos) (tSc2 X.w wi g wi1 g1 te (own.map (·.2)) vs1) := by
  refine ⟨fun pins s σ H Q I h => ?_⟩
  rw [PpSet.eval_SetComp]
  refine sc2_loops hc hN I hi ok hv hg he hs hi1 hg1 hs1 h fun D C s' m H' I' q hn f => ⟨m, hn, fun h2 sb => ?_⟩
  obtain ⟨f0, f1, f2, f3, f4, f5⟩ := f
  exact ⟨.ref D, H', I'.turned (t' := s'.toks) (fun b o hb e => (sb.2 b hb).trans e) f0 f1 f3 f4 f5, rfl, q⟩
end
/-- members told by a list -/
def memZ (l : List Int) : Int → Bool := fun z => decide (z ∈ l)
theorem memZ_in {l : List Int} {c : Int} (h : c ∈ l) : (fun z => memZ l z || decide (z = c)) = memZ l := by
  funext z
  by_cases e : z = c
  · subst e
    simp [memZ, h]
  · simp [e]
theorem memZ_new {l : List Int} {c : Int} : (fun z => memZ l z || decide (z = c)) = memZ (l ++ [c]) := by
  funext z
  unfold memZ
  rw [← Bool.decide_or]
  congr 1
  simp
/-- the set at D holds what the lists hold -/
def SetD (w : World) (D : Addr) (l : List Int) (H : Hp) : Prop := ∃ d : List Int, d.Nodup ∧ (∀ z, z ∈ d ↔ z ∈ l) ∧ H D = some (SetO w D (memZ d) d.length)
theorem asc_uniq : ∀ {a b : List Int}, a.Pairwise (· < ·) → b.Pairwise (· < ·) → (∀ z, z ∈ a ↔ z ∈ b) → a = b := by
  intro a b ha hb h
  have p : a.Perm b := (List.perm_ext_iff_of_nodup (ha.imp fun h => Int.ne_of_lt h) (hb.imp fun h => Int.ne_of_lt h)).mpr h
  exact p.eq_of_pairwise (le := fun x y : Int => x ≤ y) (fun x y _ _ h k => Int.le_antisymm h k) (ha.imp fun h => Int.le_of_lt h) (hb.imp fun h => Int.le_of_lt h)
theorem nodup_asc {os : List Int} (h : os.Pairwise (· < ·)) : os.Nodup := h.imp fun h => Int.ne_of_lt h
/-- sorted({x for k in xs for x in ys(k)}) over lists that stand, as the ascending list of what the lists hold -/
theorem el_sortSc2 {w : World} {K : PySem.W.Frag} {σ : L2.St} {H : Hp} {tl te1 te : TE} {a : Addr} {us : List V} {ys : List (List Int)} {j k : Nat} {ws ws1 : List Nat} (h : Ev tl σ H (.ref a)) (hx : SqL K H a us) (hl : ys.length = us.length)
    (hw : ∀ x, wipe ((wipe σ ws).set j (some x)) ws = wipe σ ws) (hw1 : ∀ x y, wipe ((wipe ((wipe σ ws).set j (some x)) ws1).set k (some y)) ws1 = wipe ((wipe σ ws).set j (some x)) ws1)
    (hi : ∀ (i : Nat) (u : V) (y : List Int), us[i]? = some u → ys[i]? = some y → ∃ b, SqL K H b (y.map V.int) ∧ ∀ H1, Ex H H1 → Ev te1 ((wipe σ ws).set j (some u)) H1 (.ref b))
    (he : ∀ (u : V) (x : Int) (H1 : Hp), Ev te ((wipe ((wipe σ ws).set j (some u)) ws1).set k (some (.int x))) H1 (.int x))
    {os : List Int} (ho : os.Pairwise (· < ·)) (hm : ∀ z, z ∈ os ↔ z ∈ ys.flatten) (h64 : os.length < 60) :
    EvL (tCB (rSortedSet w) (tCons (tSc2 w (iList K tl) (gName j) (iList K te1) (gName k) te ws ws1) tNil)) σ H (os.map V.int) := fun H0 e Q q => h H0 e _ fun H1 e1 => ⟨a, rfl, ⟨us, ex_l (e.trans e1) hx⟩, fun D hD => by
  have wk := walk_list (K := K) (a := a) (xs := us)
  have few : ∀ d : List Int, d.Nodup → (∀ z ∈ d, z ∈ ys.flatten) → d.length < 60 := fun d hd hz => by
    have := List.Nodup.length_le_of_subset hd (l₂ := os) fun z hz1 => (hm z).mpr (hz z hz1)
    omega
  have sub : ∀ i, ∀ z ∈ (ys.take i).flatten, z ∈ ys.flatten := fun i z hz => by
    obtain ⟨l, hl, hz⟩ := List.mem_flatten.mp hz
    exact List.mem_flatten.mpr ⟨l, List.mem_of_mem_take hl, hz⟩
  refine ⟨fun i c H2 => c = us.length - i ∧ i ≤ us.length ∧ SetD w D (ys.take i).flatten H2 ∧ Ex H1 (hide D H2), ⟨us.length, rfl, Nat.zero_le _, ⟨[], List.nodup_nil, fun z => by simp, upd_same⟩, ?_⟩, ?_⟩
  · rw [hide_upd, hide_none hD]
    exact Ex.refl _
  rintro i c H2 ⟨rfl, hi0, ⟨d0, nd0, md0, hv⟩, e2⟩
  have e12 := (e.trans e1).trans (e2.trans hide_le)
  by_cases lt : i < us.length
  · refine .inr ⟨wk.goes i H2 lt (ex_l e12 hx), fun H' => SetD w D (ys.take (i + 1)).flatten H' ∧ Ex H1 (hide D H'), fun H' z => ⟨_, by omega, rfl, lt, z.1, z.2⟩, fun x H' yy => ?_⟩
    obtain ⟨rfl, hu⟩ := wk.yields i H2 x H' lt (ex_l e12 hx) yy
    obtain ⟨y, hy⟩ : ∃ y, ys[i]? = some y := ⟨ys[i]'(by omega), List.getElem?_eq_getElem (by omega)⟩
    obtain ⟨b, hb, hE⟩ := hi i x y hu hy
    refine ⟨hw _, ?_⟩
    show te1 _ H' _
    refine hE H' e12 H' (Ex.refl _) _ fun H3 e3 => ⟨b, rfl, ⟨_, ex_l (e12.trans e3) hb⟩, ?_⟩
    have w2 := walk_list (K := K) (a := b) (xs := y.map V.int)
    have tk : (ys.take (i + 1)).flatten = (ys.take i).flatten ++ y := by
      rw [List.take_add_one, hy, List.flatten_append]
      simp
    refine ⟨fun i2 c2 H4 => c2 = y.length - i2 ∧ i2 ≤ y.length ∧ SetD w D ((ys.take i).flatten ++ y.take i2) H4 ∧ Ex H1 (hide D H4), ⟨y.length, rfl, Nat.zero_le _, ⟨d0, nd0, fun z => by rw [md0 z, List.take_zero, List.append_nil], e3 _ _ hv⟩, e2.trans (ex_hide e3)⟩, ?_⟩
    rintro i2 c2 H4 ⟨rfl, hi2, ⟨d, nd, md, hv4⟩, e4⟩
    have q4 : SqL K H4 b (y.map V.int) := ex_l ((e.trans e1).trans (e4.trans hide_le)) hb
    have ln : (y.map V.int).length = y.length := List.length_map _
    by_cases lt2 : i2 < y.length
    · refine .inr ⟨w2.goes i2 H4 (by omega) q4, fun H' => SetD w D ((ys.take i).flatten ++ y.take (i2 + 1)) H' ∧ Ex H1 (hide D H'), fun H' z => ⟨_, by omega, rfl, lt2, z.1, z.2⟩, fun x2 H' yy => ?_⟩
      obtain ⟨rfl, hx2⟩ := w2.yields i2 H4 x2 H' (by omega) q4 yy
      rw [List.getElem?_map, List.getElem?_eq_getElem lt2] at hx2
      have hx3 : V.int (y[i2]) = x2 := Option.some.inj hx2
      subst hx3
      refine ⟨hw1 _ _, ?_⟩
      show te _ H' _
      have tk2 : y.take (i2 + 1) = y.take i2 ++ [y[i2]] := by
        rw [List.take_add_one, List.getElem?_eq_getElem lt2]
        rfl
      have l1 := few d nd fun z hz => by
        rw [md] at hz
        rcases List.mem_append.mp hz with hz | hz
        · exact sub i z hz
        · exact List.mem_flatten.mpr ⟨y, List.mem_of_getElem? hy, List.mem_of_mem_take hz⟩
      refine he _ _ H' H' (Ex.refl _) _ fun H5 e5 => ⟨y[i2], memZ d, d.length, rfl, e5 _ _ hv4, ?_, ?_⟩
      · have : (100 : Nat) < scanBound := by decide
        omega
      · refine ⟨?_, ?_⟩
        · by_cases hin : y[i2] ∈ d
          · refine ⟨d, nd, fun z => ?_, ?_⟩
            · rw [tk2, ← List.append_assoc, List.mem_append, ← md z, List.mem_singleton]
              exact ⟨.inl, fun h => h.elim id fun h => h ▸ hin⟩
            · rw [upd_same, memZ_in hin, if_pos (show memZ d y[i2] = true from decide_eq_true hin)]
          · refine ⟨d ++ [y[i2]], ?_, fun z => ?_, ?_⟩
            · rw [List.nodup_append]
              refine ⟨nd, by simp, fun x hx z hz => ?_⟩
              rw [List.mem_singleton.mp hz]
              exact fun h => hin (h ▸ hx)
            · rw [tk2, ← List.append_assoc, List.mem_append, List.mem_append (s := _ ++ _), md z]
            · rw [upd_same, memZ_new, if_neg (show ¬ memZ d y[i2] = true from fun h => hin (of_decide_eq_true h)), List.length_append]
              rfl
        · rw [hide_upd]
          exact e4.trans (ex_hide e5)
    · have ei : i2 = y.length := by omega
      subst ei
      rw [List.take_length] at md
      have st := w2.stops H4 q4
      rw [ln] at st
      exact .inl ⟨st, ⟨d, nd, fun z => by rw [tk]; exact md z, hv4⟩, e4⟩
  · have ei : i = us.length := by omega
    subst ei
    rw [← hl, List.take_length] at md0
    have l0 := few d0 nd0 fun z hz => (md0 z).mp hz
    refine .inl ⟨wk.stops H2 (ex_l e12 hx), D, memZ d0, d0.length, rfl, hv, by omega, fun ns p hs hk _ hp => ?_⟩
    have : ns = os := asc_uniq hs ho fun z => by
      rw [hk z, hm z, ← md0 z]
      exact decide_eq_true_iff
    subst this
    have hp1 : H1 p = none := fresh_back (e2.trans hide_le) hp
    exact q p _ (fresh_back e1 hp1) (e1.trans ((e2.trans hide_le).trans (Ex.new hp))) upd_same⟩
/-! ### drawn lists whose items are new, parts and all -/
/-- x stands at l by what is new in H' alone -/
def New {α : Type} (R : α → Addr → Hp → Prop) (x : α) (l : Addr) (H H' : Hp) : Prop := ∀ G : Hp, (∀ (a : Addr) (o : HO), H a = none → H' a = some o → G a = some o) → R x l G
theorem New.here {α : Type} {R : α → Addr → Hp → Prop} {x : α} {l : Addr} {H H' : Hp} (n : New R x l H H') : R x l H' := n H' fun _ _ _ h => h
theorem lc_drawN {α : Type} {R : α → Addr → Hp → Prop} (up : Up R) {f : Int × Int → α × (Int × Int)} (hf : ∀ s, Pk s → Pk (f s).2) {te : TE} {σ : L2.St} {us : List Nat} {j : Nat} {p : Addr} {s : Int × Int} {H0 H1 : Hp} {n : Nat} {Q : VK} (hk : Pk s) (hp : H1 p = some (pl s)) (hn : n ≤ 1000)
    (hw : ∀ x, wipe ((wipe σ us).set j (some x)) us = wipe σ us)
    (he : ∀ (i : Nat) (H : Hp) (s : Int × Int), Pk s → H p = some (pl s) → Ex (hide p H1) H → ∀ Q : VK, (∀ l H', H l = none → Ex (hide p H) H' → H' p = some (pl (f s).2) → New R (f s).1 l H H' → Q (.ref l) H') → te ((wipe σ us).set j (some (.int (i : Int)))) H Q)
    (hq : ∀ l vs H', H1 l = none → Ex (hide p H1) H' → H' p = some (pl (drawN f n s).2) → H' l = some (.lst vs) → Rs R (hide p (hide l H')) vs (drawN f n s).1 → Q (.ref l) H') : tLc (iHere (Itr 0 n) H1) (gName j) tYes te us σ H0 Q := fun D hD => by
  have npD : p ≠ D := fun z => by
    rw [z, hD] at hp
    cases hp
  refine lc_it (walk_range (lo := 0) (n := n)) (fun i H => ∃ vs, H D = some (.lst vs) ∧ H p = some (pl (drawN f i s).2) ∧ Ex (hide p H1) (hide p (hide D H)) ∧ Rs R (hide p (hide D H)) vs (drawN f i s).1) ⟨[], upd_same, ?_, ?_, .nil⟩ (fun _ _ _ _ => trivial) ?_ ?_
  · rw [upd_ne npD]
    exact hp
  · rw [hide_upd, hide_none hD]
    exact Ex.refl _
  · rintro i x H H' hi ⟨vs, hv, hp2, e, r⟩ ⟨rfl, rfl⟩
    have ez : (0 : Int) + (i : Int) = (i : Int) := Int.zero_add _
    show wipe ((wipe σ us).set j (some (.int ((0 : Int) + (i : Int))))) us = wipe σ us ∧ te ((wipe σ us).set j (some (.int ((0 : Int) + (i : Int))))) H' _
    rw [ez]
    refine ⟨hw _, he i H' _ (drawN_pk hf hk i) hp2 (e.trans (hide_le.trans hide_le)) _ fun l H4 hl e4 hp4 nw => ?_⟩
    have hv4 : H4 D = some (.lst vs) := e4 _ _ (by rw [hide_ne npD.symm]; exact hv)
    have el := r.len
    rw [drawN_len] at el
    refine ⟨vs, hv4, sz_lt (by omega), vs ++ [.ref l], upd_same, ?_, ?_, ?_⟩
    · rw [upd_ne npD]
      exact hp4
    · rw [hide_upd]
      exact e.trans (ex_hide2 e4)
    · rw [hide_upd]
      refine (r.ex up (ex_hide2 e4)).snoc (nw _ fun a o h1 h2 => ?_)
      have n1 : a ≠ p := fun z => by
        rw [z, hp2] at h1
        cases h1
      have n2 : a ≠ D := fun z => by
        rw [z, hv] at h1
        cases h1
      rw [hide_ne n1, hide_ne n2]
      exact h2
  · rintro H ⟨vs, hv, hp2, e, r⟩
    have e2 : Ex (hide p (hide D H)) (hide p H) := ex_hide hide_le
    exact hq D vs H hD ((e.trans e2).trans hide_le) hp2 hv r
theorem qp_asgDrawN {α : Type} {R : α → Addr → Hp → Prop} (up : Up R) {f : Int × Int → α × (Int × Int)} (hf : ∀ s, Pk s → Pk (f s).2) {ta : TA} {te : TE} {tz : TS} {E : Ends} {σ : L2.St} {us : List Nat} {i j : Nat} {p : Addr} {s s1 : Int × Int} {G H : Hp} {n : Int} (K0 : Kn G p s H) (h : EvAP ta σ G p s [.int n] s1) (hk : Pk s1) (hn : 0 ≤ n ∧ n ≤ 1000)
    (hw : ∀ x, wipe ((wipe σ us).set j (some x)) us = wipe σ us)
    (he : ∀ (i : Nat) (H2 : Hp) (s : Int × Int), Pk s → H2 p = some (pl s) → Ex (hide p H) H2 → ∀ Q : VK, (∀ l H', H2 l = none → Ex (hide p H2) H' → H' p = some (pl (f s).2) → New R (f s).1 l H2 H' → Q (.ref l) H') → te ((wipe σ us).set j (some (.int (i : Int)))) H2 Q)
    (k : ∀ l vs H', l ≠ p → H l = none ∨ True → Ex (hide p H) H' → H' p = some (pl (drawN f n.toNat s1).2) → H' l = some (.lst vs) → Rs R (hide p (hide l H')) vs (drawN f n.toNat s1).1 → tz E (σ.set i (some (.ref l))) H') : tSeq (tAsg (tLc (iRng1 ta) (gName j) tYes te us) (gName i)) tz E σ H :=
  h H K0 _ fun H1 e1 g1 => ⟨n, rfl, by omega, by omega, lc_drawN (H0 := H1) (Q := fun v H' => tz E (σ.set i (some v)) H') up hf hk g1 (by omega) hw (fun i H2 s hs hp2 ex => he i H2 s hs hp2 (hx_trans e1 ex)) fun l vs H' hl e' hp' hl' r' => k l vs H' (fun z => by
    rw [z, g1] at hl
    cases hl) (.inr trivial) (hx_trans e1 e') hp' hl' r'⟩
/-! ### [k for k in range(n) if a draw of m is 0] -/
def siftN (m : Int) : Nat → Int × Int → List Nat × (Int × Int)
  | 0, s => ([], s)
  | i + 1, s => (if (take (siftN m i s).2 m).1 = 0 then (siftN m i s).1 ++ [i] else (siftN m i s).1, (take (siftN m i s).2 m).2)
theorem sift_one {m : Int} {s : Int × Int} {n : Nat} : (siftN m (n + 1) s).1 = if (take (siftN m n s).2 m).1 = 0 then (siftN m n s).1 ++ [n] else (siftN m n s).1 := rfl
theorem sift_pk {m : Int} {s : Int × Int} (h : Pk s) : ∀ n, Pk (siftN m n s).2
  | 0 => h
  | n + 1 => take_pk (sift_pk h n)
theorem sift_lt {m : Int} {s : Int × Int} : ∀ n, (siftN m n s).1.Pairwise (· < ·) ∧ ∀ k ∈ (siftN m n s).1, k < n
  | 0 => ⟨.nil, fun k hk => by cases hk⟩
  | n + 1 => by
    obtain ⟨h1, h2⟩ := sift_lt (m := m) (s := s) n
    rw [sift_one]
    split
    · refine ⟨List.pairwise_append.mpr ⟨h1, by simp, fun a ha b hb => ?_⟩, fun k hk => ?_⟩
      · rw [List.mem_singleton.mp hb]
        exact h2 a ha
      · rcases List.mem_append.mp hk with hk | hk
        · exact Nat.lt_succ_of_lt (h2 k hk)
        · rw [List.mem_singleton.mp hk]
          exact Nat.lt_succ_self n
    · exact ⟨h1, fun k hk => Nat.lt_succ_of_lt (h2 k hk)⟩
theorem sift_len {m : Int} {s : Int × Int} : ∀ n, (siftN m n s).1.length ≤ n
  | 0 => Nat.le_refl _
  | n + 1 => by
    have := sift_len (m := m) (s := s) n
    rw [sift_one]
    split
    · rw [List.length_append]
      simp
      omega
    · omega
theorem lc_sift {m : Int} {tt : TT} {te : TE} {σ : L2.St} {us : List Nat} {j : Nat} {p : Addr} {s : Int × Int} {H0 H1 : Hp} {n : Nat} {Q : VK} (hk : Pk s) (hp : H1 p = some (pl s)) (hn : n ≤ 1000)
    (hw : ∀ x, wipe ((wipe σ us).set j (some x)) us = wipe σ us)
    (ht : ∀ (i : Nat) (H : Hp) (s : Int × Int), Pk s → H p = some (pl s) → Ex (hide p H1) H → ∀ Q : Bool → Hp → Prop, (∀ H', Ex (hide p H) H' → H' p = some (pl (take s m).2) → Q (decide ((take s m).1 = 0)) H') → tt ((wipe σ us).set j (some (.int (i : Int)))) H Q)
    (he : ∀ (i : Nat) (H : Hp), Ev te ((wipe σ us).set j (some (.int (i : Int)))) H (.int (i : Int)))
    (hq : ∀ l H', H1 l = none → Ex (hide p H1) H' → H' p = some (pl (siftN m n s).2) → H' l = some (.lst ((siftN m n s).1.map fun (k : Nat) => V.int (k : Int))) → Q (.ref l) H') : tLc (iHere (Itr 0 n) H1) (gName j) tt te us σ H0 Q := fun D hD => by
  have npD : p ≠ D := fun z => by
    rw [z, hD] at hp
    cases hp
  refine lc_it (walk_range (lo := 0) (n := n)) (fun i H => H D = some (.lst ((siftN m i s).1.map fun (k : Nat) => V.int (k : Int))) ∧ H p = some (pl (siftN m i s).2) ∧ Ex (hide p H1) (hide p (hide D H))) ⟨upd_same, ?_, ?_⟩ (fun _ _ _ _ => trivial) ?_ ?_
  · rw [upd_ne npD]
    exact hp
  · rw [hide_upd, hide_none hD]
    exact Ex.refl _
  · rintro i x H H' hi ⟨hv, hp2, e⟩ ⟨rfl, rfl⟩
    have ez : (0 : Int) + (i : Int) = (i : Int) := Int.zero_add _
    show wipe ((wipe σ us).set j (some (.int ((0 : Int) + (i : Int))))) us = wipe σ us ∧ tt ((wipe σ us).set j (some (.int ((0 : Int) + (i : Int))))) H' _
    rw [ez]
    refine ⟨hw _, ht i H' _ (sift_pk hk i) hp2 (e.trans (hide_le.trans hide_le)) _ fun H4 e4 hp4 => ?_⟩
    have hv4 := e4 D _ (by rw [hide_ne npD.symm]; exact hv)
    by_cases c : (take (siftN m i s).2 m).1 = 0
    · rw [decide_eq_true c, if_pos rfl]
      show te ((wipe σ us).set j (some (.int ((0 : Int) + (i : Int))))) H4 _
      rw [ez]
      refine he i H4 H4 (Ex.refl _) _ fun H5 e5 => ⟨_, e5 _ _ hv4, sz_lt ?_, ?_, ?_, ?_⟩
      · have := sift_len (m := m) (s := s) i
        rw [List.length_map]
        omega
      · rw [upd_same, sift_one, if_pos c, List.map_append]
        rfl
      · rw [upd_ne npD]
        exact e5 _ _ hp4
      · rw [hide_upd]
        exact (e.trans (ex_hide2 e4)).trans (ex_hide (ex_hide e5))
    · rw [decide_eq_false c, if_neg (by simp)]
      refine ⟨?_, hp4, e.trans (ex_hide2 e4)⟩
      rw [sift_one, if_neg c]
      exact hv4
  · rintro H ⟨hv, hp2, e⟩
    have e2 : Ex (hide p (hide D H)) (hide p H) := ex_hide hide_le
    exact hq D H hD ((e.trans e2).trans hide_le) hp2 hv
/-! ### xs.index(x); a def that never raises, where one may -/
theorem pe_indexK {X : Cx} {o e : Expr} {to : TE} {ta : TA} {apos cpos : Pos} (K : PySem.W.Frag) (eK : X.K = K) (ho : PE X o to) (ha : PA X [e] ta)
    (hbase : attributeBase o "index" X.env (eval o X.env) = eval o X.env := by rfl)
    (hfew : ((backTo cpos (starEach [e] X.env)).all (fun x => !x.1) && (backToKw cpos (keywordEach [] X.env)).all (fun x => x.1.isSome) && decide (([e] : List Expr).length + ([] : List Keyword).length + (if ([] : List Keyword).isEmpty then 0 else 1) < 30)) = true := by rfl)
    (hline : (apos.endLine == cpos.line) = true := by rfl) (hs : starEach [e] X.env = (false, eval e X.env) :: starEach [] X.env := by rfl) (hplain : (backTo cpos (starEach [] X.env)).any (·.1) = false := by rfl) :
    PE X (.Call (.Attribute o "index" apos) [e] [] cpos) (tBM K "list" (rIndex K) to ta) := eK ▸ pe_bm PySem.F.plainAttrs_list PySem.F.slot_list_index PySem.F.type_list_index mt_index ho ha hbase hfew hline hs hplain
theorem fnok_cx {P : Program} {w : World} {K : PySem.W.Frag} {mg : Str → Option Value} {base : Heap} {CX : CXT} {k : Nat} {f : Addr} {fd : FuncData} {ps : List Str} {sp : Sp} (F : FnOk P w K mg base CX0 k f fd ps sp) : FnOk P w K mg base CX k f fd ps sp :=
  ⟨F.len, fun A outer s H args us vs Q E hr he hb hv hs => codeAny_mono (F.run A outer s H args us vs Q E hr he hb hv hs) fun z s' h => by
    match z, h with
    | .error e, h => exact h.elim
    | .ok (.ret u), h => exact h
    | .ok .next, h => exact h.elim
    | .ok .brk, h => exact h.elim
    | .ok .cont, h => exact h.elim⟩
theorem ev_index {K : PySem.W.Frag} {σ : L2.St} {H : Hp} {to te : TE} {a : Addr} {ks : List Nat} {j x : Nat} (ho : Ev to σ H (.ref a)) (hx : H a = some (.lst (ks.map fun (k : Nat) => V.int (k : Int)))) (h : Ev te σ H (.int (x : Int))) (hj : ks[j]? = some x) (hn : ks.Nodup) :
    Ev (tBM K "list" (rIndex K) to (tCons te tNil)) σ H (.int (j : Int)) := fun H1 e Q q => ho H1 e _ fun H2 e2 => ⟨Or.inl ⟨rfl, _, sq_of (e2 _ _ (e _ _ hx))⟩, h H2 (e.trans e2) _ fun H3 e3 =>
  ⟨a, _, .int (x : Int), j, .int (x : Int), rfl, rfl, sq_of (e3 _ _ (e2 _ _ (e _ _ hx))), rfl, List.all_eq_true.mpr fun v hv => by
    obtain ⟨_, _, rfl⟩ := List.mem_map.mp hv
    rfl, by rw [List.getElem?_map, hj]; rfl, by simp [eqV], fun m z hm hz => by
    rw [List.getElem?_map] at hz
    cases hk : ks[m]? with
    | none =>
      rw [hk] at hz
      cases hz
    | some y =>
      rw [hk] at hz
      cases hz
      have ne : y ≠ x := fun z => by
        subst z
        obtain ⟨l1, g1⟩ := List.getElem?_eq_some_iff.mp hk
        obtain ⟨l2, g2⟩ := List.getElem?_eq_some_iff.mp hj
        exact List.pairwise_iff_getElem.mp (List.nodup_iff_pairwise_ne.mp hn) m j l1 l2 hm (g1.trans g2.symm)
      simp [eqV]
      omega, q H3 (e2.trans e3)⟩⟩
theorem pe_fldK {X : Cx} {e : Expr} {f : Str} {ta : TE} {pos : Pos} (K : PySem.W.Frag) (eK : X.K = K) (he : PE X e ta) (hb : attributeBase e f X.env (eval e X.env) = eval e X.env) : PE X (.Attribute e f pos) (tFld K ta f) := eK ▸ pe_fld he hb
theorem call_list_ofK {X : Cx} (K : PySem.W.Frag) (e : X.K = K) : CallR X (.type "list") (fun xs H Q => ∃ p ys, xs = [.ref p] ∧ (SqL K H p ys ∨ SqT K H p ys) ∧ ∀ l, H l = none → Q (.ref l) (upd H l (.lst ys))) := e ▸ call_list_of
theorem qp_asgSift {m : Int} {ta : TA} {tt : TT} {te : TE} {tz : TS} {E : Ends} {σ : L2.St} {us : List Nat} {i j : Nat} {p : Addr} {s s1 : Int × Int} {G H : Hp} {n : Nat} (K0 : Kn G p s H) (h : EvAP ta σ G p s [.int (n : Int)] s1) (hk : Pk s1) (hn : n ≤ 1000)
    (hw : ∀ x, wipe ((wipe σ us).set j (some x)) us = wipe σ us)
    (ht : ∀ (i : Nat) (H2 : Hp) (s : Int × Int), Pk s → H2 p = some (pl s) → Ex (hide p H) H2 → ∀ Q : Bool → Hp → Prop, (∀ H', Ex (hide p H2) H' → H' p = some (pl (take s m).2) → Q (decide ((take s m).1 = 0)) H') → tt ((wipe σ us).set j (some (.int (i : Int)))) H2 Q)
    (he : ∀ (i : Nat) (H : Hp), Ev te ((wipe σ us).set j (some (.int (i : Int)))) H (.int (i : Int)))
    (k : ∀ l H', l ≠ p → Ex (hide p H) H' → H' p = some (pl (siftN m n s1).2) → H' l = some (.lst ((siftN m n s1).1.map fun (k : Nat) => V.int (k : Int))) → tz E (σ.set i (some (.ref l))) H') : tSeq (tAsg (tLc (iRng1 ta) (gName j) tt te us) (gName i)) tz E σ H :=
  h H K0 _ fun H1 e1 g1 => ⟨(n : Int), rfl, by omega, by omega, lc_sift (H0 := H1) (Q := fun v H' => tz E (σ.set i (some v)) H') hk g1 (by omega) hw (fun i H2 s hs hp2 ex => ht i H2 s hs hp2 (hx_trans e1 ex)) he fun l H' hl e' hp' hl' => k l H' (fun z => by
    rw [z, g1] at hl
    cases hl) (hx_trans e1 e') hp' hl'⟩
/-- one name forgotten, stored, forgotten again -/
theorem wipe1 {σ : L2.St} {j : Nat} (x : V) : wipe ((wipe σ [j]).set j (some x)) [j] = wipe σ [j] := by
  simp [wipe]
theorem set_at {σ : L2.St} {j : Nat} {x : V} (h : j < σ.length) : ((wipe σ [j]).set j (some x))[j]? = some (some x) := by
  rw [List.getElem?_set_self]
  simp [wipe]
  exact h
theorem set_off {σ : L2.St} {i j : Nat} {x : V} {v : Option V} (n : j ≠ i) (h : σ[i]? = some v) : ((wipe σ [j]).set j (some x))[i]? = some v := by
  rw [List.getElem?_set_ne n, wipe_out (by simp; omega)]
  exact h
/-! ### a list of new objects over range(n), each told apart from the lists that stood -/
def EvNF {α : Type} (te : TE) (σ : L2.St) (H : Hp) (R : α → Addr → Hp → Prop) (y : α) : Prop := ∀ H1, Ex H H1 → ∀ Q : VK, (∀ p H2, H1 p = none → Ex H1 H2 → R y p H2 → (∀ (D : Addr) (acc : List V), H1 D = some (.lst acc) → (∀ v ∈ acc, ∃ r : Addr, v = .ref r) → R y p (hide D H2)) → Q (.ref p) H2) → te σ H1 Q
theorem ers_rngF {α : Type} {R : α → Addr → Hp → Prop} {xs : List α} {σ : L2.St} {H : Hp} {te : TE} {ta : TA} {n j : Nat} {us : List Nat} (up : Up R) (h : EvA ta σ H [.int (n : Int)]) (hn : n ≤ 40000) (hl : xs.length = n) (hw : ∀ x, wipe ((wipe σ us).set j (some x)) us = wipe σ us)
    (he : ∀ (i : Nat) (y : α) (H1 : Hp), Ex H H1 → xs[i]? = some y → EvNF te ((wipe σ us).set j (some (.int (i : Int)))) H1 R y) : EvRs (tLc (iRng1 ta) (gName j) tYes te us) σ H R xs := fun H0 e Q q => h H0 e _ fun H1 e1 => ⟨(n : Int), rfl, by omega, by omega, fun D hD => by
  refine lc_it (walk_range (lo := 0) (n := n)) (fun i H => ∃ vs, H D = some (.lst vs) ∧ Ex H1 (hide D H) ∧ Rs R (hide D H) vs (xs.take i)) ⟨[], upd_same, ?_, ?_⟩ (fun _ _ _ _ => trivial) ?_ ?_
  · rw [hide_upd, hide_none hD]
    exact Ex.refl _
  · exact .nil
  · rintro i x H2 H3 hi ⟨vs, hv, e2, r⟩ ⟨rfl, rfl⟩
    have ez : (0 : Int) + (i : Int) = (i : Int) := Int.zero_add _
    obtain ⟨z, hz⟩ : ∃ z, xs[i]? = some z := ⟨xs[i]'(by omega), List.getElem?_eq_getElem (by omega)⟩
    show wipe ((wipe σ us).set j (some (.int ((0 : Int) + (i : Int))))) us = wipe σ us ∧ te ((wipe σ us).set j (some (.int ((0 : Int) + (i : Int))))) H3 _
    rw [ez]
    refine ⟨hw _, he i z H3 ((e.trans e1).trans (e2.trans hide_le)) hz H3 (Ex.refl _) _ fun p H4 hp e4 rp rD => ?_⟩
    have hv4 := e4 _ _ hv
    have el : vs.length = (xs.take i).length := r.len
    rw [List.length_take] at el
    refine ⟨vs, hv4, sz_lt (by omega), vs ++ [.ref p], upd_same, ?_, ?_⟩
    · rw [hide_upd]
      exact e2.trans (ex_hide e4)
    · rw [hide_upd, List.take_add_one, hz]
      exact (r.ex up (ex_hide e4)).snoc (rD D vs hv r.refs)
  · rintro H2 ⟨vs, hv, e2, r⟩
    rw [← hl, List.take_length] at r
    exact q D vs H2 (fresh_back e1 hD) (e1.trans (e2.trans hide_le)) hv (r.ex up hide_le)⟩
theorem q_asgNF {α : Type} {R : α → Addr → Hp → Prop} {y : α} {te : TE} {g : TG} {tz : TS} {D : Ends} {σ : L2.St} {H : Hp} (h : EvNF te σ H R y) (k : ∀ p H1, H p = none → Ex H H1 → R y p H1 → (∀ (A : Addr) (acc : List V), H A = some (.lst acc) → (∀ v ∈ acc, ∃ r : Addr, v = .ref r) → R y p (hide A H1)) → g (.ref p) σ H1 fun σ2 H2 => tz D σ2 H2) :
    tSeq (tAsg te g) tz D σ H := h H (Ex.refl H) _ k
end Kz
namespace Kz
open PySem PySem.Spec PyProof.Rows L2 Evl StX
def rLenOwn (C : Addr) (sp : Sp) (E : XK) : List V → Hp → VK → Prop := fun xs H Q => ∃ a dx fs, xs = [.ref a] ∧ H a = some (.ins C dx fs) ∧ sp [.ref a] H (fun v H' => ∃ n : Int, v = .int n ∧ 0 ≤ n ∧ n < 2 ^ 63 ∧ Q (.int n) H') E
theorem call_lenOwn {X : Cx} {CX : CXT} {C f : Addr} {fd : FuncData} {ps : List Str} {k : Nat} {sp : Sp} {E : XK} (h1 : PySem.W.findIn X.K (.ref C) "__len__" = some (some (.ref f))) (h2 : PySem.W.isFn X.K (.ref f) = true) (F : FnOk X.prog X.w X.K X.mg X.base CX k f fd ps sp) (hr : Room (k + 1) X.A) (hb : Binds X.K fd ps []) (hx : Passes CX X E) : CallR X (.builtin "len") (rLenOwn C sp E) := by
  intro pins s σ H xs us Q I r h
  obtain ⟨a, dx, fs, rfl, ha, hsp⟩ := h
  obtain ⟨u, rfl, rx⟩ := vals1 r
  cases (show u = Value.ref a from rx)
  obtain ⟨mA, J, _⟩ := ins_get I.hok ha
  obtain ⟨oa, J, _⟩ := J.look
  obtain ⟨m, fr⟩ := I.fr
  have sb : Sub X k X.A.in1 := (sub_here hr).in1
  refine PySem.W.len_K fr I.ok.mod.kin J h1 h2 (wpAny_mono (call_at F hb hx sb I (us := [.ref a]) (.cons (show RelV (.ref a) (Value.ref a) from rfl) .nil) hsp) (fun v s' z => ?_) fun _ _ z => z)
  obtain ⟨x, H', I', rv, n, rfl, n0, n1, q⟩ := z
  obtain ⟨t, rfl⟩ := rv
  exact ⟨⟨n0, n1⟩, .int n, H', I'.tok _, ⟨_, rfl⟩, q⟩
def rIxOwn (C : Addr) (sp : Sp) (E : XK) : R2 := fun x y H Q => ∃ a dx fs, x = .ref a ∧ H a = some (.ins C dx fs) ∧ sp [.ref a, y] H Q E
theorem pe_ixOwn0 {X : Cx} {CX : CXT} {C f : Addr} {fd : FuncData} {ps : List Str} {k : Nat} {sp : Sp} {E : XK} {e i : Expr} {ta tb : TE} {pos : Pos} (h1 : PySem.W.findIn X.K (.ref C) "__getitem__" = some (some (.ref f))) (h2 : PySem.W.fnIn X.K f = true) (h3 : PySem.W.isFn X.K (.ref f) = true)
    (F : FnOk X.prog X.w X.K X.mg X.base CX k f fd ps sp) (hr : Room (k + 1) X.A) (hb : Binds X.K fd ps []) (hx : Passes CX X E) (he : PE X e ta) (hi : PE X i tb)
    (hsl : ∀ (x : Addr) (v : Value), subscripted i true (.ref x) v = runValue (.builtin "lifetime.subscript" ⟨[.ref x, v], []⟩)) : PE X (.Subscript e i pos) (tOp (rIxOwn C sp E) ta tb) := by
  refine ⟨fun pins s σ H Q I h => ?_⟩
  refine Subscript_ (binT he hi I h fun v u s2 x y H2 I2 rx ry q => ?_)
  obtain ⟨a, dx, fs, rfl, ha, hsp⟩ := q
  cases (show v = Value.ref a from rx)
  obtain ⟨mA, J, _⟩ := ins_get I2.hok ha
  obtain ⟨oa, J, _⟩ := J.look
  obtain ⟨m, fr⟩ := I2.fr
  have sb : Sub X k X.A.in1 := (sub_here hr).in1
  exact PySem.W.sub_K fr I2.ok.mod.kin J h1 h2 h3 (call_at F hb hx sb I2 (us := [.ref a, u]) (.cons (show RelV (.ref a) (Value.ref a) from rfl) (.cons ry .nil)) hsp) (hsl a u)
section
variable (P : Program) (w : World) (K : PySem.W.Frag) (mg : Str → Option Value) (base : Heap)
def DfLen (C : Addr) (ps : List Str) (k : Nat) (sp : Sp) : Prop := ∃ (f : Addr) (fd : FuncData), (PySem.W.findIn K (.ref C) "__len__" = some (some (.ref f)) ∧ PySem.W.isFn K (.ref f) = true) ∧ Binds K fd ps [] ∧ FnOk P w K mg base CX0 k f fd ps sp
def DfGet (C : Addr) (ps : List Str) (k : Nat) (sp : Sp) : Prop := ∃ (f : Addr) (fd : FuncData), (PySem.W.findIn K (.ref C) "__getitem__" = some (some (.ref f)) ∧ PySem.W.fnIn K f = true ∧ PySem.W.isFn K (.ref f) = true) ∧ Binds K fd ps [] ∧ FnOk P w K mg base CX0 k f fd ps sp
end
theorem call_len_df {X : Cx} {C : Addr} {ps : List Str} {k : Nat} {sp : Sp} (D : DfLen X.prog X.w X.K X.mg X.base C ps k sp) (hr : Room (k + 1) X.A) : CallR X (.builtin "len") (rLenOwn C sp E0) := by
  obtain ⟨f, fd, ⟨h1, h2⟩, hb, F⟩ := D
  exact call_lenOwn h1 h2 F hr hb pass0
theorem pe_ixOwn {X : Cx} {C : Addr} {ps : List Str} {k : Nat} {sp : Sp} {e i : Expr} {ta tb : TE} {pos : Pos} (D : DfGet X.prog X.w X.K X.mg X.base C ps k sp) (hr : Room (k + 1) X.A) (he : PE X e ta) (hi : PE X i tb)
    (hsl : ∀ (x : Addr) (v : Value), subscripted i true (.ref x) v = runValue (.builtin "lifetime.subscript" ⟨[.ref x, v], []⟩) := by intro _ _; with_unfolding_all rfl) : PE X (.Subscript e i pos) (tOp (rIxOwn C sp E0) ta tb) := by
  obtain ⟨f, fd, ⟨h1, h2, h3⟩, hb, F⟩ := D
  exact pe_ixOwn0 h1 h2 h3 F hr hb pass0 he hi hsl
/-- [x] * n -/
theorem el_repN {σ : L2.St} {H : Hp} {ta tb : TE} {n : Nat} (h : EvL ta σ H ([n].map fun (k : Nat) => V.int (k : Int))) (hb : Ev tb σ H (.int (n : Int))) (hn : n ≤ 1000) : EvL (tOp rRep ta tb) σ H ((List.replicate n n).map fun (k : Nat) => V.int (k : Int)) := fun H1 e Q q =>
  h H1 e _ fun l H2 hl e2 h2 => hb H2 (e.trans e2) _ fun H3 e3 => ⟨l, (n : Int), _, rfl, rfl, e3 _ _ h2, by omega, by omega, sz_of (by simp; omega), fun p hp => by
    have er : (List.replicate ((n : Int)).toNat ([n].map fun (k : Nat) => V.int (k : Int))).flatten = (List.replicate n n).map fun (k : Nat) => V.int (k : Int) := by
      rw [Int.toNat_natCast, List.map_replicate]
      generalize n = m
      have : ∀ j : Nat, (List.replicate j ([m].map fun (k : Nat) => V.int (k : Int))).flatten = List.replicate j (V.int (m : Int)) := fun j => by
        induction j with
        | zero => rfl
        | succ j ih =>
          rw [List.replicate_succ, List.flatten_cons, ih, List.replicate_succ]
          rfl
      exact this m
    rw [er]
    exact q p _ (fresh_back (e2.trans e3) hp) ((e2.trans e3).trans (Ex.new hp)) upd_same⟩
/-- a new list of draws, told apart from all that is frozen -/
theorem qp_asgLstN {G H : Hp} {p : Addr} {s s1 : Int × Int} {σ : L2.St} {D : Ends} {tz : TS} {ta : TA} {i : Nat} {vs : List V} (k : Kn G p s H) (h : EvAP ta σ G p s vs s1) (hl : vs.length ≤ 100000) (nx : ∀ l H', G l = none → H l = none → l ≠ p → Kn G p s1 H' → Ex (hide p H) H' → H' l = some (.lst vs) → tz D (σ.set i (some (.ref l))) H') :
    tSeq (tAsg (tLst ta) (gName i)) tz D σ H := h H k _ fun H' e g => ⟨sz_of hl, fun l nl => by
  have ne : l ≠ p := fun z => by
    rw [z, g] at nl
    cases nl
  refine nx l _ ?_ ?_ ne ((k.next e g).same (Ex.new nl)) (e.trans (Ex.new nl)) upd_same
  · cases hG : G l with
    | none => rfl
    | some o =>
      have := (k.next e g).ex l o hG
      rw [nl] at this
      cases this
  · cases hH : H l with
    | none => rfl
    | some o =>
      have := e l o (by rw [hide_ne ne]; exact hH)
      rw [nl] at this
      cases this⟩
theorem ev_lenA {K : PySem.W.Frag} {σ : L2.St} {H : Hp} {te : TE} {a : Addr} {xs : List V} (h : Ev te σ H (.ref a)) (hx : SqL K H a xs) : Ev (tCB (fun ys H Q => ∃ x n, ys = [x] ∧ LenV K x H n ∧ Q (.int (n : Int)) H) (tCons te tNil)) σ H (.int (xs.length : Int)) := fun H1 e Q q =>
  h H1 e _ fun H2 e2 => ⟨.ref a, xs.length, rfl, .inl ⟨xs, ex_l (e.trans e2) hx, rfl⟩, q H2 e2⟩
/-! ### a list of drawn texts, one for each item of a list that stands -/
theorem lc_drawL {K : PySem.W.Frag} {P : Str → Prop} {te tl : TE} {σ : L2.St} {us : List Nat} {j : Nat} {p a : Addr} {s : Int × Int} {H1 : Hp} {xs : List V} {Q : VK} (hk : Pk s) (hp : H1 p = some (pl s)) (hn : xs.length ≤ 1000) (ht : Ev tl σ H1 (.ref a)) (ha : hide p H1 a = some (.lst xs))
    (hw : ∀ x, wipe ((wipe σ us).set j (some x)) us = wipe σ us)
    (he : ∀ (i : Nat) (x : V) (H : Hp) (s : Int × Int), xs[i]? = some x → Pk s → H p = some (pl s) → Ex (hide p H1) H → ∀ Q : VK, (∀ (z : Str) (s' : Int × Int), P z → Pk s' → RetP p s' (.str z) H Q) → te ((wipe σ us).set j (some x)) H Q)
    (hq : ∀ (l : Addr) (zs : List Str) (s' : Int × Int) (H' : Hp), H1 l = none → (∀ z ∈ zs, P z) → zs.length = xs.length → Pk s' → Ex (hide p H1) H' → H' p = some (pl s') → H' l = some (.lst (zs.map V.str)) → Q (.ref l) H') : tLc (iList K tl) (gName j) tYes te us σ H1 Q :=
  ht H1 (Ex.refl _) _ fun H2 e2 => ⟨a, rfl, ⟨xs, sq_of (e2 _ _ (hide_le _ _ ha))⟩, fun D hD => by
  have hp2 := e2 _ _ hp
  have npD : p ≠ D := fun z => by
    rw [z, hD] at hp2
    cases hp2
  have e12 : Ex (hide p H1) (hide p H2) := ex_hide e2
  have ha2 := e12 _ _ ha
  refine lc_it (walk_list (K := K) (a := a) (xs := xs)) (fun i H => ∃ (zs : List Str) (s' : Int × Int), H D = some (.lst (zs.map V.str)) ∧ (∀ z ∈ zs, P z) ∧ zs.length = i ∧ Pk s' ∧ H p = some (pl s') ∧ Ex (hide p H2) (hide p (hide D H))) ⟨[], s, upd_same, fun z hz => (by cases hz), rfl, hk, ?_, ?_⟩ ?_ ?_ ?_
  · rw [upd_ne npD]
    exact hp2
  · rw [hide_upd, hide_none hD]
    exact Ex.refl _
  · rintro i H _ ⟨_, _, _, _, _, _, _, e⟩
    exact sq_of (hide_le _ _ (hide_le _ _ (e _ _ ha2)))
  · rintro i x H H' hi ⟨zs, s', hv, hz, hl, hk', hp', e⟩ y
    obtain ⟨rfl, hx⟩ := y
    refine ⟨hw _, he i x H' s' hx hk' hp' (e12.trans (e.trans (hide_le.trans hide_le))) _ fun z s2 pz hk2 H4 e4 hp4 => ?_⟩
    have hv4 := e4 D _ (by rw [hide_ne npD.symm]; exact hv)
    refine ⟨_, hv4, sz_lt (by rw [List.length_map]; omega), zs ++ [z], s2, by rw [upd_same, List.map_append]; rfl, fun u hu => ?_, by rw [List.length_append, hl]; rfl, hk2, by rw [upd_ne npD]; exact hp4, ?_⟩
    · rcases List.mem_append.mp hu with h | h
      · exact hz u h
      · rw [List.mem_singleton.mp h]
        exact pz
    · rw [hide_upd]
      exact e.trans (ex_hide2 e4)
  · rintro H ⟨zs, s', hv, hz, hl, hk', hp', e⟩
    have e3 : Ex (hide p (hide D H)) (hide p H) := ex_hide hide_le
    exact hq D zs s' H (fresh_back e2 hD) hz hl hk' (e12.trans ((e.trans e3).trans hide_le)) hp' hv⟩
end Kz
namespace Kz
open PySem PySem.Spec PyProof.Rows L2 Evl StX
/-! ### a dict whose keys are None, ints and texts -/
def kN : Option Key → V
  | none => .non
  | some k => kV k
theorem kN_inj {a b : Option Key} (e : kN a = kN b) : a = b := by
  cases a with
  | none =>
    cases b with
    | none => rfl
    | some k => cases k with
      | inl i => exact nomatch (show V.non = V.int i from e)
      | inr x => exact nomatch (show V.non = V.str x from e)
  | some j =>
    cases b with
    | none => cases j with
      | inl i => exact nomatch (show V.int i = V.non from e)
      | inr x => exact nomatch (show V.str x = V.non from e)
    | some k => rw [kV_inj e]
def dNφ (P : Program) (w : World) (a : Addr) (kvs : List (Option Key × V)) (h : Heap) : Prop := kvs.length ≤ sizeLine ∧ (a == sysModules) = false ∧ ∃ vs, KV kvs vs ∧ h.DictOf (noneKind P w) a vs
def dN (P : Program) (w : World) (a : Addr) (kvs : List (Option Key × V)) : HO := .ext (dNφ P w a kvs)
theorem kN_is {P : Program} {w : World} {k : Option Key} {u : Value} (r : RelV (kN k) u) : (noneKind P w).is k u = true := by
  cases k with
  | none =>
    obtain rfl : u = Value.none := r
    rfl
  | some k => exact kV_is (P := P) (w := w) r
theorem relN_key {P : Program} {w : World} {k : Option Key} {u : Value} (h : (noneKind P w).is k u = true) : RelV (kN k) u := by
  cases k with
  | none => exact nk_none h
  | some k => exact relV_key h
theorem kN_part {k : Option Key} {u : Value} (r : RelV (kN k) u) : (keyPart u).isSome = true := by
  cases k with
  | none =>
    obtain rfl : u = Value.none := r
    rfl
  | some k =>
    cases k with
    | inl i => obtain ⟨t, q⟩ := (show ∃ t, u = Value.int i t from r); subst q; rfl
    | inr x => obtain ⟨t, q⟩ := (show ∃ t, u = Value.str x t from r); subst q; rfl
section
variable {P : Program} {w : World} {H : Hp} {h : Heap} {a : Addr} {kvs : List (Option Key × V)}
theorem dNφ_at {h1 h2 : Heap} (q : dNφ P w a kvs h1) (e : ∀ o, h1.get? a = some o → h2.get? a = some o) : dNφ P w a kvs h2 := by
  obtain ⟨z, hd, vs, rel, o, es, ep, ho, r⟩ := q
  exact ⟨z, hd, vs, rel, o, es, ep, e o ho, r⟩
theorem dN_new (z : kvs.length ≤ sizeLine) (hd : (a == sysModules) = false) {vs : List (Option Key × Value)} (rel : KV kvs vs) (dd : h.DictOf (noneKind P w) a vs) : ObjOk P w H h a (dN P w a kvs) := by
  refine ⟨⟨z, hd, vs, rel, dd⟩, ?_, fun h1 h2 q e => dNφ_at q e⟩
  obtain ⟨o, es, ep, ho, r⟩ := dd
  exact ⟨o, ho⟩
theorem dN_of (ok : HOk P w H h) (e : H a = some (dN P w a kvs)) : kvs.length ≤ sizeLine ∧ (a == sysModules) = false ∧ ∃ vs, KV kvs vs ∧ h.DictOf (noneKind P w) a vs := (ok a _ e).1
end
/-- told as it stands, or locked -/
def RdN (P : Program) (w : World) (H : Hp) (a : Addr) (kvs : List (Option Key × V)) : Prop := H a = some (dN P w a kvs) ∨ ∃ o, H a = some (.frz o (dN P w a kvs))
theorem rdN_of {P : Program} {w : World} {H : Hp} {h : Heap} {a : Addr} {kvs : List (Option Key × V)} (ok : HOk P w H h) (e : RdN P w H a kvs) : kvs.length ≤ sizeLine ∧ (a == sysModules) = false ∧ ∃ vs, KV kvs vs ∧ h.DictOf (noneKind P w) a vs := by
  rcases e with e | ⟨o, e⟩
  · exact dN_of ok e
  · exact (ok a _ e).2.1
section
variable {X : Cx} {pins : List (Addr × Obj)} {σ : L2.St} {H : Hp} {s : Shared} {a : Addr} {kvs : List (Option Key × V)} {k : Option Key} {v : V} {u r : Value} {A : Around} {E : Value → Shared → Prop}
theorem n_in {Q : Value → Shared → Prop} (I : Inv X pins σ H s) (e : RdN X.prog X.w H a kvs) (ry : RelV (kN k) u) (h : ∀ s', Inv X pins σ H s' → Q (.bool (valV kvs k).isSome) s') : wpAny (model X.prog X.w) A (compareOp .In u (.ref a)) Q E s := by
  obtain ⟨_, hd, vs, rel, dd⟩ := rdN_of I.hok e
  refine wpAny_in_of (kN_is ry) hd dd.mapOf ?_
  rw [← (rel.val k).isSome_eq]
  exact h _ (I.tok _)
theorem n_notIn {Q : Value → Shared → Prop} (I : Inv X pins σ H s) (e : RdN X.prog X.w H a kvs) (ry : RelV (kN k) u) (h : ∀ s', Inv X pins σ H s' → Q (.bool (!(valV kvs k).isSome)) s') : wpAny (model X.prog X.w) A (compareOp .NotIn u (.ref a)) Q E s := by
  obtain ⟨_, hd, vs, rel, dd⟩ := rdN_of I.hok e
  refine wpAny_notIn_of (kN_is ry) hd dd.mapOf ?_
  rw [← (rel.val k).isSome_eq]
  exact h _ (I.tok _)
theorem n_setItem {Q : Unit → Shared → Prop} (I : Inv X pins σ H s) (e : H a = some (dN X.prog X.w a kvs)) (hl : kvs.length < sizeLine) (ry : RelV (kN k) u) (rv : RelV v r) (h : ∀ s', Inv X pins σ (upd H a (dN X.prog X.w a (putK kvs k v))) s' → Q () s') :
    wpAny (model X.prog X.w) A (setItem (.ref a) u r) Q E s := by
  obtain ⟨z, hd, vs, rel, dd⟩ := dN_of I.hok e
  have hz : vs.length ≤ sizeLine := by rw [← rel.length]; exact z
  have hl : (putK kvs k v).length ≤ sizeLine := by have := length_putK kvs k v; omega
  refine wpAny_setItem_pairs (hsz := hz) (kN_is ry) dd fun h' dd' hs => h _ ?_
  have he : ∃ q, h'.get? a = some q := let ⟨q, _, _, hq, _⟩ := dd'; ⟨q, hq⟩
  exact d_write I (by rw [e]; exact True.intro) hs he (dN_new hl hd (rel.put k rv) dd')
theorem n_pop {more : List Value} {Q : Value → Shared → Prop} (I : Inv X pins σ H s) (e : H a = some (dN X.prog X.w a kvs)) (ry : RelV (kN k) u) (l : valV kvs k = some v) (hm : more = [] ∨ ∃ x, more = [x])
    (h : ∀ w' s', Inv X pins σ (upd H a (dN X.prog X.w a (dropK kvs k))) s' → RelV v w' → Q w' s') : wpAny (model X.prog X.w) A (call (.builtin "dict.pop") (.ref a :: u :: more)) Q E s := by
  obtain ⟨z, hd, vs, rel, dd⟩ := dN_of I.hok e
  obtain ⟨w', hw, rw'⟩ := RelO.some_of (v := v) (o := valueAt vs k) (by rw [← l]; exact rel.val k)
  have ha : argsOk "dict.pop" ⟨.ref a :: u :: more, []⟩ := by
    rcases hm with q | ⟨x, q⟩
    · subst q; exact PySem.F.args_dict_pop_2 _ _
    · subst q; exact PySem.F.args_dict_pop_3 _ _ _
  refine call_meetsIn PySem.F.slot_dict_pop dd.typeIs PySem.F.entry_dict_pop ha (meets_dict_pop_there (noneKind X.prog X.w) a (kN_is ry) more hm (kN_part ry))
    ⟨vs, w', dd, by rw [← rel.length]; exact z, hw, fun h' dd' hs => h w' _ ?_ rw'⟩
  have he : ∃ q, h'.get? a = some q := let ⟨q, _, _, hq, _⟩ := dd'; ⟨q, hq⟩
  exact d_write I (by rw [e]; exact True.intro) hs he (dN_new (Nat.le_trans (dropK_le kvs k) z) hd (rel.drop k) dd')
theorem n_popD {Q : Value → Shared → Prop} (I : Inv X pins σ H s) (e : RdN X.prog X.w H a kvs) (ry : RelV (kN k) u) (l : valV kvs k = none) (h : ∀ s', Inv X pins σ H s' → Q r s') :
    wpAny (model X.prog X.w) A (call (.builtin "dict.pop") [.ref a, u, r]) Q E s := by
  obtain ⟨z, hd, vs, rel, dd⟩ := rdN_of I.hok e
  have hn : valueAt vs k = none := RelO.none_of (by rw [← l]; exact rel.val k)
  exact call_meetsIn PySem.F.slot_dict_pop dd.typeIs PySem.F.entry_dict_pop (PySem.F.args_dict_pop_3 _ _ _) (meets_dict_pop_default (noneKind X.prog X.w) a (kN_is ry) hd (kN_part ry) r) ⟨vs, dd, hn, h _ (I.tok _)⟩
theorem n_typeIs (I : Inv X pins σ H s) (e : RdN X.prog X.w H a kvs) : s.TypeIs (.ref a) "dict" ∧ (∀ b, Value.ref a = .ref b → ∃ ob, s.heap.get? b = some ob ∧ ob.dict = none) := by
  obtain ⟨_, hd, vs, _, dd⟩ := rdN_of I.hok e
  refine ⟨dd.typeIs, fun b q => ?_⟩
  cases q
  obtain ⟨ob, _, _, h1, h2, _⟩ := dd
  exact ⟨ob, h1, h2.2.1⟩
end
/-- {} -/
def tNNew (P : Program) (w : World) : TE := fun _ H Q => ∀ p, H p = none → Q (.ref p) (upd H p (dN P w p []))
/-- y in d, y not in d -/
def tNIn (P : Program) (w : World) (ty td : TE) : TE := fun σ H Q => ty σ H fun y H1 => td σ H1 fun x H2 => ∃ a kvs k, x = .ref a ∧ y = kN k ∧ RdN P w H2 a kvs ∧ Q (.bl (valV kvs k).isSome) H2
def tNNotIn (P : Program) (w : World) (ty td : TE) : TE := fun σ H Q => ty σ H fun y H1 => td σ H1 fun x H2 => ∃ a kvs k, x = .ref a ∧ y = kN k ∧ RdN P w H2 a kvs ∧ Q (.bl (!(valV kvs k).isSome)) H2
/-- d[y] = v -/
def sNPut (P : Program) (w : World) (td ty tv : TE) : TS := fun D σ H => tv σ H fun v H1 => td σ H1 fun x H2 => ty σ H2 fun y H3 => ∃ a kvs k, x = .ref a ∧ y = kN k ∧ H3 a = some (dN P w a kvs) ∧ kvs.length < sizeLine ∧ D.nx σ (upd H3 a (dN P w a (putK kvs k v)))
/-- d.pop(y); d.pop(y, z) -/
def tNPop1 (P : Program) (w : World) (td ty : TE) : TE := fun σ H Q => td σ H fun x H1 => ∃ a, x = .ref a ∧ (∃ kvs, RdN P w H1 a kvs) ∧ ty σ H1 fun y H2 => ∃ kvs k v, H2 a = some (dN P w a kvs) ∧ y = kN k ∧ valV kvs k = some v ∧ Q v (upd H2 a (dN P w a (dropK kvs k)))
def tNPop2 (P : Program) (w : World) (td ty tx : TE) : TE := fun σ H Q => td σ H fun x H1 => ∃ a, x = .ref a ∧ (∃ kvs, RdN P w H1 a kvs) ∧ ty σ H1 fun y H2 => tx σ H2 fun z H3 => ∃ kvs k, H3 a = some (dN P w a kvs) ∧ y = kN k ∧
  (∀ v, valV kvs k = some v → Q v (upd H3 a (dN P w a (dropK kvs k)))) ∧ (valV kvs k = none → Q z H3)
section
variable {X : Cx} {o i e f value : Expr} {td ty tx tv : TE} {pos pos' apos cpos : Pos}
theorem pe_nnew (P : Program) (w : World) (hP : X.prog = P) (hw : X.w = w) : PE X (.Dict [] [] pos) (tNNew P w) := by
  subst hP hw
  exact ⟨fun pins s σ H Q I h => wpAny_Dict_empty ⟨.ref s.heap.objs.size, _, I.laid (a := s.heap.objs.size) (o := dN X.prog X.w s.heap.objs.size []) (t' := s.toks) (fun _ _ q => Heap.get?_push_of_some _ q) (Nat.le_refl _)
    (dN_new (vs := []) (Nat.zero_le _) (beq_eq_false_iff_ne.mpr (Ne.symm (Nat.ne_of_lt I.big))) .nil (Heap.DictOf.new s.heap)), rfl, h _ (I.hok.fresh (Nat.le_refl _))⟩⟩
theorem pc_nin (P : Program) (w : World) (hP : X.prog = P) (hw : X.w = w) (hi : PE X i ty) (ho : PE X o td) : PC X .In i o (tNIn P w ty td) := by
  subst hP hw
  refine ⟨fun pins s σ H Q I h => ?_⟩
  refine thn (hi.run pins s σ H _ I h) fun iv s1 ⟨y, H1, I1, ry, q1⟩ => thn (ho.run pins s1 σ H1 _ I1 q1) fun u s2 ⟨x, H2, I2, rx, a, kvs, k, ex, ey, g, q2⟩ => ?_
  subst ex ey
  obtain rfl : u = Value.ref a := rx
  exact n_in I2 g ry fun s3 I3 => ⟨.bl (valV kvs k).isSome, H2, I3, rfl, q2⟩
theorem pc_nnotin (P : Program) (w : World) (hP : X.prog = P) (hw : X.w = w) (hi : PE X i ty) (ho : PE X o td) : PC X .NotIn i o (tNNotIn P w ty td) := by
  subst hP hw
  refine ⟨fun pins s σ H Q I h => ?_⟩
  refine thn (hi.run pins s σ H _ I h) fun iv s1 ⟨y, H1, I1, ry, q1⟩ => thn (ho.run pins s1 σ H1 _ I1 q1) fun u s2 ⟨x, H2, I2, rx, a, kvs, k, ex, ey, g, q2⟩ => ?_
  subst ex ey
  obtain rfl : u = Value.ref a := rx
  exact n_notIn I2 g ry fun s3 I3 => ⟨.bl (!(valV kvs k).isSome), H2, I3, rfl, q2⟩
theorem ps_nput (P : Program) (w : World) (hP : X.prog = P) (hw : X.w = w) (ho : PE X o td) (hi : PE X i ty) (hv : PE X value tv) (hs : swapsWith value (some (.Subscript o i pos')) pos.line X.env = pure false) :
    PS X (.Assign [.Subscript o i pos'] value pos) (sNPut P w td ty tv) := by
  subst hP hw
  refine ⟨fun pins s σ H D I h => ?_⟩
  refine wpAny_Assign_Subscript (thn (hv.run pins s σ H _ I h) fun r s1 ⟨v, H1, I1, rv, q1⟩ => thn (ho.run pins s1 σ H1 _ I1 q1) fun u s2 ⟨x, H2, I2, rx, q2⟩ => thn (hi.run pins s2 σ H2 _ I2 q2) fun iv s3 ⟨y, H3, I3, ry, a, kvs, k, ex, ey, g, hl, q3⟩ => ?_) hs
  subst ex ey
  obtain rfl : u = Value.ref a := rx
  exact n_setItem I3 g hl ry rv fun s4 I4 => ⟨σ, _, I4, q3⟩
theorem pe_npop1 (P : Program) (w : World) (hP : X.prog = P) (hw : X.w = w) (ho : PE X o td) (he : PE X e ty) (m : M1 X o "pop" apos e cpos) : PE X (.Call (.Attribute o "pop" apos) [e] [] cpos) (tNPop1 P w td ty) := by
  subst hP hw
  refine ⟨fun pins s σ H Q I h => ?_⟩
  refine wpAny_Call_method m.base m.few m.line PySem.F.plainAttrs_dict PySem.F.slot_dict_pop PySem.F.type_dict_pop (thn (ho.run pins s σ H _ I h) fun u s1 ⟨x, H1, I1, rx, a, ex, ⟨kv0, d⟩, q1⟩ => ?_)
  subst ex
  obtain rfl : u = Value.ref a := rx
  obtain ⟨t1, t2⟩ := n_typeIs I1 d
  refine ⟨t1, t2, ?_⟩
  rw [m.trees]
  refine Calls.callWith_builtin rfl (Calls.evalArgs_plain (Calls.spliced_cons (thn (he.run pins s1 σ H1 _ I1 q1) fun iv s2 ⟨y, H2, I2, ry, kvs, k, v, ea, ey, l, q2⟩ => Calls.spliced_nil ?_)))
  subst ey
  exact n_pop I2 ea ry l (.inl rfl) fun w' s3 I3 rw' => ⟨v, _, I3, rw', q2⟩
theorem pe_npop2 (P : Program) (w : World) (hP : X.prog = P) (hw : X.w = w) (ho : PE X o td) (he : PE X e ty) (hf : PE X f tx) (m : M2 X o "pop" apos e f cpos) : PE X (.Call (.Attribute o "pop" apos) [e, f] [] cpos) (tNPop2 P w td ty tx) := by
  subst hP hw
  refine ⟨fun pins s σ H Q I h => ?_⟩
  refine wpAny_Call_method m.base m.few m.line PySem.F.plainAttrs_dict PySem.F.slot_dict_pop PySem.F.type_dict_pop (thn (ho.run pins s σ H _ I h) fun u s1 ⟨x, H1, I1, rx, a, ex, ⟨kv0, d⟩, q1⟩ => ?_)
  subst ex
  obtain rfl : u = Value.ref a := rx
  obtain ⟨t1, t2⟩ := n_typeIs I1 d
  refine ⟨t1, t2, ?_⟩
  rw [m.trees]
  refine Calls.callWith_builtin rfl (Calls.evalArgs_plain (Calls.spliced_cons (thn (he.run pins s1 σ H1 _ I1 q1) fun iv s2 ⟨y, H2, I2, ry, q2⟩ => Calls.spliced_cons (thn (hf.run pins s2 σ H2 _ I2 q2) fun fv s3 ⟨z, H3, I3, rz, kvs, k, ea, ey, q3, q4⟩ => Calls.spliced_nil ?_))))
  subst ey
  cases l : valV kvs k with
  | some v => exact n_pop I3 ea ry l (.inr ⟨fv, rfl⟩) fun w' s4 I4 rw' => ⟨v, _, I4, rw', q3 v l⟩
  | none => exact n_popD I3 (.inl ea) ry l fun s4 I4 => ⟨z, H3, I4, rz, q4 l⟩
end
/-- list(d), len(d) -/
def rListN (P : Program) (w : World) : List V → Hp → VK → Prop := fun xs H Q => ∃ p kvs, xs = [.ref p] ∧ RdN P w H p kvs ∧ ∀ q, H q = none → Q (.ref q) (upd H q (.lst (kvs.map fun kv => kN kv.1)))
theorem call_list_dN {X : Cx} (P : Program) (w : World) (hP : X.prog = P) (hw : X.w = w) (hc : X.calm = true) : CallR X (.type "list") (rListN P w) := by
  subst hP hw
  intro pins s σ H xs us Q I r h
  obtain ⟨p, kvs, e, hk, q⟩ := h
  subst e
  obtain ⟨u, eu, rx⟩ := vals1 r
  subst eu
  obtain rfl : u = Value.ref p := rx
  obtain ⟨z, lo, vs, rk, hd⟩ := rdN_of I.hok hk
  obtain ⟨ep, hat⟩ := hd.dictAt
  have hl : kvs.length = vs.length := Paired.length rk
  refine PySem.W.kdl_call (PySem.W.kdl_dict (knd := noneKind X.prog X.w) (kvs := vs) (ep := ep) lo) (I.ok.hd hc) hat (by rw [← hl]; exact z) fun h' tk acc' c' hkeep hS hacc => ?_
  refine ⟨.ref s.heap.objs.size, upd H s.heap.objs.size (.lst (kvs.map fun kv => kN kv.1)), I.laid hkeep (Nat.le_refl _) (show ObjOk X.prog X.w _ _ _ (.lst (kvs.map fun kv => kN kv.1)) from ⟨?_, acc'.toList, c', ?_, ?_⟩), rfl, q _ (I.hok.fresh (Nat.le_refl _))⟩
  · rw [List.length_map]; exact z
  · have el : acc'.toList.length = acc'.size := by simp
    refine vals_of_at (by rw [List.length_map, el, hacc.1, hl]) fun j x w h1 h2 => ?_
    obtain ⟨k, y, hky, hi⟩ := hacc.2 j w (by rw [← Array.getElem?_toList]; exact h2)
    have e1 : (kvs.map (·.1))[j]? = some k := by
      rw [KV.keys rk, List.getElem?_map, hky] <;> rfl
    have e2 : (kvs.map fun kv => kN kv.1)[j]? = some (kN k) := by
      have e3 : (kvs.map fun kv => kN kv.1) = (kvs.map (·.1)).map kN := by rw [List.map_map] <;> rfl
      rw [e3, List.getElem?_map, e1] <;> rfl
    rw [e2] at h1
    cases h1
    exact relN_key hi
  · simpa using hS

theorem call_list_dNK {X : Cx} (P : Program) (w : World) (hP : X.prog = P) (hw : X.w = w) (hc : X.calm = true) : CallR X (.type "list") (rListN P w) := call_list_dN P w hP hw hc
theorem call_len_dN {X : Cx} (P : Program) (w : World) (hP : X.prog = P) (hw : X.w = w) : CallR X (.builtin "len") (fun xs H Q => ∃ a kvs, xs = [V.ref a] ∧ RdN P w H a kvs ∧ Q (.int kvs.length) H) := by
  subst hP hw
  intro pins s σ H xs us Q I r h
  obtain ⟨a, kvs, rfl, ha, q⟩ := h
  obtain ⟨u, rfl, ru⟩ := vals1 r
  cases ru
  obtain ⟨z, hd, vs, rel, dd⟩ := rdN_of I.hok ha
  refine call_len_dict hd dd (by rw [← rel.length]; rw [sizeLine_eq] at z; omega) ?_
  rw [← rel.length]
  exact ⟨.int kvs.length, H, I.tok _, ⟨_, rfl⟩, q⟩
/-- the pairs of a locked dict, each a new tuple -/
def ItN (P : Program) (w : World) (d : Addr) (o : Obj) (kvs : List (Option Key × V)) : It :=
  ⟨fun i H => H d = some (.frz o (dN P w d kvs)) ∧ i < kvs.length, fun i H x H' => ∃ T k v, kvs[i]? = some (k, v) ∧ x = .ref T ∧ H T = none ∧ H' = upd H T (.tup [kN k, v]), fun i H => H d = some (.frz o (dN P w d kvs)) ∧ kvs.length ≤ i⟩
section
variable {X : Cx} {pins : List (Addr × Obj)} {σ : L2.St} {H : Hp} {s : Shared} {d : Addr} {o : Obj}
theorem frzN {kvs : List (Option Key × V)} (I : Inv X pins σ H s) (h : H d = some (.frz o (dN X.prog X.w d kvs))) :
    (d == sysModules) = false ∧ s.heap.get? d = some o ∧ o.ExactDict ∧ ∃ (es : Array DictEntry) (ep : Nat) (vs : List (Option Key × Value)), o.data = .dict es ep ∧ es.size = kvs.length ∧ KV kvs vs ∧ s.heap.DictAt (noneKind X.prog X.w) d vs ep := by
  obtain ⟨hd, ⟨z, hs, vs, kv, o', es, ep, ho, hx, hdt, r⟩, _⟩ := I.hok d _ h
  rw [hd] at ho
  cases ho
  refine ⟨hs, hd, hx, es, ep, vs, hdt, ?_, kv, o, es, hd, hx, hdt, r⟩
  have l1 := r.2.1.length
  have l2 : kvs.length = vs.length := Paired.length kv
  rw [Array.length_toList] at l1
  omega
end
theorem turn_itemsN {P : Program} {w : World} {K : PySem.W.Frag} {d : Addr} {o : Obj} {es : Array DictEntry} {ep : Nat} {kvs : List (Option Key × V)} {elts : List Expr} {kk : Nat} {tpos : Pos} (it : Addr) (hod : o.data = .dict es ep) :
    Turn P w K (.Tuple elts kk tpos) (ItN P w d o kvs) [it] it (fun i h => ∃ ok ov, IsItemIter h it d i kvs.length ep ok ov) where
  mem := by simp
  obj := fun i h st b hb => by
    have e : b = it := by simpa using hb
    subst e
    obtain ⟨ok, ov, e⟩ := st
    exact ⟨_, e, fun v z => nomatch z⟩
  keep := fun i h h' st k => let ⟨ok, ov, e⟩ := st; ⟨ok, ov, k it (by simp) _ e⟩
  item := by
    intro X hP hw hK hc i pins s σ H E I hf st hg
    subst hP hw hK
    obtain ⟨hd, hi⟩ := hg
    obtain ⟨hs, hgd, hx, es', ep', vs, hdt, hsz, kv, hm⟩ := frzN I hd
    obtain ⟨rfl, rfl⟩ := dict_ep hod hdt
    obtain ⟨⟨k, v⟩, hkv⟩ : ∃ p, kvs[i]? = some p := ⟨kvs[i], List.getElem?_eq_getElem hi⟩
    obtain ⟨u, hu, ru⟩ := kv_get kv hkv
    have hl : kvs.length = vs.length := Paired.length kv
    obtain ⟨ok, ov, he⟩ := st
    rw [hl] at he
    have hlt : it < s.heap.objs.size := Heap.lt_size he
    refine wpAny_pyNext_items_item he hm hu fun key h' hkey ho hT hz hk => ?_
    refine ⟨_, rfl, wpAny_letOwnedTupleGo_items (s := { s with heap := h' }) ho fun h'' he' sb => ?_⟩
    have hT2 : h''.get? s.heap.objs.size = some { cls := .type "tuple", data := .seq #[key, u] } := (sb.2 _ (Nat.ne_of_gt hlt)).trans hT
    have new : ObjOk X.prog X.w (upd H s.heap.objs.size (.tup [kN k, v])) h'' s.heap.objs.size (.tup [kN k, v]) :=
      ⟨by show 2 ≤ sizeLine; decide, [key, u], .cons (relN_key (show (noneKind X.prog X.w).is k key = true from hkey)) (.cons ru .nil), ⟨_, hT2, rfl, _, rfl⟩⟩
    have I1 : Inv X pins σ (upd H s.heap.objs.size (.tup [kN k, v])) { s with heap := h'' } :=
      I.turnedNew (t' := s.toks) (ch := [it]) (fun b ob hb e => (sb.2 b (by simpa using hb)).trans (hk b ob (by simpa using hb) e)) hf (Nat.le_refl _) new
    refine ⟨.ref s.heap.objs.size, _, I1, rfl, ⟨_, k, v, hkv, rfl, I.hok.fresh (Nat.le_refl _), rfl⟩, ⟨key, u, ?_⟩, fun b hb => ?_⟩
    · rw [hl]; exact he'
    · have e : b = it := by simpa using hb
      rw [e, upd_ne (Nat.ne_of_lt hlt)]
      exact (hf it (by simp)).1
  done := by
    intro X hP hw hK hc i pins s σ H E I hf st hg
    subst hP hw hK
    obtain ⟨hd, hi⟩ := hg
    obtain ⟨f0, f1, f2, f3, f4, f5⟩ := hf it (by simp)
    obtain ⟨hs, hgd, hx, es', ep', vs, hdt, hsz, kv, hm⟩ := frzN I hd
    obtain ⟨rfl, rfl⟩ := dict_ep hod hdt
    have hl : kvs.length = vs.length := Paired.length kv
    obtain ⟨ok, ov, he⟩ := st
    rw [hl] at he
    exact wpAny_pyNext_items_end (I.ok.hd hc) he hm (List.getElem?_eq_none (by omega)) fun h' eb => ⟨rfl, I.turned (t' := s.toks) (fun b ob hb e => eb b ob hb e) f0 f1 f3 f4 f5⟩
  self := fun A i s Q E st h => let ⟨_, _, e⟩ := st; PySem.W.kcp_self e h
def iItemsN (P : Program) (w : World) (td : TE) : TI := fun σ H R => td σ H fun x H1 => ∃ d o kvs, x = .ref d ∧ H1 d = some (.frz o (dN P w d kvs)) ∧ R (ItN P w d o kvs) H1
theorem pi_itemsN {X : Cx} {e : Expr} {td : TE} {apos cpos : Pos} {elts : List Expr} {kk : Nat} {tpos : Pos} (P : Program) (w : World) (hP : X.prog = P) (hw : X.w = w) (he : PE X e td) (hbase : attributeBase e "items" X.env (eval e X.env) = eval e X.env := by rfl) (hline : (apos.endLine == cpos.line) = true := by rfl) :
    PI X (.Tuple elts kk tpos) (.Call (.Attribute e "items" apos) [] [] cpos) (iItemsN P w td) := by
  subst hP hw
  refine ⟨fun pins s σ H R I h => ?_⟩
  refine wpAny_Call_method (T := "dict") (id := "dict.items") hbase rfl hline F.plainAttrs_dict F.slot_dict_items F.type_dict_items (thn (he.run pins s σ H _ I h) fun u s1 ⟨x, H1, I1, rx, d, o, kvs, ex, hd, q⟩ => ?_)
  subst ex
  obtain rfl : u = Value.ref d := rx
  obtain ⟨hs, hgd, hx, es, ep, vs, hdt, hsz, kv, hm⟩ := frzN I1 hd
  have hl : kvs.length = vs.length := Paired.length kv
  refine ⟨hm.dictOf.typeIs, hm.dictOf.mapOf.noDict, ?_⟩
  have I2 : Inv X pins σ H1 { s1 with heap := s1.heap.push { cls := .type "dict_items", data := .fields #[.ref d] } } := I1.kept (t' := s1.toks) fun b ob q => Heap.get?_push_of_some _ q
  have fin : wpAny (model X.prog X.w) X.A (pyIter (.ref s1.heap.objs.size)) (PIE X pins σ (.Tuple elts kk tpos) R) X.xe { s1 with heap := s1.heap.push { cls := .type "dict_items", data := .fields #[.ref d] } } := by
    refine wpAny_pyIter_items (d := d) (knd := noneKind X.prog X.w) ⟨_, Heap.get?_push_size _ rfl, rfl, rfl⟩ (hm.push _) (pi_one (tk := s1.toks) I2 _ (turn_itemsN _ hdt) ⟨.none, .none, ?_⟩ q)
    rw [hl]
    exact Heap.get?_push_size _ rfl
  show wpAny _ _ (callWith cpos (.builtin "dict.items") [.ref d] [] []) _ X.xe s1
  exact method_meetsIn F.slot_dict_items F.entry_dict_items rfl (PySem.evalArgs_none ⟨rfl, hm.dictOf.typeIs, F.args_dict_items_1 _, _, meets_dict_items (noneKind X.prog X.w) d hs, ⟨vs, hm.dictOf⟩, fin⟩)
theorem walk_itemsN {P : Program} {w : World} {d : Addr} {o : Obj} {kvs : List (Option Key × V)} : Walk (ItN P w d o kvs) kvs.length (fun H => H d = some (.frz o (dN P w d kvs))) (YPair (fun i => kvs[i]?.map fun kv => kN kv.1) (fun i => kvs[i]?.map Prod.snd)) := by
  refine ⟨fun _ _ hi q => ⟨q, hi⟩, fun _ q => ⟨q, Nat.le_refl _⟩, fun i H x H' _ _ y => ?_⟩
  obtain ⟨T, k, v, h1, h2, h3, h4⟩ := y
  exact ⟨T, kN k, v, h2, h3, h4, by simp [h1], by simp [h1]⟩
/-! ### xs.remove(x), data -/
def rRemD (K : PySem.W.Frag) : V → List V → Hp → VK → Prop := fun x vs H Q => ∃ l xs ds y d j, x = .ref l ∧ vs = [y] ∧ H l = some (.lst xs) ∧ DpAll K H xs ds ∧ Dp K H y d ∧ PyData.plainAll ds = true ∧ d.plain = true ∧ d.depth ≤ 60 ∧ PySem.SeqAt.dataPlace ds d = some j ∧ Q .non (upd H l (.lst (xs.eraseIdx j)))
theorem mt_remD {X : Cx} (hu : X.A.units + 64 < cLine) : MtM X "list.remove" (rRemD X.K) := by
  intro pins s σ H x vs v us Q I rx rv h
  obtain ⟨l, xs, ds, y, d, j, rfl, rfl, hH, hds, hd, p1, p2, dp, hj, q⟩ := h
  cases rx
  obtain ⟨u, rfl, ru⟩ := rv.one
  obtain ⟨z, its, n, r, hl, e⟩ := I.lstM hH
  obtain ⟨as, r1⟩ := Dp.readsAll I ds xs its hds r
  obtain ⟨bs, r2⟩ := Dp.reads I d y u hd ru
  refine PySem.SeqAt.remove_list_data (vs := its.toArray) (j := j) ⟨_, e, rfl, n, rfl⟩ (by simpa using r1) r2 p1 p2 (by omega) hj (by rw [List.size_toArray]; omega) ?_
  refine ⟨.non, _, I.lset (its' := its.eraseIdx j) hH e ?_ (r.eraseIdx j) ?_, rfl, q⟩
  · show its.toArray.eraseIdxIfInBounds j = (its.eraseIdx j).toArray
    rw [List.eraseIdxIfInBounds_toArray]
  · have := len_erase xs j
    omega
/-! ### properties, keyword-only inits, instances called -/
def DfP (P : Program) (w : World) (K : PySem.W.Frag) (mg : Str → Option Value) (base : Heap) (C : Addr) (f : Str) (k : Nat) (sp : Sp) : Prop :=
  ∃ (p g : Addr) (fd : FuncData), PropOf K C f p g ∧ Binds K fd ["self"] [] ∧ FnOk P w K mg base CX0 k g fd ["self"] sp
theorem pe_propD {X : Cx} {C : Addr} {f : Str} {k : Nat} {sp : Sp} {e : Expr} {ta : TE} {pos : Pos} (c : Cls X.K C) (D : DfP X.prog X.w X.K X.mg X.base C f k sp) (hr : Room (k + 1) X.A) (he : PE X e ta) (hab : attributeBase e f X.env (eval e X.env) = eval e X.env := by rfl) :
    PE X (.Attribute e f pos) (tProp C sp [] E0 ta) := by
  obtain ⟨p, g, fd, hp, hb, F⟩ := D
  exact pe_prop (ds := []) he c hp F hr hb .nil pass0 hab
def DfIK (P : Program) (w : World) (K : PySem.W.Frag) (mg : Str → Option Value) (base : Heap) (x : Str) (C : Addr) (ps : List Str) (n : Nat) (ks : List Str) (k : Nat) (sp : Sp) : Prop :=
  ∃ (f : Addr) (fd : FuncData), Mk K C f ∧ mg x = some (.ref C) ∧ KBn K fd ps (n + 1) ks (fun us ws => us ++ ws) (fun vs zs => vs ++ zs) ∧ FnOk P w K mg base CX0 k f fd ps sp
theorem pe_mkK {X : Cx} {x : Str} {C : Addr} {ps ks : List Str} {n k : Nat} {sp : Sp} {e : Expr} {es : List Expr} {kws : List Keyword} {t tk : TA} {p pos : Pos} (D : DfIK X.prog X.w X.K X.mg X.base x C ps n ks k sp) (hr : Room (k + 1) X.A) (hg : Gl X x) (ha : PA X (e :: es) t) (hkw : PK X kws tk)
    (hall : (backToKw pos (keywordEach kws X.env)).all (·.1.isSome) = true := by rfl) (hks : (backToKw pos (keywordEach kws X.env)).filterMap (·.1) = ks := by rfl) (hdb : (x == ("__debug__" : Str)) = false := by decide)
    (he : starEach (e :: es) X.env = (false, eval e X.env) :: starEach es X.env := by rfl) (hpl : ((backTo pos (starEach (e :: es) X.env)).any (·.1) || (backToKw pos (keywordEach kws X.env)).any (·.1.isNone)) = false := by rfl) :
    PE X (.Call (.Name x p) (e :: es) kws pos) (tMakeK C n ks.length sp (fun vs zs => vs ++ zs) E0 t tk) := by
  obtain ⟨f, fd, M, hm, hb, F⟩ := D
  exact pe_makeK M F hr hg hm hb pass0 ha hkw hall hks hdb he hpl
/-- a def whose last parameters have defaults -/
def FunP (K : PySem.W.Frag) (x qual : Str) (st : Stmt) (dvs : List V) (f : Addr) (fd : FuncData) : Prop := FunD K x qual (defArgs st) (defBody st) (defScope st) dvs [] f fd
theorem FunP.ok {P : Program} {w : World} {K : PySem.W.Frag} {mg : Str → Option Value} {base : Heap} {x qual : Str} {st : Stmt} {dvs : List V} {f : Addr} {fd : FuncData} {N ps : List Str} {k : Nat} {sp : Sp} (F : FunP K x qual st dvs f fd) (S : FnScope N ps (defScope st)) (len : ∀ vs H Q E, sp vs H Q E → vs.length = ps.length)
    (hbody : ∀ (cdv : Value) (A : Around) (outer : List Env) (s : Shared) (H : Hp) (vs : List V) (Q : VK) (E : XK), Room k (A.deeper (envOfC qual (defScope st) s.heap.objs.size f cdv)) → sp vs H Q E →
      ∃ t, PSs (cxOf CX0 P w K mg base N qual (defScope st) f cdv A outer s H E).nox (defBody st) t ∧ t { nx := fun _ H' => Q .non H', rt := Q } (start N vs) H) : FnOk P w K mg base CX0 (k + 1) f fd ps sp :=
  FunD.ok F S len fun cdv A outer s H vs Q E hr hsp => by
    obtain ⟨t, h, q⟩ := hbody cdv A outer s H vs Q E hr hsp
    exact ⟨t, h.nox, q⟩
/-- x(e, ..), all parameters written, or the last one left out -/
def DfCl (P : Program) (w : World) (K : PySem.W.Frag) (mg : Str → Option Value) (base : Heap) (C : Addr) (ps : List Str) (dvs : List V) (k : Nat) (sp : Sp) : Prop :=
  ∃ (g : Addr) (fd : FuncData), CallO K C g ∧ (∃ ds, Vals [] ds ∧ Binds K fd ps ds) ∧ (∃ ds, Vals dvs ds ∧ Binds K fd ps ds) ∧ FnOk P w K mg base CX0 k g fd ps sp
theorem pe_cl {X : Cx} {C : Addr} {ps : List Str} {dvs : List V} {k : Nat} {sp : Sp} {fe e : Expr} {es : List Expr} {tf : TE} {t : TA} {pos : Pos} (D : DfCl X.prog X.w X.K X.mg X.base C ps dvs k sp) (hr : Room k X.A) (hf : PE X fe tf) (ha : PA X (e :: es) t)
    (ht : eval (.Call fe (e :: es) [] pos) X.env = (do callWith pos (← eval fe X.env) [] (backTo pos (starEach (e :: es) X.env)) (backToKw pos (keywordEach [] X.env))) := by rfl)
    (he : starEach (e :: es) X.env = (false, eval e X.env) :: starEach es X.env := by rfl) (hpl : (backTo pos (starEach es X.env)).any (·.1) = false := by rfl) : PE X (.Call fe (e :: es) [] pos) (tCallO X C (fun vs H Q E => sp (vs ++ []) H Q E) E0 tf t) := by
  obtain ⟨g, fd, c, ⟨ds, hd, hb⟩, _, F⟩ := D
  exact pe_callO hf c (F.raw hb hd) hr pass0 ha ht he hpl
theorem pe_clD {X : Cx} {C : Addr} {ps : List Str} {dvs : List V} {k : Nat} {sp : Sp} {fe e : Expr} {es : List Expr} {tf : TE} {t : TA} {pos : Pos} (D : DfCl X.prog X.w X.K X.mg X.base C ps dvs k sp) (hr : Room k X.A) (hf : PE X fe tf) (ha : PA X (e :: es) t)
    (ht : eval (.Call fe (e :: es) [] pos) X.env = (do callWith pos (← eval fe X.env) [] (backTo pos (starEach (e :: es) X.env)) (backToKw pos (keywordEach [] X.env))) := by rfl)
    (he : starEach (e :: es) X.env = (false, eval e X.env) :: starEach es X.env := by rfl) (hpl : (backTo pos (starEach es X.env)).any (·.1) = false := by rfl) : PE X (.Call fe (e :: es) [] pos) (tCallO X C (fun vs H Q E => sp (vs ++ dvs) H Q E) E0 tf t) := by
  obtain ⟨g, fd, c, _, ⟨ds, hd, hb⟩, F⟩ := D
  exact pe_callO hf c (F.raw hb hd) hr pass0 ha ht he hpl
end Kz
namespace Kz
open PySem PySem.Spec PyProof.Rows L2 Evl StX
/-! ### a new dict filled by names -/
section
variable {P : Program} {w : World} {A : Around} {E : Value → Shared → Prop}
theorem nss_step {s : Shared} {d : Addr} {es : List DictEntry} {n : Nat} {k : Str} {v : Value} {Q : Unit → Shared → Prop} (hd : s.heap.get? d = some (PySem.W.dictOf es n)) (hs : ∀ e ∈ es, e.key.isStr k = false) (hr : ∀ e ∈ es, e.refKey = false)
    (h : ∀ h' : Heap, h'.get? d = some (PySem.W.dictOf (es ++ [⟨PyData.keyHash w.params k, .str k s.toks, v⟩]) (n + 1)) → (∀ b o, b ≠ d → s.heap.get? b = some o → h'.get? b = some o) → h'.objs.size = s.heap.objs.size → Q () { s with heap := h', toks := s.toks + 1 }) :
    wpAny (model P w) A (nsSet d k v) Q E s := by
  have e1 : es.any (·.key.isStr k) = false := by
    cases q : es.any (·.key.isStr k) with
    | false => rfl
    | true => obtain ⟨e, he, z⟩ := List.any_eq_true.mp q; rw [hs e he] at z; cases z
  have e2 : es.any (·.refKey) = false := by
    cases q : es.any (·.refKey) with
    | false => rfl
    | true => obtain ⟨e, he, z⟩ := List.any_eq_true.mp q; rw [hr e he] at z; cases z
  have e : Obj.putName k (PyData.keyHash w.params k) (.str k s.toks) v (PySem.W.dictOf es n) = PySem.W.dictOf (es ++ [⟨PyData.keyHash w.params k, .str k s.toks, v⟩]) (n + 1) := by
    rw [PySem.W.putName_dict, PySem.W.putL_new hs]
    show PySem.W.dictOf _ (if es.any (·.key.isStr k) then n else n + 1) = _
    rw [e1, if_neg Bool.false_ne_true]
  have c : aRefKeyMayBeTheName k es.toArray = false := by
    rw [aRefKeyMayBeTheName_at, ← Array.any_toList, ← Array.any_toList]
    show (!es.any (·.key.isStr k) && es.any (·.refKey)) = false
    rw [e2, Bool.and_false]
  unfold nsSet
  refine wpAny_bind (wpAny_bind (wpAny_askSetting (wpAny_pure (wpAny_bind (wpAny_mkText (wpAny_bind (wpAny_loadPart hd ?_)))))))
  dsimp only
  rw [c]
  refine wpAny_updatePart hd (h _ ?_ (fun b o hb ho => ?_) (Heap.size_update _ _ _))
  · rw [← e]
    refine Heap.get?_update_self _ hd ?_
    show (Obj.putName k (PyData.keyHash w.params k) (.str k s.toks) v (PySem.W.dictOf es n)).isFreed = false
    rw [e]
    rfl
  · rw [Heap.get?_update_ne _ _ _ _ hb]
    exact ho
theorem nss_fill {d : Addr} {Q : PUnit → Shared → Prop} : ∀ (ex : List (Str × Value)) (s : Shared) (es : List DictEntry) (n : Nat), s.heap.get? d = some (PySem.W.dictOf es n) → (∀ e ∈ es, ∀ x ∈ ex, e.key.isStr x.1 = false) → (∀ e ∈ es, e.refKey = false) → (ex.map (·.1)).Nodup →
    (∀ h' : Heap, h'.get? d = some (PySem.W.dictOf (es ++ PySem.W.kwEs w.params s.toks ex) (n + ex.length)) → (∀ b o, b ≠ d → s.heap.get? b = some o → h'.get? b = some o) → h'.objs.size = s.heap.objs.size → Q ⟨⟩ { s with heap := h', toks := s.toks + ex.length }) →
    wpAny (model P w) A (forIn ex PUnit.unit fun x _ => (nsSet d x.1 x.2 >>= fun _ => pure (ForInStep.yield PUnit.unit))) Q E s
  | [], s, es, n, hd, _, _, _, h => by
    rw [List.forIn_nil]
    refine wpAny_pure (h s.heap ?_ (fun b o _ ho => ho) rfl)
    show s.heap.get? d = some (PySem.W.dictOf (es ++ []) n)
    rw [List.append_nil]
    exact hd
  | x :: r, s, es, n, hd, hs, hr, hn, h => by
    obtain ⟨hn1, hn2⟩ := List.nodup_cons.mp (show (x.1 :: r.map (·.1)).Nodup from hn)
    rw [List.forIn_cons]
    refine wpAny_bind (wpAny_bind (nss_step hd (fun e he => hs e he x (.head _)) hr fun h' hd' k1 z1 => wpAny_pure ?_))
    show wpAny (model P w) A (forIn r PUnit.unit fun x _ => (nsSet d x.1 x.2 >>= fun _ => pure (ForInStep.yield PUnit.unit))) Q E { s with heap := h', toks := s.toks + 1 }
    refine nss_fill r { s with heap := h', toks := s.toks + 1 } _ _ hd' (fun e he y hy => ?_) (fun e he => ?_) hn2 fun h'' hd'' k2 z2 => ?_
    · rcases List.mem_append.mp he with he | he
      · exact hs e he y (.tail _ hy)
      · obtain rfl := List.mem_singleton.mp he
        show (x.1 == y.1) = false
        exact beq_eq_false_iff_ne.mpr fun q => hn1 (by rw [q]; exact List.mem_map_of_mem hy)
    · rcases List.mem_append.mp he with he | he
      · exact hr e he
      · obtain rfl := List.mem_singleton.mp he
        rfl
    · have t1 : s.toks + 1 + r.length = s.toks + (r.length + 1) := by omega
      have t2 : n + 1 + r.length = n + (r.length + 1) := by omega
      show Q ⟨⟩ { s with heap := h'', toks := s.toks + 1 + r.length }
      rw [t1]
      refine h h'' ?_ (fun b o hb ho => k2 b o hb (k1 b o hb ho)) (z2.trans z1)
      rw [t2, List.append_assoc] at hd''
      exact hd''
def kwK (ex : List (Str × Value)) : List (Key × Value) := ex.map fun x => (.inr x.1, x.2)
theorem kw_pairs : ∀ (ex : List (Str × Value)) (t : Tok), Pairs (mixKind P w) (PySem.W.kwEs w.params t ex) (kwK ex)
  | [], _ => Pairs.nil
  | x :: r, t => Pairs.cons (by show (mixKind P w).is (.inr x.1) (.str x.1 t) = true; exact decide_eq_true rfl) rfl (kw_pairs r (t + 1))
theorem kw_dict {ex : List (Str × Value)} (t : Tok) (n : Nat) (hn : (ex.map (·.1)).Nodup) : (PySem.W.dictOf (PySem.W.kwEs w.params t ex) n).IsDictOf (mixKind P w) (kwK ex) :=
  ⟨(PySem.W.kwEs w.params t ex).toArray, n, ⟨rfl, rfl, rfl⟩, rfl, fun e he => by
    obtain ⟨k, u, hk, hh⟩ := PySem.W.kwEs_key ex t e (List.mem_toArray.mp he)
    exact ⟨.inr k, by rw [hk]; exact decide_eq_true rfl, hh.trans rfl⟩, kw_pairs ex t, by
    unfold kwK
    rw [List.map_map]
    have : (ex.map ((fun x : Key × Value => x.1) ∘ fun x : Str × Value => ((.inr x.1 : Key), x.2))) = (ex.map (·.1)).map Sum.inr := by rw [List.map_map]; rfl
    rw [this]
    exact List.Pairwise.map _ (fun a b h e => h (Sum.inr.inj e)) hn⟩
end
/-! ### a def f(self, **more): called with keywords -/
section
variable {P : Program} {w : World} {K : PySem.W.Frag} {mg : Str → Option Value} {base : Heap} {A : Around} {outer : List Env} {s : Shared} {H : Hp}
theorem env0_grown {h' : Heap} {u : HO} {t' : Nat} (e0 : Env0 P w K mg base A outer s H) (kp : ∀ b x, s.heap.get? b = some x → h'.get? b = some x) (z : s.heap.objs.size ≤ h'.objs.size) (new : ObjOk P w (upd H s.heap.objs.size u) h' s.heap.objs.size u) :
    Env0 P w K mg base A outer { s with heap := h', toks := t' } (upd H s.heap.objs.size u) := by
  refine ⟨e0.frames, e0.mod, fun b x e => ⟨kp b x (e0.bs b x e).1, ?_⟩, ?_, Heap.FunFrames.of_keeps (fun b x e _ => ⟨x, kp b x e, rfl⟩) e0.funs, fun b hb => ?_, e0.hok.laid kp (Nat.le_refl _) new, e0.bare⟩
  · rw [upd_ne (Nat.ne_of_lt (Heap.lt_size (e0.bs b x e).1))]
    exact (e0.bs b x e).2
  · exact Nat.le_trans e0.bsz z
  · obtain ⟨_, x, hx, _⟩ := e0.funs.mem hb
    rw [upd_ne (Nat.ne_of_lt (Heap.lt_size hx))]
    exact e0.frf b hb
/-- keywords' values by names -/
def kwV (ks : List Str) (zs : List V) : List (Key × V) := (ks.zip zs).map fun x => (.inr x.1, x.2)
theorem kwV_kv : ∀ {ks : List Str} {zs : List V} {ws : List Value}, Vals zs ws → KV (kwV ks zs) (kwK (ks.zip ws))
  | [], _, _, _ => .nil
  | _ :: _, _, _, .nil => .nil
  | k :: ks, _, _, .cons r rs => .cons ⟨rfl, r⟩ (kwV_kv (ks := ks) rs)
def FnW (P : Program) (w : World) (K : PySem.W.Frag) (mg : Str → Option Value) (base : Heap) (CX : CXT) (k : Nat) (f : Addr) (sp : List Str → List V → Sp) : Prop :=
  ∀ (A : Around) (outer : List Env) (s : Shared) (H : Hp) (ks : List Str) (us ws : List Value) (vs zs : List V) (Q : VK) (E : XK), Room k A → Env0 P w K mg base A outer s H → Vals vs us → Vals zs ws → sp ks zs vs H Q E →
    codeAny (model P w) A (.call (.ref f) ⟨us, ks.zip ws⟩) (CR CX outer P w H s Q E) s
/-- the promise: keywords ks, no two alike; the values in a new dict -/
def spW (sp : Sp) : List Str → List V → Sp := fun ks zs vs H Q E => ks.Nodup ∧ ks.length = zs.length ∧ ks.length ≤ 100 ∧ vs.length = 1 ∧ ∀ d, H d = none → sp (vs ++ [.ref d]) (upd H d (.dK (kwV ks zs))) Q E
theorem fn_more {CX : CXT} {k : Nat} {f : Addr} {name qual : Str} {params : Arguments} {body : List Stmt} {scope : Scope} {dV kV doc pm cdv ct oc : Value} {an od : Option Addr} {osl : Array (Option Value)} {N : List Str} {p1 pd : Str} {sp : Sp}
    (lk : K.lookup f = some ⟨oc, od, .func (PySem.W.fnOf name qual params body scope dV kV doc pm an cdv ct), osl⟩) (hcd : PySem.W.codeIn K cdv qual = true) (S : FnScope N [p1, pd] scope) (hCX : CXUp CX) (C : List Str → Prop)
    (hb : ∀ (u : Value) (ks : List Str) (ws : List Value), C ks → ks.length = ws.length → bindArgs (PySem.W.fnOf name qual params body scope dV kV doc pm an cdv ct) ⟨[u], ks.zip ws⟩ =
      ((alloc ({ cls := .type "dict", data := .dict #[] } : Obj) : Sem Addr) >>= fun d => forIn (ks.zip ws) PUnit.unit (fun x _ => (nsSet d x.1 x.2 >>= fun _ => pure (ForInStep.yield PUnit.unit))) >>= fun _ => pure [(p1, u), (pd, Value.ref d)]))
    (hbody : ∀ (A : Around) (outer : List Env) (s : Shared) (H : Hp) (vs : List V) (Q : VK) (E : XK), Room k (A.deeper (envOfC qual scope s.heap.objs.size f cdv)) → sp vs H Q E →
      ∃ t, PSs (cxOf CX P w K mg base N qual scope f cdv A outer s H E) body t ∧ t { nx := fun _ H' => Q .non H', rt := Q } (start N vs) H) :
    FnW P w K mg base CX (k + 1) f (fun ks zs vs H Q E => C ks ∧ spW sp ks zs vs H Q E) := by
  intro A outer s H ks us ws vs zs Q E hr e0 r rz hsp
  obtain ⟨hC, nd, lz, l100, l1, hq⟩ := hsp
  have lw : ks.length = ws.length := lz.trans rz.length
  obtain ⟨v, rfl⟩ : ∃ v, vs = [v] := by
    cases vs with
    | nil => cases l1
    | cons v l => cases l with
      | nil => exact ⟨v, rfl⟩
      | cons _ _ => simp at l1
  cases r with
  | cons rv rn =>
  cases rn
  rename_i u
  have hn : H s.heap.objs.size = Option.none := e0.hok.fresh (Nat.le_refl _)
  refine run_bnd lk hcd S hr e0 (G := fun xs H2 => ∃ d, H d = Option.none ∧ xs = [v, V.ref d] ∧ H2 = upd H d (.dK (kwV ks zs))) (fun A' Ex Q' h => ?_) fun s2 H2 xs ⟨d, hd, ex, eH⟩ hr' => ?_
  · rw [hb u ks ws hC lw]
    have zk : (ks.zip ws).map (·.1) = ks := List.map_fst_zip (by omega)
    refine wpAny_bind (wpAny_alloc (wpAny_bind ?_))
    refine nss_fill (ks.zip ws) _ [] 0 (Heap.get?_push_size _ rfl) (fun e he => by cases he) (fun e he => by cases he) (by rw [zk]; exact nd) fun h' hd' kp z => wpAny_pure ?_
    have kp' : ∀ b x, s.heap.get? b = some x → h'.get? b = some x := fun b x q => kp b x (Nat.ne_of_lt (Heap.lt_size q)) (Heap.get?_push_of_some _ q)
    have zz : s.heap.objs.size ≤ h'.objs.size := by
      rw [z]
      show s.heap.objs.size ≤ (s.heap.push _).objs.size
      rw [Heap.size_push]
      exact Nat.le_succ _
    have lv : (kwV ks zs).length ≤ sizeLine := by
      unfold kwV
      rw [List.length_map, List.length_zip]
      exact sz_of (by omega)
    have new : ObjOk P w (upd H s.heap.objs.size (.dK (kwV ks zs))) h' s.heap.objs.size (.dK (kwV ks zs)) :=
      ⟨lv, beq_eq_false_iff_ne.mpr (Ne.symm (Nat.ne_of_lt (env0_big e0))), kwK (ks.zip ws), kwV_kv rz, Heap.dictOf_iff.mpr ⟨_, hd', kw_dict _ _ (by rw [zk]; exact nd)⟩⟩
    have un : Un (frs outer) [] H (upd H s.heap.objs.size (.dK (kwV ks zs))) s.heap h' := Un.laid kp' (Nat.le_refl _) hn
    have e1 := env0_grown (t' := s.toks + (ks.zip ws).length) e0 kp' zz new
    exact h _ _ [v, V.ref s.heap.objs.size] [u, Value.ref s.heap.objs.size] e1 un rfl (fun e s' => hCX outer s H _ _ E e s' un kp' rfl) (.cons rv (.cons rfl .nil)) rfl ⟨_, hn, rfl, rfl⟩
  · subst ex eH
    exact hbody A outer s2 _ _ Q E hr' (hq d hd)
end
/-! ### x.m(k = v, ..) of such a method -/
def DfW (P : Program) (w : World) (K : PySem.W.Frag) (mg : Str → Option Value) (base : Heap) (C : Addr) (m : Str) (k : Nat) (sp : List Str → List V → Sp) : Prop := ∃ f : Addr, Meth K C m f ∧ FnW P w K mg base CX0 k f sp
def tMethW (C : Addr) (m : Str) (ks : List Str) (sp : List Str → List V → Sp) (E : XK) (ta : TE) (tk : TA) : TE := fun σ H Q => ta σ H fun x H1 => ∃ a dx fs, x = .ref a ∧ H1 a = some (.ins C dx fs) ∧ fs.lookup m = none ∧ tk σ H1 fun zs H2 => sp ks zs [x] H2 Q E
theorem run_fnW {X : Cx} {CX : CXT} {pins : List (Addr × Obj)} {σ : L2.St} {H : Hp} {s : Shared} {k : Nat} {f : Addr} {sp : List Str → List V → Sp} {E : XK} {Q : VK} {ks : List Str} {us ws : List Value} {vs zs : List V} (F : FnW X.prog X.w X.K X.mg X.base CX k f sp) (hr : Room k X.A) (hx : Passes CX X E) (I : Inv X pins σ H s) (r : Vals vs us) (rz : Vals zs ws) (h : sp ks zs vs H Q E) :
    codeAny (model X.prog X.w) X.A (.call (.ref f) ⟨us, ks.zip ws⟩) (fun r s' => match r with | .ok (.ret v) => EP X pins σ Q v s' | .ok _ => False | .error e => X.xe e s') s := by
  refine codeAny_mono (F X.A X.stack s H ks us ws vs zs Q E hr I.env0 r rz h) fun r s' hq => ?_
  cases r with
  | error e => exact hx pins σ H s e s' I hq
  | ok fl =>
    cases fl with
    | ret u => exact I.after hq
    | next => exact False.elim hq
    | brk => exact False.elim hq
    | cont => exact False.elim hq
theorem pe_methW {X : Cx} {C : Addr} {m : Str} {k : Nat} {ks : List Str} {sp : List Str → List V → Sp} {E : XK} {o : Expr} {kws : List Keyword} {ta : TE} {tk : TA} {apos pos : Pos} {pl : Sem Bool} (he : PE X o ta) (c : Cls X.K C) (D : DfW X.prog X.w X.K X.mg X.base C m k sp) (hr : Room k X.A) (hx : Passes CX0 X E) (hkw : PK X kws tk)
    (hall : (backToKw pos (keywordEach kws X.env)).all (·.1.isSome) = true := by rfl) (hks : (backToKw pos (keywordEach kws X.env)).filterMap (·.1) = ks := by rfl) (hpl : ((backTo pos (starEach [] X.env)).any (·.1) || (backToKw pos (keywordEach kws X.env)).any (·.1.isNone)) = false := by rfl)
    (ht : eval (.Call (.Attribute o m apos) [] kws pos) X.env = (do
      let ov ← eval o X.env
      standAt apos.atName
      let (f, first) ← holding [ov] (getMethod ov m pl)
      callWith pos f first (backTo pos (starEach [] X.env)) (backToKw pos (keywordEach kws X.env))) := by rfl) : PE X (.Call (.Attribute o m apos) [] kws pos) (tMethW C m ks sp E ta tk) := by
  refine ⟨fun pins s σ H Q I h => ?_⟩
  obtain ⟨f, hm, F⟩ := D
  refine PySem.W.methodCall_KW (pl := pl) (thn (he.run pins s σ H _ I h) fun u s1 ⟨x, H1, I1, rx, a, dx, fs, ex, ea, l, q⟩ => ?_) ht
  subst ex
  obtain rfl : u = Value.ref a := rx
  refine getmeth_ok I1 ea c hm l ?_
  refine PySem.W.callWith_KW0 (first := [.ref a]) I1.kIn hm.kp hall ?_ hpl
  refine thn (hkw.run pos pins s1 σ H1 _ I1 q) fun ws s2 ⟨zs, H2, I2, rz, q2⟩ => ⟨I2.kIn, ?_⟩
  rw [hks]
  exact wpAny_call (run_fnW F hr hx I2 (us := [.ref a]) (vs := [.ref a]) (.cons rfl .nil) rz q2)
/-! ### an instance called with keywords -/
theorem callO_ofK {M : Model} {A : Around} {E : Value → Shared → Prop} {s : Shared} {a : Addr} {pos : Pos} {Q : Value → Shared → Prop} {args : List (Bool × Sem Value)} {kws : List (Option Str × Sem Value)} (hplain : (args.any (·.1) || kws.any (·.1.isNone)) = false)
    (h : wpAny M A (evalArgs (.ref a) true args kws) (fun z s₁ => (∃ C ox od, PySem.W.InstAt s₁.heap a ox C od ∧ ox.data = .plain) ∧ wpAny M A (call (.ref a) ([] ++ z.pos) z.kw) Q E s₁) E s) : wpAny M A (callWith pos (.ref a) [] args kws) Q E s := by
  unfold callWith
  refine wpAny_bind (wpAny_holding (wpAny_mono h (fun z s₁ h₁ => wpAny_bind (wpAny_standAt ?_)) fun _ _ y => y))
  obtain ⟨⟨C, ox, od, J, hd⟩, h₁⟩ := h₁
  have L := PySem.W.kco_keeper (M := M) J hd
  simp only [hplain]
  refine wpAny_bind (L.here ?_)
  have tail : ∀ {t : Sem Value}, wpAny M A t Q E s₁ → wpAny M A (t >>= fun r => holding [r] point >>= fun _ => pure r) Q E s₁ :=
    fun ht => wpAny_bind (wpAny_mono ht (fun r s₂ hr => wpAny_bind (wpAny_holding (wpAny_point (wpAny_pure hr)))) fun _ _ y => y)
  exact tail (wpAny_operateT h₁)
def DfClK (P : Program) (w : World) (K : PySem.W.Frag) (mg : Str → Option Value) (base : Heap) (C : Addr) (ps : List Str) (n : Nat) (ks : List Str) (k : Nat) (sp : Sp) : Prop :=
  ∃ (g : Addr) (fd : FuncData), CallO K C g ∧ KBn K fd ps n ks (fun us ws => us ++ ws) (fun vs zs => vs ++ zs) ∧ FnOk P w K mg base CX0 k g fd ps sp
def tCallOK (X : Cx) (C : Addr) (n m : Nat) (sp : Sp) (E : XK) (tf : TE) (t tk : TA) : TE := fun σ H Q => tf σ H fun y H1 => ∃ a, y = V.ref a ∧ t σ H1 fun vs H2 => tk σ H2 fun zs H3 => vs.length + 1 = n ∧ zs.length = m ∧ InsC X H3 a C ∧ sp ((V.ref a :: vs) ++ zs) H3 Q E
theorem pe_clK {X : Cx} {C : Addr} {ps ks : List Str} {n k : Nat} {sp : Sp} {fe e : Expr} {es : List Expr} {kws : List Keyword} {tf : TE} {t tk : TA} {pos : Pos} (D : DfClK X.prog X.w X.K X.mg X.base C ps n ks k sp) (hr : Room k X.A) (hf : PE X fe tf) (ha : PA X (e :: es) t) (hkw : PK X kws tk)
    (ht : eval (.Call fe (e :: es) kws pos) X.env = (do callWith pos (← eval fe X.env) [] (backTo pos (starEach (e :: es) X.env)) (backToKw pos (keywordEach kws X.env))) := by rfl)
    (hall : (backToKw pos (keywordEach kws X.env)).all (·.1.isSome) = true := by rfl) (hks : (backToKw pos (keywordEach kws X.env)).filterMap (·.1) = ks := by rfl)
    (he : starEach (e :: es) X.env = (false, eval e X.env) :: starEach es X.env := by rfl) (hpl : ((backTo pos (starEach (e :: es) X.env)).any (·.1) || (backToKw pos (keywordEach kws X.env)).any (·.1.isNone)) = false := by rfl) :
    PE X (.Call fe (e :: es) kws pos) (tCallOK X C n ks.length sp E0 tf t tk) := by
  obtain ⟨g, fd, c, hb, F⟩ := D
  refine ⟨fun pins s σ H Q I h => ?_⟩
  rw [ht]
  refine wpAny_bind (thn (hf.run pins s σ H _ I h) fun u s1 ⟨y, H1, I1, ry, a, ey, q⟩ => ?_)
  subst ey
  obtain rfl : u = Value.ref a := ry
  refine callO_ofK hpl (PyProof.Rows.evalArgs_kw2 hall (thn (ha.run pos pins s1 σ H1 _ I1 q) fun us s2 ⟨vs, H2, I2, r, q2⟩ => thn (hkw.run pos pins s2 σ H2 _ I2 q2) fun ws s3 ⟨zs, H3, I3, rz, l1, l2, hi, q3⟩ => ?_) he)
  obtain ⟨ox, od, J, hd⟩ := insC_at I3 hi
  refine ⟨⟨C, ox, od, J, hd⟩, ?_⟩
  rw [hks]
  have r1 : Vals (V.ref a :: vs) (Value.ref a :: us) := .cons rfl r
  have n1 : (Value.ref a :: us).length = n := by
    rw [List.length_cons, ← r.length, l1]
  refine wpAny_call (PySem.W.kco_code I3.kIn J hd c.at_ c.fn c.fi (codeAny_mono (F.run X.A X.stack _ _ ⟨Value.ref a :: us, ks.zip ws⟩ ((Value.ref a :: us) ++ ws) _ _ E0 hr I3.env0 (hb.to _ (Value.ref a :: us) ws I3.kIn n1 (rz.length.symm.trans l2)) (hb.rel r1 rz) q3) fun r s' hq => ?_))
  cases r with
  | error e => exact pass0 pins σ _ _ e s' I3 hq
  | ok fl =>
    cases fl with
    | ret u => exact I3.after hq
    | next => exact False.elim hq
    | brk => exact False.elim hq
    | cont => exact False.elim hq
/-- a def with defaults, some of its parameters by keyword, none lacking -/
theorem _root_.L2.FunD.kbindsP {K : PySem.W.Frag} {x qual : Str} {params : Arguments} {body : List Stmt} {scope : Scope} {dvs : List V} {f : Addr} {fd : FuncData} {ps : List Str} (F : FunD K x qual params body scope dvs [] f fd) (n : Nat) (ks : List Str) (hd : dvs ≠ [])
    (h : ∀ (T : Addr) (kV doc pm : Value) (an : Option Addr) (cdv ct : Value) (us ws its : List Value), us.length = n → ws.length = ks.length → its.length = dvs.length →
      ∃ k, bindArgs (PySem.W.fnOf x qual params body scope (.ref T) kV doc pm an cdv ct) ⟨us, ks.zip ws⟩ = seqItems? (.ref T) >>= k ∧ k (some its.toArray) = pure (ps.zip (us ++ ws))) : KBn K fd ps n ks (fun us ws => us ++ ws) (fun vs zs => vs ++ zs) := by
  obtain ⟨oc, od, dV, kV, doc, pm, an, cdv, ct, osl, rfl, lk, hcd, hD, hK⟩ := F.ex
  rcases hD with ⟨e, _⟩ | ⟨_, T, o, its, m, rfl, lT, oT, rT⟩
  · exact absurd e hd
  · refine ⟨fun s us ws X l1 l2 => ?_, fun r1 r2 => r1.append r2⟩
    obtain ⟨k, e1, e2⟩ := h T kV doc pm an cdv ct us ws its l1 l2 rT.length.symm
    refine BindsTo.of_looks fun M => ?_
    rw [e1]
    exact looks_items X lT oT (.of_pure e2)
end Kz
namespace Kz
open PySem PySem.Spec PyProof.Rows L2 Evl StX
section
variable {P : Program} {w : World} {K : PySem.W.Frag} {mg : Str → Option Value} {base : Heap}
/-- the promise: [self, the keyword's value, the tuple of the rest] -/
def spStK (sp : Sp) (z : V) : Sp := fun vs H Q E => ∃ v rest, vs = v :: rest ∧ rest.length ≤ sizeLine ∧ ∀ p, H p = Option.none → sp [v, z, .ref p] (upd H p (.tup rest)) Q E
/-- called with the keyword, or without it -/
def spStW (kw : Str) (dz : V) (sp : Sp) : List Str → List V → Sp := fun ks zs vs H Q E => (ks = [kw] ∧ ∃ z, zs = [z] ∧ spStK sp z vs H Q E) ∨ (ks = [] ∧ zs = [] ∧ spStK sp dz vs H Q E)
theorem fn_starK {CX : CXT} {k : Nat} {f D : Addr} {name qual : Str} {params : Arguments} {body : List Stmt} {scope : Scope} {dV doc pm cdv ct oc dw : Value} {an od : Option Addr} {osl : Array (Option Value)} {N : List Str} {p1 kw pv : Str} {dz : V} {sp : Sp}
    (lk : K.lookup f = some ⟨oc, od, .func (PySem.W.fnOf name qual params body scope dV (.ref D) doc pm an cdv ct), osl⟩) (hcd : PySem.W.codeIn K cdv qual = true) (S : FnScope N [p1, kw, pv] scope) (hCX : CXUp CX) (hD : PySem.W.nsIn K D kw = some (some dw)) (rD : RelV dz dw)
    (hb1 : ∀ (u : Value) (rest : List Value) (z : Value), bindArgs (PySem.W.fnOf name qual params body scope dV (.ref D) doc pm an cdv ct) ⟨u :: rest, [(kw, z)]⟩ = (newTuple rest >>= fun t => pure [(p1, u), (kw, z), (pv, t)]))
    (hb0 : ∀ (u : Value) (rest : List Value), ∃ (β γ : Type) (k1 : Option Value → Sem β) (k2 : β → Sem γ) (k3 : γ → Sem (List (Str × Value))) (a : β), bindArgs (PySem.W.fnOf name qual params body scope dV (.ref D) doc pm an cdv ct) ⟨u :: rest, []⟩ = ((nsGet D kw >>= k1) >>= k2) >>= k3 ∧ k1 (some dw) = pure a ∧ (k2 a >>= k3) = (newTuple rest >>= fun t => pure [(p1, u), (kw, dw), (pv, t)]))
    (hbody : ∀ (A : Around) (outer : List Env) (s : Shared) (H : Hp) (vs : List V) (Q : VK) (E : XK), Room k (A.deeper (envOfC qual scope s.heap.objs.size f cdv)) → sp vs H Q E →
      ∃ t, PSs (cxOf CX P w K mg base N qual scope f cdv A outer s H E) body t ∧ t { nx := fun _ H' => Q .non H', rt := Q } (start N vs) H) :
    FnW P w K mg base CX (k + 1) f (spStW kw dz sp) := by
  intro A outer s H ks us ws vs zs Q E hr e0 r rz hsp
  have KX : K.In s.heap := e0.mod.kin.keeps fun b o e => (e0.bs b o e).1
  -- one way to bind, whatever the keyword's value is
  have main : ∀ (z : V) (zw : Value), RelV z zw → spStK sp z vs H Q E → (∀ (u : Value) (rest : List Value), us = u :: rest → ∀ (A' : Around) (Ex : Value → Shared → Prop) (Q' : List (Str × Value) → Shared → Prop),
      wpAny (model P w) A' (newTuple rest >>= fun t => pure [(p1, u), (kw, zw), (pv, t)]) Q' Ex s → wpAny (model P w) A' (bindArgs (PySem.W.fnOf name qual params body scope dV (.ref D) doc pm an cdv ct) ⟨us, ks.zip ws⟩) Q' Ex s) →
      codeAny (model P w) A (.call (.ref f) ⟨us, ks.zip ws⟩) (CR CX outer P w H s Q E) s := by
    intro z zw rzw hst hb
    obtain ⟨v, rest, ev, hz, hq⟩ := hst
    subst ev
    cases r with
    | cons rv rn =>
    rename_i u ur
    have hn : H s.heap.objs.size = Option.none := e0.hok.fresh (Nat.le_refl _)
    have hl2 : ur.length ≤ sizeLine := by rw [← rn.length]; exact hz
    refine run_bnd lk hcd S hr e0 (G := fun xs H2 => ∃ p, H p = Option.none ∧ xs = [v, z, V.ref p] ∧ H2 = upd H p (.tup rest)) (fun A' Ex Q' h => ?_) fun s2 H2 xs ⟨p, hp, ex, eH⟩ hr' => ?_
    · refine hb u ur rfl A' Ex Q' ?_
      refine wpAny_bind (wpAny_newTuple (wpAny_pure ?_) hl2)
      have new : ObjOk P w (upd H s.heap.objs.size (.tup rest)) (s.heap.push ({ cls := .type "tuple", data := .seq ur.toArray } : Obj)) s.heap.objs.size (.tup rest) := ⟨hz, ur, rn, ⟨_, Heap.get?_push_size _ rfl, rfl, _, rfl⟩⟩
      have un := un_laid (fs := frs outer) (s := s) (o := ({ cls := .type "tuple", data := .seq ur.toArray } : Obj)) (u := .tup rest) hn
      exact h _ _ [v, z, V.ref s.heap.objs.size] [u, zw, Value.ref s.heap.objs.size] (env0_laid e0 new) un rfl (fun e s' => hCX outer s H _ _ E e s' un (fun b o q => Heap.get?_push_of_some _ q) rfl) (.cons rv (.cons rzw (.cons rfl .nil))) rfl ⟨_, hn, rfl, rfl⟩
    · subst ex eH
      exact hbody A outer s2 _ _ Q E hr' (hq p hp)
  rcases hsp with ⟨ek, z, ez, hst⟩ | ⟨ek, ez, hst⟩
  · subst ek ez
    cases rz with
    | cons rzw rn0 =>
    cases rn0
    rename_i zw
    refine main z zw rzw hst fun u rest eu A' Ex Q' h => ?_
    subst eu
    show wpAny (model P w) A' (bindArgs _ ⟨u :: rest, [(kw, zw)]⟩) Q' Ex s
    rw [hb1 u rest zw]
    exact h
  · subst ek ez
    cases rz
    refine main dz dw rD hst fun u rest eu A' Ex Q' h => ?_
    subst eu
    show wpAny (model P w) A' (bindArgs _ ⟨u :: rest, []⟩) Q' Ex s
    obtain ⟨β, γ, k1, k2, k3, a, e1, e2, e3⟩ := hb0 u rest
    have l1 : PySem.W.Looks (model P w) s.heap (nsGet D kw >>= k1) a := (PySem.W.looks_nsIn KX hD).andThen (PySem.W.Looks.of_pure e2)
    rw [e1, bind_assoc]
    refine wpAny_bind (l1.here ?_)
    rw [e3]
    exact h
end
/-- a def with keyword-only defaults -/
def FunKw (K : PySem.W.Frag) (x qual : Str) (st : Stmt) (kws : List (Str × V)) (f : Addr) (fd : FuncData) : Prop := FunD K x qual (defArgs st) (defBody st) (defScope st) [] kws f fd
/-! ### a class made so -/
def DfIW (P : Program) (w : World) (K : PySem.W.Frag) (mg : Str → Option Value) (base : Heap) (x : Str) (C : Addr) (k : Nat) (sp : List Str → List V → Sp) : Prop :=
  ∃ f : Addr, Mk K C f ∧ mg x = some (.ref C) ∧ FnW P w K mg base CX0 k f sp
def tMakeW (C : Addr) (ks : List Str) (sp : List Str → List V → Sp) (E : XK) (t tk : TA) : TE := fun σ H Q => t σ H fun vs H1 => tk σ H1 fun zs H2 => ∀ x dx, H2 x = none → H2 dx = none → dx ≠ x →
  sp ks zs (.ref x :: vs) (upd (upd H2 dx (.own x)) x (.ins C dx [])) (fun v H3 => v = .non ∧ Q (.ref x) H3) E
theorem run_makeW {X : Cx} {CX : CXT} {k : Nat} {f C : Addr} {sp : List Str → List V → Sp} {E : XK} {ks : List Str} {pins : List (Addr × Obj)} {σ : L2.St} {H : Hp} {s : Shared} {Q : VK} {us ws : List Value} {vs zs : List V} (M : Mk X.K C f) (F : FnW X.prog X.w X.K X.mg X.base CX k f sp) (hr : Room (k + 1) X.A) (hx : Passes CX X E)
    (I : Inv X pins σ H s) (r : Vals vs us) (rz : Vals zs ws)
    (h : ∀ x dx, H x = none → H dx = none → dx ≠ x → sp ks zs (.ref x :: vs) (upd (upd H dx (.own x)) x (.ins C dx [])) (fun v H2 => v = .non ∧ Q (.ref x) H2) E) :
    wpAny (model X.prog X.w) X.A (call (.ref C) us (ks.zip ws)) (EP X pins σ Q) X.xe s := by
  have hq := h (s.heap.objs.size + 1) s.heap.objs.size (I.hok.fresh (Nat.le_succ _)) (I.hok.fresh (Nat.le_refl _)) (Nat.ne_of_lt (Nat.lt_succ_self _))
  have I2 := Inv.made (C := C) I
  have r1 : Vals (V.ref (s.heap.objs.size + 1) :: vs) (Value.ref (s.heap.objs.size + 1) :: us) := .cons rfl r
  refine wpAny_call (make_map (f := f) I.kIn M.makes M.init (beq_iff_eq.mp M.fn) (codeAny_mono (F _ X.stack _ _ ks (Value.ref (s.heap.objs.size + 1) :: us) ws _ _ _ E (hr.make C us (ks.zip ws)) (I2.env0.make C us (ks.zip ws)) r1 rz hq) fun r s' hq' => ?_))
  cases r with
  | error e => exact hx pins σ _ _ e s' I2 hq'
  | ok fl =>
    cases fl with
    | ret u =>
      obtain ⟨v, H', I3, rv, ev, q3⟩ := I2.after hq'
      subst ev
      exact ⟨rv, ⟨V.ref (s.heap.objs.size + 1), H', I3, rfl, q3⟩⟩
    | next => exact False.elim hq'
    | brk => exact False.elim hq'
    | cont => exact False.elim hq'
/-- C(e, .., k = v, ..) -/
theorem pe_mkW {X : Cx} {C : Addr} {k : Nat} {ks : List Str} {sp : List Str → List V → Sp} {x : Str} {e : Expr} {es : List Expr} {kws : List Keyword} {t tk : TA} {p pos : Pos} (D : DfIW X.prog X.w X.K X.mg X.base x C k sp) (hr : Room (k + 1) X.A) (hg : Gl X x) (ha : PA X (e :: es) t) (hkw : PK X kws tk)
    (hall : (backToKw pos (keywordEach kws X.env)).all (·.1.isSome) = true := by rfl) (hks : (backToKw pos (keywordEach kws X.env)).filterMap (·.1) = ks := by rfl) (hdb : (x == ("__debug__" : Str)) = false := by decide)
    (he : starEach (e :: es) X.env = (false, eval e X.env) :: starEach es X.env := by rfl) (hpl : ((backTo pos (starEach (e :: es) X.env)).any (·.1) || (backToKw pos (keywordEach kws X.env)).any (·.1.isNone)) = false := by rfl) :
    PE X (.Call (.Name x p) (e :: es) kws pos) (tMakeW C ks sp E0 t tk) := by
  obtain ⟨f, M, hm, F⟩ := D
  refine ⟨fun pins s σ H Q I h => ?_⟩
  refine wpAny_Call_Name_kw (ld_glob I hg hm ?_ hdb)
  refine PySem.W.callWith_KW (h₀ := X.base) I.ok.mod.kin M.kp hall (thn (ha.run pos pins s σ H _ I h) fun us s1 ⟨vs, H1, I1, r, q⟩ => ?_) hpl he
  refine thn (hkw.run pos pins s1 σ H1 _ I1 q) fun ws s2 ⟨zs, H2, I2, rz, q2⟩ => ⟨I2.kIn, ?_⟩
  rw [hks]
  exact run_makeW M F hr pass0 I2 r rz q2
/-- C(e, ..), the keyword left out -/
theorem pe_mkW0 {X : Cx} {C : Addr} {k : Nat} {sp : List Str → List V → Sp} {x : Str} {e : Expr} {es : List Expr} {t : TA} {p pos : Pos} (D : DfIW X.prog X.w X.K X.mg X.base x C k sp) (hr : Room (k + 1) X.A) (hg : Gl X x) (ha : PA X (e :: es) t) (hdb : (x == ("__debug__" : Str)) = false := by decide)
    (he : starEach (e :: es) X.env = (false, eval e X.env) :: starEach es X.env := by rfl) (hpl : (backTo pos (starEach es X.env)).any (·.1) = false := by rfl) : PE X (.Call (.Name x p) (e :: es) [] pos) (tMakeW C [] sp E0 t (fun _ H Q => Q [] H)) := by
  obtain ⟨f, M, hm, F⟩ := D
  refine ⟨fun pins s σ H Q I h => ?_⟩
  refine wpAny_Call_Name_kw (ld_glob I hg hm ?_ hdb)
  refine PySem.W.callWith_K (h₀ := X.base) I.ok.mod.kin M.kp (thn (ha.run pos pins s σ H _ I h) fun us s1 ⟨vs, H1, I1, r, q⟩ => ⟨I1.kIn, ?_⟩) he hpl
  exact run_makeW (ks := []) (ws := []) M F hr pass0 I1 r .nil q
end Kz
namespace Kz
open PySem PySem.Spec PyProof.Rows L2 Evl StX
/-! ### x is True, whatever x is -/
def rIsBG : R2 := fun x y H Q => ∃ b, y = .bl b ∧ (∀ T, x ≠ .ty T) ∧ Q (.bl (decide (x = .bl b))) H
theorem op_isBG {X : Cx} : OpR X (compareOp .Is) rIsBG := by
  intro pins s σ H x y v u Q I rx ry h
  obtain ⟨b, rfl, nt, q⟩ := h
  obtain rfl : u = Value.bool b := ry
  have key : isSame v (.bool b) = pure (decide (x = V.bl b)) := by
    cases x with
    | bl a =>
      obtain rfl : v = Value.bool a := rx
      cases a <;> cases b <;> rfl
    | non =>
      obtain rfl : v = Value.none := rx
      rfl
    | ref a =>
      obtain rfl : v = Value.ref a := rx
      rfl
    | int i => obtain ⟨t, rfl⟩ := rx; rfl
    | str i => obtain ⟨t, rfl⟩ := rx; rfl
    | byt i => obtain ⟨t, rfl⟩ := rx; rfl
    | flt i => obtain ⟨t, rfl⟩ := rx; rfl
    | ty i => exact absurd rfl (nt i)
  show wpAny _ _ (isSame v (.bool b) >>= fun c => pure (Value.bool c)) _ _ _
  rw [key]
  exact wpAny_pure ⟨.bl _, H, I, rfl, q⟩
theorem rv_isBG {H : Hp} {x : V} {b : Bool} (h : ∀ T, x ≠ .ty T) : RV rIsBG x (.bl b) H (.bl (decide (x = .bl b))) := fun H1 _ _ q => ⟨b, rfl, h, q H1 (Ex.refl H1)⟩
/-! ### keyword-only parameters: all given, or all left out -/
section
variable {P : Program} {w : World} {K : PySem.W.Frag} {mg : Str → Option Value} {base : Heap}
def spKwo (sp : Sp) (n : Nat) (ks0 : List Str) (dvs : List V) : List Str → List V → Sp := fun ks zs vs H Q E => vs.length = n ∧ ((ks = ks0 ∧ zs.length = ks0.length ∧ sp (vs ++ zs) H Q E) ∨ (ks = [] ∧ zs = [] ∧ sp (vs ++ dvs) H Q E))
theorem fn_kwo {CX : CXT} {k n : Nat} {f : Addr} {fd : FuncData} {ps ks0 : List Str} {sp : Sp} {dvs : List V} {dws : List Value} (F : FnOk P w K mg base CX k f fd ps sp) (b1 : KBn K fd ps n ks0 (fun us ws => us ++ ws) (fun vs zs => vs ++ zs)) (b0 : KBn K fd ps n [] (fun us _ => us ++ dws) (fun vs _ => vs ++ dvs)) :
    FnW P w K mg base CX k f (spKwo sp n ks0 dvs) := by
  intro A outer s H ks us ws vs zs Q E hr e0 r rz h
  have inn : K.In s.heap := e0.mod.kin.keeps fun b o z => (e0.bs b o z).1
  obtain ⟨ln, h⟩ := h
  have lu : us.length = n := by rw [← r.length]; exact ln
  rcases h with ⟨rfl, lz, h⟩ | ⟨rfl, rfl, h⟩
  · exact F.run A outer s H ⟨us, ks.zip ws⟩ (us ++ ws) (vs ++ zs) Q E hr e0 (b1.to s us ws inn lu (by rw [← rz.length]; exact lz)) (b1.rel r rz) h
  · cases rz
    exact F.run A outer s H ⟨us, []⟩ (us ++ dws) (vs ++ dvs) Q E hr e0 (b0.to s us [] inn lu rfl) (b0.rel (zs := []) (ws := []) r .nil) h
/-- defaults looked up one after the other -/
def ChainD (D : Addr) {γ : Type} : List (Str × Value) → Sem γ → γ → Prop
  | [], m, r => m = pure r
  | (x, u) :: rest, m, r => ∃ (β : Type) (k1 : Option Value → Sem β) (k2 : β → Sem γ) (a : β), m = ((nsGet D x >>= k1) >>= k2) ∧ k1 (some u) = pure a ∧ ChainD D rest (k2 a) r
theorem looks_chain {M : Model} {h : Heap} {D : Addr} {γ : Type} (X : K.In h) : ∀ (xs : List (Str × Value)) (m : Sem γ) (r : γ), ChainD D xs m r → (∀ q ∈ xs, PySem.W.nsIn K D q.1 = some (some q.2)) → PySem.W.Looks M h m r
  | [], m, r, e, _ => .of_pure e
  | q :: xs, m, r, ⟨β, k1, k2, a, e1, e2, c⟩, hq => by
    rw [e1]
    exact ((PySem.W.looks_nsIn X (hq q List.mem_cons_self)).andThen (.of_pure e2)).andThen (looks_chain X xs _ _ c fun y hy => hq y (List.mem_cons_of_mem _ hy))
theorem kbn_defs {D : Addr} {fd : FuncData} {ps : List Str} {n : Nat} {qs : List (Str × Value)} {dvs : List V} (hq : ∀ q ∈ qs, PySem.W.nsIn K D q.1 = some (some q.2)) (rd : Vals dvs (qs.map (·.2)))
    (hb : ∀ us : List Value, us.length = n → ∃ (γ : Type) (m : Sem γ) (k3 : γ → Sem (List (Str × Value))) (r : γ), bindArgs fd ⟨us, []⟩ = m >>= k3 ∧ ChainD D qs m r ∧ k3 r = pure (ps.zip (us ++ qs.map (·.2)))) :
    KBn K fd ps n [] (fun us _ => us ++ qs.map (·.2)) (fun vs _ => vs ++ dvs) := ⟨fun s us ws X l1 l2 => by
  obtain ⟨γ, m, k3, r, e1, c, e3⟩ := hb us l1
  refine BindsTo.of_looks fun M => ?_
  show PySem.W.Looks M s.heap (bindArgs fd ⟨us, []⟩) _
  rw [e1]
  exact (looks_chain X qs m r c hq).andThen (.of_pure e3), fun r1 _ => r1.append rd⟩
end
/-! ### a class made so, raising -/
def DfIWX (P : Program) (w : World) (K : PySem.W.Frag) (mg : Str → Option Value) (base : Heap) (x : Str) (C : Addr) (k : Nat) (sp : List Str → List V → Sp) : Prop :=
  ∃ f : Addr, Mk K C f ∧ mg x = some (.ref C) ∧ FnW P w K mg base (L2.CX P w) k f sp
def tMakeWS (C : Addr) (ks : List Str) (sp : List Str → List V → Sp) (W : WX) (t tk : TA) : TE := fun σ H Q => t σ H fun vs H1 => tk σ H1 fun zs H2 => ∀ x dx, H2 x = none → H2 dx = none → dx ≠ x →
  sp ks zs (.ref x :: vs) (upd (upd H2 dx (.own x)) x (.ins C dx [])) (fun v H3 => v = .non ∧ Q (.ref x) H3) (WE W σ)
theorem run_makeWS {X : Cx} {CX : CXT} {k : Nat} {f C : Addr} {sp : List Str → List V → Sp} {E : XK} {ks : List Str} {pins : List (Addr × Obj)} {σ : L2.St} {H : Hp} {s : Shared} {Q : VK} {us ws : List Value} {vs zs : List V} (M : Mk X.K C f) (F : FnW X.prog X.w X.K X.mg X.base CX k f sp) (hr : Room (k + 1) X.A) (hx : PassesAt CX X σ E)
    (I : Inv X pins σ H s) (r : Vals vs us) (rz : Vals zs ws)
    (h : ∀ x dx, H x = none → H dx = none → dx ≠ x → sp ks zs (.ref x :: vs) (upd (upd H dx (.own x)) x (.ins C dx [])) (fun v H2 => v = .non ∧ Q (.ref x) H2) E) :
    wpAny (model X.prog X.w) X.A (call (.ref C) us (ks.zip ws)) (EP X pins σ Q) X.xe s := by
  have hq := h (s.heap.objs.size + 1) s.heap.objs.size (I.hok.fresh (Nat.le_succ _)) (I.hok.fresh (Nat.le_refl _)) (Nat.ne_of_lt (Nat.lt_succ_self _))
  have I2 := Inv.made (C := C) I
  have r1 : Vals (V.ref (s.heap.objs.size + 1) :: vs) (Value.ref (s.heap.objs.size + 1) :: us) := .cons rfl r
  refine wpAny_call (make_map (f := f) I.kIn M.makes M.init (beq_iff_eq.mp M.fn) (codeAny_mono (F _ X.stack _ _ ks (Value.ref (s.heap.objs.size + 1) :: us) ws _ _ _ E (hr.make C us (ks.zip ws)) (I2.env0.make C us (ks.zip ws)) r1 rz hq) fun r s' hq' => ?_))
  cases r with
  | error e => exact hx pins _ _ e s' I2 hq'
  | ok fl =>
    cases fl with
    | ret u =>
      obtain ⟨v, H', I3, rv, ev, q3⟩ := I2.after hq'
      subst ev
      exact ⟨rv, ⟨V.ref (s.heap.objs.size + 1), H', I3, rfl, q3⟩⟩
    | next => exact False.elim hq'
    | brk => exact False.elim hq'
    | cont => exact False.elim hq'
theorem pe_mkWS {X : Cx} {C : Addr} {k : Nat} {ks : List Str} {sp : List Str → List V → Sp} {W : WX} {x : Str} {e : Expr} {es : List Expr} {kws : List Keyword} {t tk : TA} {p pos : Pos} (D : DfIWX X.prog X.w X.K X.mg X.base x C k sp) (hr : Room (k + 1) X.A) (hg : Gl X x) (tks : L2.Takes X W) (ha : PA X (e :: es) t) (hkw : PK X kws tk)
    (hall : (backToKw pos (keywordEach kws X.env)).all (·.1.isSome) = true := by rfl) (hks : (backToKw pos (keywordEach kws X.env)).filterMap (·.1) = ks := by rfl) (hdb : (x == ("__debug__" : Str)) = false := by decide)
    (he : starEach (e :: es) X.env = (false, eval e X.env) :: starEach es X.env := by rfl) (hpl : ((backTo pos (starEach (e :: es) X.env)).any (·.1) || (backToKw pos (keywordEach kws X.env)).any (·.1.isNone)) = false := by rfl) :
    PE X (.Call (.Name x p) (e :: es) kws pos) (tMakeWS C ks sp W t tk) := by
  obtain ⟨f, M, hm, F⟩ := D
  refine ⟨fun pins s σ H Q I h => ?_⟩
  refine wpAny_Call_Name_kw (ld_glob I hg hm ?_ hdb)
  refine PySem.W.callWith_KW (h₀ := X.base) I.ok.mod.kin M.kp hall (thn (ha.run pos pins s σ H _ I h) fun us s1 ⟨vs, H1, I1, r, q⟩ => ?_) hpl he
  refine thn (hkw.run pos pins s1 σ H1 _ I1 q) fun ws s2 ⟨zs, H2, I2, rz, q2⟩ => ⟨I2.kIn, ?_⟩
  rw [hks]
  exact run_makeWS M F hr (L2.passAt tks σ) I2 r rz q2
theorem pe_mkWS0 {X : Cx} {C : Addr} {k : Nat} {sp : List Str → List V → Sp} {W : WX} {x : Str} {e : Expr} {es : List Expr} {t : TA} {p pos : Pos} (D : DfIWX X.prog X.w X.K X.mg X.base x C k sp) (hr : Room (k + 1) X.A) (hg : Gl X x) (tks : L2.Takes X W) (ha : PA X (e :: es) t) (hdb : (x == ("__debug__" : Str)) = false := by decide)
    (he : starEach (e :: es) X.env = (false, eval e X.env) :: starEach es X.env := by rfl) (hpl : (backTo pos (starEach es X.env)).any (·.1) = false := by rfl) : PE X (.Call (.Name x p) (e :: es) [] pos) (tMakeWS C [] sp W t (fun _ H Q => Q [] H)) := by
  obtain ⟨f, M, hm, F⟩ := D
  refine ⟨fun pins s σ H Q I h => ?_⟩
  refine wpAny_Call_Name_kw (ld_glob I hg hm ?_ hdb)
  refine PySem.W.callWith_K (h₀ := X.base) I.ok.mod.kin M.kp (thn (ha.run pos pins s σ H _ I h) fun us s1 ⟨vs, H1, I1, r, q⟩ => ⟨I1.kIn, ?_⟩) he hpl
  exact run_makeWS (ks := []) (ws := []) M F hr (L2.passAt tks σ) I1 r .nil q
/-! ### x.m(k = v, ..) that may raise -/
def DfWX (P : Program) (w : World) (K : PySem.W.Frag) (mg : Str → Option Value) (base : Heap) (C : Addr) (m : Str) (k : Nat) (sp : List Str → List V → Sp) : Prop := ∃ f : Addr, Meth K C m f ∧ FnW P w K mg base (L2.CX P w) k f sp
def tMethWS (C : Addr) (m : Str) (ks : List Str) (sp : List Str → List V → Sp) (W : WX) (ta : TE) (tk : TA) : TE := fun σ H Q => ta σ H fun x H1 => ∃ a dx fs, x = .ref a ∧ H1 a = some (.ins C dx fs) ∧ fs.lookup m = none ∧ tk σ H1 fun zs H2 => sp ks zs [x] H2 Q (WE W σ)
theorem run_fnWS {X : Cx} {CX : CXT} {pins : List (Addr × Obj)} {σ : L2.St} {H : Hp} {s : Shared} {k : Nat} {f : Addr} {sp : List Str → List V → Sp} {E : XK} {Q : VK} {ks : List Str} {us ws : List Value} {vs zs : List V} (F : FnW X.prog X.w X.K X.mg X.base CX k f sp) (hr : Room k X.A) (hx : PassesAt CX X σ E) (I : Inv X pins σ H s) (r : Vals vs us) (rz : Vals zs ws) (h : sp ks zs vs H Q E) :
    codeAny (model X.prog X.w) X.A (.call (.ref f) ⟨us, ks.zip ws⟩) (fun r s' => match r with | .ok (.ret v) => EP X pins σ Q v s' | .ok _ => False | .error e => X.xe e s') s := by
  refine codeAny_mono (F X.A X.stack s H ks us ws vs zs Q E hr I.env0 r rz h) fun r s' hq => ?_
  cases r with
  | error e => exact hx pins H s e s' I hq
  | ok fl =>
    cases fl with
    | ret u => exact I.after hq
    | next => exact False.elim hq
    | brk => exact False.elim hq
    | cont => exact False.elim hq
theorem pe_methWS {X : Cx} {C : Addr} {m : Str} {k : Nat} {ks : List Str} {sp : List Str → List V → Sp} {W : WX} {o : Expr} {kws : List Keyword} {ta : TE} {tk : TA} {apos pos : Pos} {pl : Sem Bool} (he : PE X o ta) (c : Cls X.K C) (D : DfWX X.prog X.w X.K X.mg X.base C m k sp) (hr : Room k X.A) (tks : L2.Takes X W) (hkw : PK X kws tk)
    (hall : (backToKw pos (keywordEach kws X.env)).all (·.1.isSome) = true := by rfl) (hks : (backToKw pos (keywordEach kws X.env)).filterMap (·.1) = ks := by rfl) (hpl : ((backTo pos (starEach [] X.env)).any (·.1) || (backToKw pos (keywordEach kws X.env)).any (·.1.isNone)) = false := by rfl)
    (ht : eval (.Call (.Attribute o m apos) [] kws pos) X.env = (do
      let ov ← eval o X.env
      standAt apos.atName
      let (f, first) ← holding [ov] (getMethod ov m pl)
      callWith pos f first (backTo pos (starEach [] X.env)) (backToKw pos (keywordEach kws X.env))) := by rfl) : PE X (.Call (.Attribute o m apos) [] kws pos) (tMethWS C m ks sp W ta tk) := by
  refine ⟨fun pins s σ H Q I h => ?_⟩
  obtain ⟨f, hm, F⟩ := D
  refine PySem.W.methodCall_KW (pl := pl) (thn (he.run pins s σ H _ I h) fun u s1 ⟨x, H1, I1, rx, a, dx, fs, ex, ea, l, q⟩ => ?_) ht
  subst ex
  obtain rfl : u = Value.ref a := rx
  refine getmeth_ok I1 ea c hm l ?_
  refine PySem.W.callWith_KW0 (first := [.ref a]) I1.kIn hm.kp hall ?_ hpl
  refine thn (hkw.run pos pins s1 σ H1 _ I1 q) fun ws s2 ⟨zs, H2, I2, rz, q2⟩ => ⟨I2.kIn, ?_⟩
  rw [hks]
  exact wpAny_call (run_fnWS F hr (L2.passAt tks σ) I2 (us := [.ref a]) (vs := [.ref a]) (.cons rfl .nil) rz q2)
/-! ### x.p = v by a setter that may raise -/
def DfPS (P : Program) (w : World) (K : PySem.W.Frag) (mg : Str → Option Value) (base : Heap) (C : Addr) (f : Str) (k : Nat) (sp : Sp) : Prop :=
  ∃ (p g : Addr) (fd : FuncData), PySem.W.takerIn K C f = some (some (.ref p)) ∧ PySem.W.typeIn K (.ref p) = some (.type "property") ∧ (∃ a rest, PySem.W.recIn K p "property" = some (a :: .ref g :: rest)) ∧ Binds K fd ["self", "value"] [] ∧ FnOk P w K mg base (L2.CX P w) k g fd ["self", "value"] sp
def gPropS (C : Addr) (sp : Sp) (W : WX) (to : TE) : TG := fun v σ H Q => to σ H fun x H1 => ∃ a dx fs, x = .ref a ∧ H1 a = some (.ins C dx fs) ∧ sp [.ref a, v] H1 (fun _ H2 => Q σ H2) (WE W σ)
theorem pg_propS {X : Cx} {C : Addr} {f : Str} {k : Nat} {sp : Sp} {W : WX} {o : Expr} {to : TE} {pos : Pos} (c : Cls X.K C) (D : DfPS X.prog X.w X.K X.mg X.base C f k sp) (hr : Room (k + 2) X.A) (tks : L2.Takes X W) (ho : PE X o to)
    (ht : ∀ v, assign (.Attribute o f pos) X.env v = (do
      let ov ← holding [v] (eval o X.env)
      standAt pos.atName
      holding [v, ov] (setAttr ov f v)
      release [v, ov] []) := by intro v; rfl) : PG X (.Attribute o f pos) (gPropS C sp W to) := by
  obtain ⟨p, g, fd, h1, h2, ⟨a0, rest, h3⟩, hb, F⟩ := D
  refine ⟨fun pins s σ H v u Q I rv h => ?_⟩
  rw [ht]
  refine wpAny_bind (wpAny_holding (thn (ho.run pins s σ H _ I h) fun ux s1 ⟨x, H1, I1, rx, a, dx, fs, ex, ea, q⟩ => ?_))
  subst ex
  obtain rfl : ux = Value.ref a := rx
  refine wpAny_bind (wpAny_standAt (wpAny_bind (wpAny_holding ?_)))
  obtain ⟨mA, om, _⟩ := ins_get I1.hok ea
  obtain ⟨od, ho2, _⟩ := lookIn_ns om.ns
  have J : PySem.W.InstAt s1.heap a (PySem.W.instObj C dx) C (some od) := ⟨om.obj, rfl, rfl, ho2⟩
  obtain ⟨m, hns, _⟩ := I1.loc
  have fr : Fr X.base X.env.locals s1.heap m := ⟨hns, fun b o e => (I1.env0.bs b o e).1, Nat.le_trans I1.ok.bsz I1.ok.above⟩
  refine PySem.W.set_prop fr I1.ok.mod.kin J c.sa c.po h1 h2 h3 ?_
  have I2 := I1.tok (s1.toks + 1)
  have b := hb _ [.ref a, u] I2.kIn rfl
  refine codeAny_mono (F.run _ X.stack _ H1 ⟨[.ref a, u], []⟩ [.ref a, u] [.ref a, v] _ (WE W σ) hr.in1.in1 I2.env0.in1.in1 b (.cons rfl (.cons rv .nil)) q) fun r s' hq => ?_
  cases r with
  | error e => exact L2.passAt tks σ pins H1 _ e s' I2 hq
  | ok fl =>
    cases fl with
    | ret u2 =>
      obtain ⟨v2, H2, I3, _, q3⟩ := I2.after hq
      exact wpAny_release ⟨σ, H2, I3, q3⟩
    | next => exact False.elim hq
    | brk => exact False.elim hq
    | cont => exact False.elim hq
end Kz
set_option Elab.async false
set_option linter.all false
set_option maxRecDepth 100000
set_option maxHeartbeats 4000000
namespace Q
open PySem PySem.Spec PyProof.Rows L2 Evl StX Kz
def topS (i : Nat) : Stmt := PySem.Challenge.pw_gluedlines_k26_rules_made_and_changed.main.body.getD i (.Pass ⟨0, 0, 0, 0⟩)

abbrev s_NoRule___init__ : Stmt := inClass (topS 4) 0
theorem sc_NoRule___init__ : FnScope ["self", "field"] ["self", "field"] (defScope s_NoRule___init__) := ⟨rfl, rfl, rfl, by decide +kernel, rfl, by decide +kernel, by decide +kernel⟩
abbrev s_is_line : Stmt := topS 9
theorem sc_is_line : FnScope ["thing", "sign"] ["thing"] (defScope s_is_line) := ⟨rfl, rfl, rfl, by decide +kernel, rfl, by decide +kernel, by decide +kernel⟩
abbrev s_cells_of : Stmt := topS 15
theorem sc_cells_of : FnScope ["parts", "cells", "part"] ["parts"] (defScope s_cells_of) := ⟨rfl, rfl, rfl, by decide +kernel, rfl, by decide +kernel, by decide +kernel⟩
abbrev s_started : Stmt := topS 16
theorem sc_started : FnScope ["cells"] ["cells"] (defScope s_started) := ⟨rfl, rfl, rfl, by decide +kernel, rfl, by decide +kernel, by decide +kernel⟩
abbrev s_moved : Stmt := topS 17
theorem sc_moved : FnScope ["cells", "positions", "sign", "found", "k"] ["cells", "positions", "sign"] (defScope s_moved) := ⟨rfl, rfl, rfl, by decide +kernel, rfl, by decide +kernel, by decide +kernel⟩
abbrev s_is_done : Stmt := topS 18
theorem sc_is_done : FnScope ["cells", "positions"] ["cells", "positions"] (defScope s_is_done) := ⟨rfl, rfl, rfl, by decide +kernel, rfl, by decide +kernel, by decide +kernel⟩
abbrev s__closed : Stmt := topS 19
theorem sc__closed : FnScope ["cells", "positions", "closed", "k"] ["cells", "positions"] (defScope s__closed) := ⟨rfl, rfl, rfl, by decide +kernel, rfl, by decide +kernel, by decide +kernel⟩
abbrev s__takes : Stmt := topS 20
theorem sc__takes : FnScope ["cell", "sign"] ["cell", "sign"] (defScope s__takes) := ⟨rfl, rfl, rfl, by decide +kernel, rfl, by decide +kernel, by decide +kernel⟩
abbrev s_Form___init__ : Stmt := inClass (topS 26) 3
theorem sc_Form___init__ : FnScope ["self", "parts", "at"] ["self", "parts"] (defScope s_Form___init__) := ⟨rfl, rfl, rfl, by decide +kernel, rfl, by decide +kernel, by decide +kernel⟩
abbrev s_Form_parts : Stmt := inClass (topS 26) 4
theorem sc_Form_parts : FnScope ["self"] ["self"] (defScope s_Form_parts) := ⟨rfl, rfl, rfl, by decide +kernel, rfl, by decide +kernel, by decide +kernel⟩
abbrev s_Form___contains__ : Stmt := inClass (topS 26) 7
theorem sc_Form___contains__ : FnScope ["self", "line", "positions", "sign"] ["self", "line"] (defScope s_Form___contains__) := ⟨rfl, rfl, rfl, by decide +kernel, rfl, by decide +kernel, by decide +kernel⟩
abbrev s_Form___str__ : Stmt := inClass (topS 26) 11
theorem sc_Form___str__ : FnScope ["self"] ["self"] (defScope s_Form___str__) := ⟨rfl, rfl, rfl, by decide +kernel, rfl, by decide +kernel, by decide +kernel⟩
abbrev s__is_allowed : Stmt := topS 29
theorem sc__is_allowed : FnScope ["parts", "at", "part"] ["parts", "at"] (defScope s__is_allowed) := ⟨rfl, rfl, rfl, by decide +kernel, rfl, by decide +kernel, by decide +kernel⟩
abbrev s_Rule___init__ : Stmt := inClass (topS 36) 0
theorem sc_Rule___init__ : FnScope ["self", "begins", "ends", "most", "alone", "tags", "quiet"] ["self", "begins", "ends", "most", "alone", "tags", "quiet"] (defScope s_Rule___init__) := ⟨rfl, rfl, rfl, by decide +kernel, rfl, by decide +kernel, by decide +kernel⟩
abbrev s_Rule_most : Stmt := inClass (topS 36) 4
theorem sc_Rule_most : FnScope ["self"] ["self"] (defScope s_Rule_most) := ⟨rfl, rfl, rfl, by decide +kernel, rfl, by decide +kernel, by decide +kernel⟩
abbrev s_Rule_most__set : Stmt := inClass (topS 36) 5
theorem sc_Rule_most__set : FnScope ["self", "value"] ["self", "value"] (defScope s_Rule_most__set) := ⟨rfl, rfl, rfl, by decide +kernel, rfl, by decide +kernel, by decide +kernel⟩
abbrev s_Rule_alone : Stmt := inClass (topS 36) 6
theorem sc_Rule_alone : FnScope ["self"] ["self"] (defScope s_Rule_alone) := ⟨rfl, rfl, rfl, by decide +kernel, rfl, by decide +kernel, by decide +kernel⟩
abbrev s_Rule_alone__set : Stmt := inClass (topS 36) 7
theorem sc_Rule_alone__set : FnScope ["self", "value"] ["self", "value"] (defScope s_Rule_alone__set) := ⟨rfl, rfl, rfl, by decide +kernel, rfl, by decide +kernel, by decide +kernel⟩
abbrev s_Rule_tags : Stmt := inClass (topS 36) 8
theorem sc_Rule_tags : FnScope ["self"] ["self"] (defScope s_Rule_tags) := ⟨rfl, rfl, rfl, by decide +kernel, rfl, by decide +kernel, by decide +kernel⟩
abbrev s_Rule_tags__set : Stmt := inClass (topS 36) 9
theorem sc_Rule_tags__set : FnScope ["self", "value"] ["self", "value"] (defScope s_Rule_tags__set) := ⟨rfl, rfl, rfl, by decide +kernel, rfl, by decide +kernel, by decide +kernel⟩
abbrev s_Rule_quiet : Stmt := inClass (topS 36) 10
theorem sc_Rule_quiet : FnScope ["self"] ["self"] (defScope s_Rule_quiet) := ⟨rfl, rfl, rfl, by decide +kernel, rfl, by decide +kernel, by decide +kernel⟩
abbrev s_Rule_quiet__set : Stmt := inClass (topS 36) 11
theorem sc_Rule_quiet__set : FnScope ["self", "value"] ["self", "value"] (defScope s_Rule_quiet__set) := ⟨rfl, rfl, rfl, by decide +kernel, rfl, by decide +kernel, by decide +kernel⟩
abbrev s_Rule_change : Stmt := inClass (topS 36) 12
theorem sc_Rule_change : FnScope ["self", "settings", "name", "field"] ["self", "settings"] (defScope s_Rule_change) := ⟨rfl, rfl, rfl, by decide +kernel, rfl, by decide +kernel, by decide +kernel⟩
abbrev s_Rule_begins : Stmt := inClass (topS 36) 13
theorem sc_Rule_begins : FnScope ["self"] ["self"] (defScope s_Rule_begins) := ⟨rfl, rfl, rfl, by decide +kernel, rfl, by decide +kernel, by decide +kernel⟩
abbrev s_Rule_ends : Stmt := inClass (topS 36) 14
theorem sc_Rule_ends : FnScope ["self"] ["self"] (defScope s_Rule_ends) := ⟨rfl, rfl, rfl, by decide +kernel, rfl, by decide +kernel, by decide +kernel⟩
abbrev s_assign : Stmt := topS 37
theorem sc_assign : FnScope ["rule", "field", "value"] ["rule", "field", "value"] (defScope s_assign) := ⟨rfl, rfl, rfl, by decide +kernel, rfl, by decide +kernel, by decide +kernel⟩
abbrev s__check : Stmt := topS 38
theorem sc__check : FnScope ["field", "value", "allowed"] ["field", "value"] (defScope s__check) := ⟨rfl, rfl, rfl, by decide +kernel, rfl, by decide +kernel, by decide +kernel⟩
abbrev s__is_number : Stmt := topS 39
theorem sc__is_number : FnScope ["value", "low", "high"] ["value", "low", "high"] (defScope s__is_number) := ⟨rfl, rfl, rfl, by decide +kernel, rfl, by decide +kernel, by decide +kernel⟩
abbrev s__law_pool : Stmt := topS 41
theorem sc__law_pool : FnScope ["script", "k", "cell", "seed"] ["script", "k"] (defScope s__law_pool) := ⟨rfl, rfl, rfl, by decide +kernel, rfl, by decide +kernel, by decide +kernel⟩
abbrev s__law_take : Stmt := topS 42
theorem sc__law_take : FnScope ["pool", "many", "digit"] ["pool", "many"] (defScope s__law_take) := ⟨rfl, rfl, rfl, by decide +kernel, rfl, by decide +kernel, by decide +kernel⟩
abbrev s__law_all_signs : Stmt := topS 43
theorem sc__law_all_signs : FnScope [] [] (defScope s__law_all_signs) := ⟨rfl, rfl, rfl, by decide +kernel, rfl, by decide +kernel, by decide +kernel⟩
abbrev s__law_text : Stmt := topS 44
theorem sc__law_text : FnScope ["pool", "text", "style", "k"] ["pool"] (defScope s__law_text) := ⟨rfl, rfl, rfl, by decide +kernel, rfl, by decide +kernel, by decide +kernel⟩
abbrev s__law_parts : Stmt := topS 45
theorem sc__law_parts : FnScope ["pool", "parts", "k", "kind", "fixed"] ["pool"] (defScope s__law_parts) := ⟨rfl, rfl, rfl, by decide +kernel, rfl, by decide +kernel, by decide +kernel⟩
abbrev s__law_form : Stmt := topS 46
theorem sc__law_form : FnScope ["parts"] ["parts"] (defScope s__law_form) := ⟨rfl, rfl, rfl, by decide +kernel, rfl, by decide +kernel, by decide +kernel⟩
abbrev s__law_value : Stmt := topS 47
theorem sc__law_value : FnScope ["pool", "k", "kind"] ["pool", "k"] (defScope s__law_value) := ⟨rfl, rfl, rfl, by decide +kernel, rfl, by decide +kernel, by decide +kernel⟩
abbrev s__law_good : Stmt := topS 48
theorem sc__law_good : FnScope ["k", "value"] ["k", "value"] (defScope s__law_good) := ⟨rfl, rfl, rfl, by decide +kernel, rfl, by decide +kernel, by decide +kernel⟩
abbrev s__law_fields : Stmt := topS 49
theorem sc__law_fields : FnScope [] [] (defScope s__law_fields) := ⟨rfl, rfl, rfl, by decide +kernel, rfl, by decide +kernel, by decide +kernel⟩
abbrev s__law_due : Stmt := topS 50
theorem sc__law_due : FnScope ["values", "asked", "k"] ["values", "asked"] (defScope s__law_due) := ⟨rfl, rfl, rfl, by decide +kernel, rfl, by decide +kernel, by decide +kernel⟩
abbrev s__law_same : Stmt := topS 51
theorem sc__law_same : FnScope ["one", "other"] ["one", "other"] (defScope s__law_same) := ⟨rfl, rfl, rfl, by decide +kernel, rfl, by decide +kernel, by decide +kernel⟩
abbrev s__law_tells : Stmt := topS 52
theorem sc__law_tells : FnScope ["rule", "values", "begins", "ends", "actual", "k", "mark"] ["rule", "values", "begins", "ends"] (defScope s__law_tells) := ⟨rfl, rfl, rfl, by decide +kernel, rfl, by decide +kernel, by decide +kernel⟩
abbrev s__law_refused : Stmt := topS 53
theorem sc__law_refused : FnScope ["begins", "ends", "values", "e"] ["begins", "ends", "values"] (defScope s__law_refused) := ⟨rfl, rfl, rfl, by decide +kernel, rfl, by decide +kernel, by decide +kernel⟩
abbrev s__law_below : Stmt := topS 54
theorem sc__law_below : FnScope ["begins", "ends", "values", "e"] ["begins", "ends", "values"] (defScope s__law_below) := ⟨rfl, rfl, rfl, by decide +kernel, rfl, by decide +kernel, by decide +kernel⟩
abbrev s__law_change : Stmt := topS 55
theorem sc__law_change : FnScope ["rule", "values", "asked", "e"] ["rule", "values", "asked"] (defScope s__law_change) := ⟨rfl, rfl, rfl, by decide +kernel, rfl, by decide +kernel, by decide +kernel⟩
abbrev s__law_strange : Stmt := topS 56
theorem sc__law_strange : FnScope ["rule", "value", "e"] ["rule", "value"] (defScope s__law_strange) := ⟨rfl, rfl, rfl, by decide +kernel, rfl, by decide +kernel, by decide +kernel⟩
abbrev s__law_assigned : Stmt := topS 57
theorem sc__law_assigned : FnScope ["rule", "field", "value", "told", "e"] ["rule", "field", "value"] (defScope s__law_assigned) := ⟨rfl, rfl, rfl, by decide +kernel, rfl, by decide +kernel, by decide +kernel⟩
abbrev s__law_assigns : Stmt := topS 58
theorem sc__law_assigns : FnScope ["pool", "rule", "values", "begins", "ends", "turn", "k", "value", "due", "other", "at"] ["pool", "rule", "values", "begins", "ends"] (defScope s__law_assigns) := ⟨rfl, rfl, rfl, by decide +kernel, rfl, by decide +kernel, by decide +kernel⟩
abbrev s__law_changes : Stmt := topS 59
theorem sc__law_changes : FnScope ["pool", "rule", "values", "begins", "ends", "turn", "asked", "new", "due", "k"] ["pool", "rule", "values", "begins", "ends"] (defScope s__law_changes) := ⟨rfl, rfl, rfl, by decide +kernel, rfl, by decide +kernel, by decide +kernel⟩
abbrev s__law_rules : Stmt := topS 60
theorem sc__law_rules : FnScope ["pool", "begins", "ends", "values", "texts", "given", "rule", "twin", "spoiled", "mark"] ["pool", "begins", "ends", "values"] (defScope s__law_rules) := ⟨rfl, rfl, rfl, by decide +kernel, rfl, by decide +kernel, by decide +kernel⟩
abbrev s_law : Stmt := topS 61
theorem sc_law : FnScope ["script", "k", "pool", "begins", "ends", "values", "due", "at"] ["script"] (defScope s_law) := ⟨rfl, rfl, rfl, by decide +kernel, rfl, by decide +kernel, by decide +kernel⟩
structure Txt (K : PySem.W.Frag) (mg : Str → Option Value) (a_FIELDS : Addr) (a_OPEN_PARTS : Addr) (C_Form : Addr) (C_GlueError : Addr) (C_NoRule : Addr) (C_Rule : Addr) : Prop where
  c_ANY_SIGNS : Cst mg "ANY_SIGNS" (.str (Str.ofString "<any>"))
  c_DIGIT_SIGNS : Cst mg "DIGIT_SIGNS" (.str (Str.ofString "0123456789"))
  c_FIELDS : Cst mg "FIELDS" (.ref a_FIELDS)
  o_FIELDS : WT K a_FIELDS [V.str (Str.ofString "most"), V.str (Str.ofString "alone"), V.str (Str.ofString "tags"), V.str (Str.ofString "quiet")]
  c_LETTER_SIGNS : Cst mg "LETTER_SIGNS" (.str (Str.ofString "ABCDEFGHIJKLMNOPQRSTUVWXYZabcdefghijklmnopqrstuvwxyz"))
  c_MOST_LINES : Cst mg "MOST_LINES" (.int 20)
  c_MOST_MARKS : Cst mg "MOST_MARKS" (.int 6)
  c_MOST_PARTS : Cst mg "MOST_PARTS" (.int 4)
  c_MOST_SIGNS : Cst mg "MOST_SIGNS" (.int 4)
  c_MOST_TAGS : Cst mg "MOST_TAGS" (.int 9)
  c_OPEN_PARTS : Cst mg "OPEN_PARTS" (.ref a_OPEN_PARTS)
  o_OPEN_PARTS : WT K a_OPEN_PARTS [V.str (Str.ofString "<digits>"), V.str (Str.ofString "<word>"), V.str (Str.ofString "<any>")]
  c_SIGNS : Cst mg "SIGNS" (.str (Str.ofString " #-.0123456789:>ABCDEFGHIJKLMNOPQRSTUVWXYZabcdefghijklmnopqrstuvwxyz"))
  c_SOME_DIGITS : Cst mg "SOME_DIGITS" (.str (Str.ofString "<digits>"))
  c_SOME_LETTERS : Cst mg "SOME_LETTERS" (.str (Str.ofString "<word>"))
  n_all : mg "all" = none
  n_bool : mg "bool" = none
  n_int : mg "int" = none
  n_isinstance : mg "isinstance" = none
  n_len : mg "len" = none
  n_list : mg "list" = none
  n_max : mg "max" = none
  n_min : mg "min" = none
  n_range : mg "range" = none
  n_str : mg "str" = none
  n_tuple : mg "tuple" = none
  k_Form : Cls K C_Form
  k_Rule : Cls K C_Rule
  x_GlueError : XIn K C_GlueError
  m_GlueError : mg "GlueError" = some (.ref C_GlueError)
  x_NoRule : XIn K C_NoRule
  m_NoRule : mg "NoRule" = some (.ref C_NoRule)
  f_NoRule_field : PySem.W.findIn K (.ref C_NoRule) "field" = some none
  q_g1 : PySem.W.subIn K (.ref C_GlueError) (.type "BaseException") = some true
  q_g2 : PySem.W.hasDictIn K C_GlueError = true
  q_g3 : PySem.W.typeIn K (.ref C_GlueError) = some (.type "type")
  q_g4 : PySem.W.subIn K (.ref C_NoRule) (.ref C_GlueError) = some true
  q_gs : PySem.W.kitOne K (.ref C_NoRule) (.ref C_NoRule) = some true
  c_GlueError : Cst mg "GlueError" (.ref C_GlueError)
  c_NoRule : Cst mg "NoRule" (.ref C_NoRule)
  a_Form__cells : NoAttr K C_Form "_cells"
  a_Form__parts : NoAttr K C_Form "_parts"
  a_Rule__alone : NoAttr K C_Rule "_alone"
  a_Rule__begins : NoAttr K C_Rule "_begins"
  a_Rule__ends : NoAttr K C_Rule "_ends"
  a_Rule__most : NoAttr K C_Rule "_most"
  a_Rule__quiet : NoAttr K C_Rule "_quiet"
  a_Rule__tags : NoAttr K C_Rule "_tags"
section
variable {P : Program} {w : World} {K : PySem.W.Frag} {mg : Str → Option Value} {base : Heap} {a_FIELDS : Addr} {a_OPEN_PARTS : Addr} {C_Form : Addr} {C_GlueError : Addr} {C_NoRule : Addr} {C_Rule : Addr}
/-! ### drawing: _law_pool, _law_take, _law_all_signs -/
theorem ok__law_take {f : Addr} {fd : FuncData} (F : Fun K "_law_take" "_law_take" s__law_take f fd) (T : Txt K mg a_FIELDS a_OPEN_PARTS C_Form C_GlueError C_NoRule C_Rule) : FnOk P w K mg base CX0 1 f fd ["pool", "many"] spTake := by
  refine F.ok sc__law_take (fun vs H Q E h => ?_) (fun cdv A outer s0 H vs Q E hr h => ?_)
  · obtain ⟨p, s, n, rfl, _⟩ := h
    rfl
  · obtain ⟨p, s, n, rfl, hp, hk, h0, h1, q⟩ := h
    refine ⟨_, (pss_cons (ps_if (pt_cmpR op_gt (pe_ix ix_list (pv 0) pe_int (fun _ _ => rfl)) pe_int (nomark _))
      (pss_cons (ps_set (i := 2) sc__law_take.nd rfl (Or.inl rfl) (pe_op op_mod (pe_callTy call_int1 (by rfl) T.n_int (by decide +kernel) (pa_cons (pe_ix ix_list (pv 0) pe_int (fun _ _ => rfl)) pa_nil)) (pv 1)))
      (pss_cons (ps_asg (pe_op op_fdivW (pe_ix ix_list (pv 0) pe_int (fun _ _ => rfl)) (pv 1)) (pg_sub (pv 0) pe_int set_list))
      (pss_one (ps_ret (pv 2)))))
      pss_nil)
      (pss_cons (ps_asg (pe_op op_mod (pe_callTy call_int1 (by rfl) T.n_int (by decide +kernel) (pa_cons (pe_op op_add (pe_op op_mul (pe_ix ix_list (pv 0) pe_int (fun _ _ => rfl)) pe_int) pe_int) pa_nil)) pe_int) (pg_sub (pv 0) pe_int set_list))
      (pss_one (ps_ret (pe_op op_mod (pe_callTy call_int1 (by rfl) T.n_int (by decide +kernel) (pa_cons (pe_op op_fdivW (pe_op op_mod (pe_callTy call_int1 (by rfl) T.n_int (by decide +kernel) (pa_cons (pe_op op_mul (pe_ix ix_list (pv 0) pe_int (fun _ _ => rfl)) (pe_ix ix_list (pv 0) pe_int (fun _ _ => rfl))) pa_nil)) pe_int) pe_int) pa_nil)) (pv 1)))))), ?_⟩
    refine q_when (b := decide (0 < s.1)) (et_test (ev_op (ev_op (ev_var rfl) ev_c (rv_ixL (sq_of hp) rfl)) ev_c rv_I0)) (fun hb H1 e1 => ?_) (fun hb H1 e1 => ?_)
    · have hc : 0 < s.1 := of_decide_eq_true hb
      rw [take_pos hc] at q
      have hp1 := e1 p _ hp
      refine q_asg (ev_op (ev_int (ev_op (ev_var rfl) ev_c (rv_ixL (sq_of hp1) rfl))) (ev_var rfl) (rv_mod h0)) fun H2 e2 => ?_
      have hp2 := e2 p _ hp1
      refine q_setL hp2 (ev_op (ev_op (ev_var rfl) ev_c (rv_ixL (sq_of hp2) rfl)) (ev_var rfl) (rv_div h0 (by omega))) (ev_var rfl) (j := 0) ev_c (by simp) fun H3 e3 => ?_
      refine s_ret (ev_var rfl) fun H4 e4 => q H4 ?_ (e4 p _ upd_same)
      exact (hx_trans (hx_of ((e1.trans e2).trans e3)) hx_upd).trans e4
    · have hc : ¬ 0 < s.1 := of_decide_eq_false hb
      rw [take_neg hc] at q
      have hp1 := e1 p _ hp
      have k2 := hk.2
      have k1 := hk.1
      refine q_setL hp1 (ev_op (ev_int (ev_op (ev_op (ev_op (ev_var rfl) ev_c (rv_ixL (sq_of hp1) rfl)) ev_c (rv_mul (.inr (by decide)))) ev_c rv_add)) ev_c (rv_mod (by decide))) (ev_var rfl) (j := 1) ev_c (by simp) fun H3 e3 => ?_
      have hp3 : (upd H3 p (.lst [.int s.1, .int ((s.2 * 48271 + 11) % 2147483647)])) p = some (.lst [.int s.1, .int ((s.2 * 48271 + 11) % 2147483647)]) := upd_same
      have b1 : 0 ≤ (s.2 * 48271 + 11) % 2147483647 := Int.emod_nonneg _ (by omega)
      have b2 : (s.2 * 48271 + 11) % 2147483647 < 2147483647 := Int.emod_lt_of_pos _ (by omega)
      refine s_ret (ev_op (ev_int (ev_op (ev_op (ev_int (ev_op (ev_op (ev_var rfl) ev_c (rv_ixL (sq_of hp3) rfl)) (ev_op (ev_var rfl) ev_c (rv_ixL (sq_of hp3) rfl)) (rv_mul (.inr (by omega))))) ev_c (rv_mod (by decide))) ev_c (rv_div (by decide) (by decide)))) (ev_var rfl) (rv_mod h0)) fun H4 e4 => q H4 ?_ (e4 p _ upd_same)
      exact (hx_trans (hx_of (e1.trans e3)) hx_upd).trans e4
theorem cell_ix {ns : List Int} {k : Int} (h : ns ≠ []) : atI (ns.map V.int) (k % ((ns.map V.int).length : Int)) = some (.int (cellAt ns k)) := by
  have hl : 0 < ns.length := List.length_pos_iff.mpr h
  have h1 : 0 ≤ k % (ns.length : Int) := Int.emod_nonneg k (by omega)
  have h2 : k % (ns.length : Int) < (ns.length : Int) := Int.emod_lt_of_pos k (by omega)
  rw [List.length_map]
  unfold atI ixN cellAt
  rw [List.length_map, if_pos h1, if_pos h2, if_neg h]
  have h3 : (k % (ns.length : Int)).toNat < ns.length := by omega
  show (ns.map V.int)[(k % (ns.length : Int)).toNat]? = _
  rw [List.getElem?_map, List.getElem?_eq_getElem h3, List.getD_eq_getElem?_getD, List.getElem?_eq_getElem h3]
  rfl
theorem ok__law_pool {f : Addr} {fd : FuncData} (F : Fun K "_law_pool" "_law_pool" s__law_pool f fd) (T : Txt K mg a_FIELDS a_OPEN_PARTS C_Form C_GlueError C_NoRule C_Rule) : FnOk P w K mg base CX0 1 f fd ["script", "k"] (spPool K) := by
  refine F.ok sc__law_pool (fun vs H Q E h => ?_) (fun cdv A outer s0 H vs Q E hr h => ?_)
  · obtain ⟨a, ns, k, rfl, _⟩ := h
    rfl
  · obtain ⟨a, ns, k, rfl, hS, hl, k0, k1, q⟩ := h
    refine ⟨_, (pss_cons (ps_set (i := 2) sc__law_pool.nd rfl (Or.inl rfl) pe_int)
      (pss_cons (ps_if (pt_cmpR (op_neD hr.units) (pv 0) (pe_lst pa_nil) (nomark _))
      (pss_one (ps_set (i := 2) sc__law_pool.nd rfl (Or.inl rfl) (pe_ix ix_list (pv 0) (pe_op op_mod (pe_callTy call_int1 (by rfl) T.n_int (by decide +kernel) (pa_cons (pv 1) pa_nil)) (pe_callB call_len_seq (by rfl) T.n_len PySem.boot_len (pa_cons (pv 0) pa_nil))) (fun _ _ => rfl))))
      pss_nil)
      (pss_cons (ps_set (i := 3) sc__law_pool.nd rfl (Or.inl rfl) (pe_op op_mod (pe_op op_mul (pe_callTy call_int1 (by rfl) T.n_int (by decide +kernel) (pa_cons (pe_op op_add (pe_op op_add (pe_op op_mod (pe_callTy call_int1 (by rfl) T.n_int (by decide +kernel) (pa_cons (pv 2) pa_nil)) pe_int) (pe_op op_mul pe_int (pv 1))) pe_int) pa_nil)) pe_int) pe_int))
      (pss_one (ps_ret (pe_lst (pa_cons (pe_op op_mul (pv 2) (pe_callTy call_int1 (by rfl) T.n_int (by decide +kernel) (pa_cons (pe_cmpR op_ge (pv 2) (pe_op op_pow pe_int pe_int) (nomark _)) pa_nil))) (pa_cons (pv 3) pa_nil)))))))), ?_⟩
    refine q_asg ev_c fun H1 e1 => ?_
    have hS1 := ex_l e1 hS
    refine q_ifAsg (v := .int (cellAt ns k)) (b := !eqF (ns.map V.int) []) (et_test (ev_opL (ev_var rfl) (el_lst ea_nil (Nat.zero_le _)) fun p H2 hp2 e2 => rv_neL (ex_l e2 hS1) (sq_of hp2) okV_ints (by simp)))
      (fun hb => ?_) (fun hb => ?_) fun H2 e2 => ?_
    · have hn : ns ≠ [] := fun z => by
        subst z
        cases hb
      have hn2 : 0 < ((ns.map V.int).length : Int) := by
        have := List.length_pos_iff.mpr hn
        rw [List.length_map]
        omega
      exact ev_op (ev_var rfl) (ev_op (ev_int (ev_var rfl)) (ev_lenL (ev_var rfl) hS1) (rv_mod hn2)) (rv_ixL hS1 (cell_ix hn))
    · have hn : ns = [] := by
        rw [eqF_nil] at hb
        cases ns with
        | nil => rfl
        | cons _ _ => cases hb
      subst hn
      rfl
    refine q_asg (ev_op (ev_op (ev_int (ev_op (ev_op (ev_op (ev_int (ev_var rfl)) ev_c (rv_mod (by decide))) (ev_op ev_c (ev_var rfl) (rv_mul (.inl (by decide)))) rv_add) ev_c rv_add)) ev_c (rv_mul (.inr (by decide)))) ev_c (rv_mod (by decide))) fun H3 e3 => ?_
    refine s_retL (el_lst (ea_cons (ev_op (ev_var rfl) (ev_intB (ev_op (ev_var rfl) (ev_op ev_c ev_c (rv_I ⟨by decide, by decide, by decide⟩)) rv_I0)) (rv_mul (.inr ?_))) (ea_cons (ev_var rfl) ea_nil)) (by simp)) fun p H4 hp e4 h4 => ?_
    · split <;> decide
    · exact q p H4 (fresh_back ((e1.trans e2).trans e3) hp) (((e1.trans e2).trans e3).trans e4) h4
/-- a def without arguments that hands back v -/
def spK (v : V) : Sp := fun vs H Q _ => vs = [] ∧ RetV v H Q
theorem sv_spK {v : V} {G : Hp} : SpV (spK v) [] G v := fun H1 e Q q E => ⟨rfl, q⟩
def signsS : Str := " #-.0123456789:>ABCDEFGHIJKLMNOPQRSTUVWXYZabcdefghijklmnopqrstuvwxyz"
theorem ok__law_all_signs {f : Addr} {fd : FuncData} (F : Fun K "_law_all_signs" "_law_all_signs" s__law_all_signs f fd) : FnOk P w K mg base CX0 1 f fd [] (spK (.str signsS)) := by
  refine F.ok sc__law_all_signs (fun vs H Q E h => ?_) (fun cdv A outer s0 H vs Q E hr h => ?_)
  · obtain ⟨rfl, _⟩ := h
    rfl
  · obtain ⟨rfl, q⟩ := h
    refine ⟨_, (pss_one (ps_ret pe_str)), ?_⟩
    exact s_ret ev_c q

/-! ### is_line -/
def isLn (z : Str) : Bool := decide ((0 : Int) < (z.length : Int)) && z.cps.toList.all fun c => decide (c ∈ signsS.cps.toList)
def spIsLine (K : PySem.W.Frag) : Sp := fun vs H Q _ => ∃ x : V, vs = [x] ∧ ((∃ z : Str, x = .str z ∧ z.length ≤ 40000 ∧ RetV (.bl (isLn z)) H Q) ∨ (∃ a : String, TyX K H x (.type a) ∧ kitB a "str" = some false ∧ RetV (.bl false) H Q))
theorem ok_is_line {f : Addr} {fd : FuncData} (F : Fun K "is_line" "is_line" s_is_line f fd) (T : Txt K mg a_FIELDS a_OPEN_PARTS C_Form C_GlueError C_NoRule C_Rule) : FnOk P w K mg base CX0 1 f fd ["thing"] (spIsLine K) := by
  refine F.ok sc_is_line (fun vs H Q E h => ?_) (fun cdv A outer s0 H vs Q E hr h => ?_)
  · obtain ⟨x, rfl, _⟩ := h
    rfl
  · obtain ⟨x, rfl, h⟩ := h
    refine ⟨_, (pss_one (ps_ret (pe_and (pe_callB call_isi (by rfl) T.n_isinstance (by decide +kernel) (pa_cons (pv 0) (pa_cons (pe_bltn (v := .ty "str") (by rfl) T.n_str (by decide +kernel) rfl) pa_nil))) (pe_and (pe_cmpR op_gt (pe_callB call_len_str (by rfl) T.n_len PySem.boot_len (pa_cons (pv 0) pa_nil)) pe_int (nomark _)) (pe_one (pe_callB (cr_all rfl) (by rfl) T.n_all (by decide +kernel) (pa_cons (pe_lc (own := [("sign", 1)]) (g := gName 1) rfl sc_is_line.nd (pi_str (pv 0)) (blkOk_by (own := [("sign", 1)]) (N := ["thing", "sign"]) (sc := defScope s_is_line) (by decide +kernel)) (fun _ _ _ _ _ => pg_name (i := 1) sc_is_line.nd rfl (Or.inl rfl)) (fun _ _ _ _ _ => pts_nil) (fun _ _ _ _ _ => (pe_cmpR op_in_sign (pv 1) (pe_cst T.c_SIGNS (by rfl)) (by rfl)))) pa_nil))))))), ?_⟩
    rcases h with ⟨z, rfl, hz, q⟩ | ⟨a, ty, hk, q⟩
    · refine s_ret (v := .bl (true && (decide ((0 : Int) < (z.length : Int)) && (z.cps.toList.map fun c => decide (c ∈ signsS.cps.toList)).all id))) ?_ ?_
      · refine ev_andV (ev_isi (ev_var rfl) (.base (.str z)) (by decide +kernel)) fun _ => ?_
        refine ev_andV (ev_op (ev_lenS (ev_var rfl) (by omega)) ev_c rv_I0) fun _ => ?_
        refine ev_all ?_
        have e := el_lcT (σ := start ["thing", "sign"] [.str z]) (H := H) (tl := tVar 0) (te := tOp _ (tVar 1) (tC (.str signsS))) (t := tYes) (j := 1) (vs := [1]) (fun _ => true) (fun c => .bl (decide (c ∈ signsS.cps.toList))) (ev_var rfl) hz (fun _ => rfl) (fun _ _ _ _ => et_yes)
          (fun c H1 e1 hc _ => ev_op (ev_var rfl) ev_c rv_sgn)
        rw [filter_yes] at e
        rw [List.map_map]
        exact e
      · have ee : (true && (decide ((0 : Int) < (z.length : Int)) && (z.cps.toList.map fun c => decide (c ∈ signsS.cps.toList)).all id)) = isLn z := by
          unfold isLn
          rw [Bool.true_and, List.all_map]
          rfl
        rw [ee]
        exact q
    · refine s_ret (v := .bl (false && false)) (ev_andV (ev_isi (ev_var rfl) ty hk) fun z => by cases z) q

/-! ### cells: the mirror -/
def anyP : Str := "<any>"
def digP : Str := "<digits>"
def wordP : Str := "<word>"
def digS : Str := "0123456789"
def letS : Str := "ABCDEFGHIJKLMNOPQRSTUVWXYZabcdefghijklmnopqrstuvwxyz"
def vN (k : Nat) : V := .int (k : Int)
def isOpen (p : Str) : Bool := inV (.str p) [V.str digP, V.str wordP, V.str anyP]
/-- the signs of a text, a text each -/
def signsOf (p : Str) : List Str := p.cps.toList.map fun c => ⟨#[c]⟩
def cellOf1 (p : Str) : List Str := if isOpen p then [p] else signsOf p
def cellsM : List Str → List Str
  | [] => []
  | p :: ps => cellOf1 p ++ cellsM ps
def takesM (cell : Str) (c : Nat) : Bool := if cell = digP then decide (c ∈ digS.cps.toList) else if cell = wordP then decide (c ∈ letS.cps.toList) else decide (cell = ⟨#[c]⟩)
def cellAt' (cells : List Str) (k : Nat) : Str := cells.getD k ""
def closeT (cells : List Str) (ps cl : List Nat) (k : Nat) : Bool := decide (k ∈ ps) || (decide (0 < k) && decide (k - 1 ∈ cl) && decide (cellAt' cells (k - 1) = anyP))
def closedN (cells : List Str) (ps : List Nat) : Nat → List Nat
  | 0 => []
  | k + 1 => if closeT cells ps (closedN cells ps k) k then closedN cells ps k ++ [k] else closedN cells ps k
def closedM (cells : List Str) (ps : List Nat) : List Nat := closedN cells ps (cells.length + 1)
def rawA (cells : List Str) (c : Nat) (acc : List Nat) (k : Nat) : List Nat :=
  if decide (k < cells.length) && decide (cellAt' cells k = anyP) then acc ++ [k] else if decide (k < cells.length) && takesM (cellAt' cells k) c then acc ++ [k + 1] else acc
def rawT (cells : List Str) (c : Nat) (k : Nat) : Bool := decide (0 < k) && (decide (cellAt' cells (k - 1) = digP) || decide (cellAt' cells (k - 1) = wordP)) && takesM (cellAt' cells (k - 1)) c
def rawB (cells : List Str) (c : Nat) (acc : List Nat) (k : Nat) : List Nat := if rawT cells c k then rawA cells c acc k ++ [k] else rawA cells c acc k
def rawM (cells : List Str) (c : Nat) (ps : List Nat) : List Nat := ps.foldl (rawB cells c) []
def movedM (cells : List Str) (ps : List Nat) (c : Nat) : List Nat := closedM cells (rawM cells c ps)
def startedM (cells : List Str) : List Nat := closedM cells [0]
/-! small facts -/
theorem flat_vN (ps : List Nat) : (ps.map vN).all flatV = true := by
  rw [List.all_map]
  exact List.all_eq_true.mpr fun _ _ => rfl
theorem flat_str (ps : List Str) : (ps.map V.str).all flatV = true := by
  rw [List.all_map]
  exact List.all_eq_true.mpr fun _ _ => rfl
theorem inV_vN (k : Nat) : ∀ ps : List Nat, inV (.int (k : Int)) (ps.map vN) = decide (k ∈ ps)
  | [] => rfl
  | p :: ps => by
    show (eqV (vN p) (.int (k : Int)) || inV (.int (k : Int)) (ps.map vN)) = _
    rw [inV_vN k ps, show eqV (vN p) (.int (k : Int)) = ((p : Int) == (k : Int)) from rfl]
    by_cases h : k = p
    · subst h
      simp
    · have : ¬ ((p : Int) = (k : Int)) := by omega
      simp [h, this]
theorem inV_str (k : Str) : ∀ ps : List Str, inV (.str k) (ps.map V.str) = decide (k ∈ ps)
  | [] => rfl
  | p :: ps => by
    show (eqV (.str p) (.str k) || inV (.str k) (ps.map V.str)) = _
    rw [inV_str k ps, show eqV (.str p) (.str k) = (p == k) from rfl]
    by_cases h : k = p
    · subst h
      simp
    · have : ¬ p = k := fun z => h z.symm
      simp [h, this]
theorem isOpen_eq (p : Str) : isOpen p = decide (p ∈ [digP, wordP, anyP]) := inV_str p [digP, wordP, anyP]
theorem isOpen_iff {p : Str} : isOpen p = true ↔ p = digP ∨ p = wordP ∨ p = anyP := by
  rw [isOpen_eq]
  simp
theorem chars_eq (z : Str) : chars z = (signsOf z).map V.str := by
  unfold chars signsOf
  rw [List.map_map]
  rfl
theorem cell_get {cells : List Str} {k : Nat} (h : k < cells.length) : (cells.map V.str)[k]? = some (.str (cellAt' cells k)) := by
  unfold cellAt'
  rw [List.getElem?_map, List.getElem?_eq_getElem h, List.getD_eq_getElem?_getD, List.getElem?_eq_getElem h]
  rfl
theorem cell_at {cells : List Str} {k : Nat} (h : k < cells.length) : atI (cells.map V.str) (k : Int) = some (.str (cellAt' cells k)) := by
  unfold atI ixN
  rw [if_pos (by omega), if_pos (by rw [List.length_map]; omega)]
  exact cell_get h
theorem cell_at1 {cells : List Str} {k : Nat} (h0 : 0 < k) (h : k ≤ cells.length) : atI (cells.map V.str) ((k : Int) - 1) = some (.str (cellAt' cells (k - 1))) := by
  rw [show (k : Int) - 1 = ((k - 1 : Nat) : Int) by omega]
  exact cell_at (by omega)
theorem inV_pred {k : Nat} (ps : List Nat) : inV (.int ((k : Int) - 1)) (ps.map vN) = (decide (0 < k) && decide (k - 1 ∈ ps)) := by
  by_cases h : 0 < k
  · rw [show (k : Int) - 1 = ((k - 1 : Nat) : Int) by omega, inV_vN, decide_eq_true h, Bool.true_and]
  · have e : k = 0 := by omega
    subst e
    rw [decide_eq_false (by omega), Bool.false_and]
    induction ps with
    | nil => rfl
    | cons p ps ih =>
      show (eqV (vN p) (.int ((0 : Nat) - 1 : Int)) || inV (.int (((0 : Nat) : Int) - 1)) (ps.map vN)) = _
      rw [ih, show eqV (vN p) (.int ((0 : Nat) - 1 : Int)) = ((p : Int) == ((0 : Nat) : Int) - 1) from rfl]
      have : ¬ ((p : Int) = ((0 : Nat) : Int) - 1) := by omega
      simp [this]
theorem closedN_len (cells : List Str) (ps : List Nat) : ∀ k, (closedN cells ps k).length ≤ k
  | 0 => Nat.zero_le _
  | k + 1 => by
    have := closedN_len cells ps k
    show (if closeT cells ps (closedN cells ps k) k then closedN cells ps k ++ [k] else closedN cells ps k).length ≤ k + 1
    split
    · rw [List.length_append, List.length_singleton]
      omega
    · omega
theorem rawB_len (cells : List Str) (c : Nat) (acc : List Nat) (k : Nat) : (rawB cells c acc k).length ≤ acc.length + 2 := by
  unfold rawB rawA
  split <;> split <;> simp <;> split <;> simp
theorem rawM_len (cells : List Str) (c : Nat) : ∀ (ps acc : List Nat), (ps.foldl (rawB cells c) acc).length ≤ acc.length + 2 * ps.length
  | [], acc => by simp
  | k :: ps, acc => by
    have h1 := rawM_len cells c ps (rawB cells c acc k)
    have h2 := rawB_len cells c acc k
    rw [List.foldl_cons, List.length_cons]
    omega
/-! the promises -/
def RetU (xs : List V) (H : Hp) (Q : VK) : Prop := ∀ p H2, H p = none → Ex H H2 → H2 p = some (.tup xs) → Q (.ref p) H2

def spTakes : Sp := fun vs H Q _ => ∃ (cell : Str) (c : Nat), vs = [.str cell, .str ⟨#[c]⟩] ∧ RetV (.bl (takesM cell c)) H Q
theorem sv_takes {cell : Str} {c : Nat} {G : Hp} : SpV spTakes [.str cell, .str ⟨#[c]⟩] G (.bl (takesM cell c)) := fun H1 e Q q E => ⟨_, _, rfl, q⟩
theorem ok__takes {f : Addr} {fd : FuncData} (F : Fun K "_takes" "_takes" s__takes f fd) (T : Txt K mg a_FIELDS a_OPEN_PARTS C_Form C_GlueError C_NoRule C_Rule) : FnOk P w K mg base CX0 1 f fd ["cell", "sign"] spTakes := by
  refine F.ok sc__takes (fun vs H Q E h => ?_) (fun cdv A outer s0 H vs Q E hr h => ?_)
  · obtain ⟨cell, c, rfl, _⟩ := h
    rfl
  · obtain ⟨cell, c, rfl, q⟩ := h
    refine ⟨_, (pss_cons (ps_if (pt_cmpR op_eq (pv 0) (pe_cst T.c_SOME_DIGITS (by rfl)) (nomark _))
      (pss_one (ps_ret (pe_cmpR op_in_sign (pv 1) (pe_cst T.c_DIGIT_SIGNS (by rfl)) (by rfl))))
      pss_nil)
      (pss_cons (ps_if (pt_cmpR op_eq (pv 0) (pe_cst T.c_SOME_LETTERS (by rfl)) (nomark _))
      (pss_one (ps_ret (pe_cmpR op_in_sign (pv 1) (pe_cst T.c_LETTER_SIGNS (by rfl)) (by rfl))))
      pss_nil)
      (pss_one (ps_ret (pe_cmpR op_eq (pv 0) (pv 1) (nomark _)))))), ?_⟩
    unfold takesM at q
    refine q_when (b := decide (cell = digP)) (et_test (ev_op (ev_var rfl) ev_c rv_eqS)) (fun hb H1 e1 => ?_) (fun hb H1 e1 => ?_)
    · rw [if_pos (of_decide_eq_true hb)] at q
      exact s_ret (ev_op (ev_var rfl) ev_c rv_sgn) fun H2 e2 => q H2 (e1.trans e2)
    · rw [if_neg (of_decide_eq_false hb)] at q
      refine q_when (b := decide (cell = wordP)) (et_test (ev_op (ev_var rfl) ev_c rv_eqS)) (fun hb H2 e2 => ?_) (fun hb H2 e2 => ?_)
      · rw [if_pos (of_decide_eq_true hb)] at q
        exact s_ret (ev_op (ev_var rfl) ev_c rv_sgn) fun H3 e3 => q H3 ((e1.trans e2).trans e3)
      · rw [if_neg (of_decide_eq_false hb)] at q
        exact s_ret (ev_op (ev_var rfl) (ev_var rfl) rv_eqS) fun H3 e3 => q H3 ((e1.trans e2).trans e3)
/-- positions in a list or a tuple -/
def SqA (K : PySem.W.Frag) (H : Hp) (a : Addr) (xs : List V) : Prop := SqL K H a xs ∨ SqT K H a xs
theorem ex_a {H H' : Hp} {a : Addr} {xs : List V} (e : Ex H H') (h : SqA K H a xs) : SqA K H' a xs := h.elim (fun h => .inl (ex_l e h)) (fun h => .inr (ex_t e h))
theorem rv_inA {G : Hp} {x : V} {a : Addr} {xs : List V} (h : SqA K G a xs) (hx : flatV x = true) (ha : xs.all flatV = true) : RV (rIn K false) x (.ref a) G (.bl (inV x xs)) := h.elim (fun h => rv_isL h hx ha) (fun h => rv_isT h hx ha)
def spClosed (K : PySem.W.Frag) : Sp := fun vs H Q _ => ∃ (a b : Addr) (cells : List Str) (ps : List Nat), vs = [.ref a, .ref b] ∧ SqL K H a (cells.map V.str) ∧ SqA K H b (ps.map vN) ∧ cells.length ≤ 10000 ∧ RetU ((closedM cells ps).map vN) H Q
theorem ok__closed {f : Addr} {fd : FuncData} (F : Fun K "_closed" "_closed" s__closed f fd) (T : Txt K mg a_FIELDS a_OPEN_PARTS C_Form C_GlueError C_NoRule C_Rule) : FnOk P w K mg base CX0 1 f fd ["cells", "positions"] (spClosed K) := by
  refine F.ok sc__closed (fun vs H Q E h => ?_) (fun cdv A outer s0 H vs Q E hr h => ?_)
  · obtain ⟨a, b, cells, ps, rfl, _⟩ := h
    rfl
  · obtain ⟨a, b, cells, ps, rfl, hA, hB, hl, q⟩ := h
    refine ⟨_, (pss_cons (ps_set (i := 2) sc__closed.nd rfl (Or.inl rfl) (pe_lst pa_nil))
      (pss_cons (ps_for PassesOwn.never rfl (pi_range1 (by rfl) T.n_range (pa_cons (pe_op op_add (pe_callB call_len_seq (by rfl) T.n_len PySem.boot_len (pa_cons (pv 0) pa_nil)) pe_int) pa_nil)) (pg_name (i := 3) sc__closed.nd rfl (Or.inl rfl))
      (pss_one (ps_if (PW.pt (pw_or (pt_cmpR op_in_seq (pv 3) (pv 1) (by rfl)) (pw_or1 (PW.pt (pw_and (pt_cmpR op_in_seq (pe_op op_sub (pv 3) pe_int) (pv 2) (by rfl)) (pw_and1 (pt_cmpR op_eq (pe_ix ix_list (pv 0) (pe_op op_sub (pv 3) pe_int) (fun _ _ => rfl)) (pe_cst T.c_ANY_SIGNS (by rfl)) (nomark _))))))))
      (pss_one (ps_expr (pe_bm PySem.F.plainAttrs_list PySem.F.slot_list_append PySem.F.type_list_append mt_append (pv 2) (pa_cons (pv 3) pa_nil))))
      pss_nil)))
      (pss_one (ps_ret (pe_callTy call_tuple_of (by rfl) T.n_tuple (by decide +kernel) (pa_cons (pv 2) pa_nil)))))), ?_⟩
    refine q_asgL (el_lst ea_nil (Nat.zero_le _)) fun l H1 hl0 e1 h1 => ?_
    refine q_forR1 (n := (cells.length : Int) + 1) (ea_cons (ev_is (ev_op (ev_lenL (ev_var rfl) (ex_l e1 hA)) ev_c rv_add) (by rw [List.length_map])) ea_nil) (by omega)
      (fun i σ' H' => ∃ y : Option V, σ' = [some (.ref a), some (.ref b), some (.ref l), y] ∧ Ex H H' ∧ H' l = some (.lst ((closedN cells ps i).map vN))) (fun H2 e2 => ⟨none, rfl, e1.trans e2, e2 _ _ h1⟩) ?_ ?_
    · rintro i σ' H2 hi ⟨y, rfl, e2, h2⟩
      have hi2 : i ≤ cells.length := by omega
      have hcl := closedN_len cells ps i
      refine s_when (b := closeT cells ps (closedN cells ps i) i) (et_is (et_or (et_test (ev_is (ev_op (ev_var rfl) (ev_var rfl) (rv_inA (ex_a e2 hB) rfl (flat_vN ps))) (by rw [inV_vN])))
          (fun hb => et_and (et_test (ev_is (ev_op (ev_op (ev_var rfl) ev_c rv_I0) (ev_var rfl) (rv_isL (sq_of h2) rfl (flat_vN _))) (by rw [inV_pred]))) (fun hc => et_test (ev_op (ev_op (ev_var rfl) (ev_op (ev_var rfl) ev_c rv_I0) (rv_ixL (ex_l e2 hA) (cell_at1 (by
              have := (Bool.and_eq_true _ _ ▸ hc : _ ∧ _).1
              exact of_decide_eq_true this) hi2))) ev_c rv_eqS)))) rfl) (fun hb H3 e3 => ?_) (fun hb H3 e3 => ?_)
      · refine s_app (e3 _ _ h2) (ev_var rfl) (ev_var rfl) (by rw [List.length_map]; omega) fun H4 e4 => ⟨_, rfl, Ex.mut ((e2.trans e3).trans e4) hl0, ?_⟩
        rw [upd_same]
        show some (HO.lst ((closedN cells ps i).map vN ++ [vN i])) = some (HO.lst ((if closeT cells ps (closedN cells ps i) i then closedN cells ps i ++ [i] else closedN cells ps i).map vN))
        rw [if_pos hb, List.map_append]
        rfl
      · refine ⟨_, rfl, e2.trans e3, ?_⟩
        rw [e3 _ _ h2]
        show _ = some (HO.lst ((if closeT cells ps (closedN cells ps i) i then closedN cells ps i ++ [i] else closedN cells ps i).map vN))
        rw [hb]
        rfl
    · rintro σ' H2 ⟨y, rfl, e2, h2⟩
      have en : ((cells.length : Int) + 1).toNat = cells.length + 1 := by omega
      rw [en] at h2
      have eu := eu_tupL (K := K) (σ := [some (.ref a), some (.ref b), some (.ref l), y]) (H := H2) (te := tVar 2) (ev_var rfl) (sq_of h2)
      exact eu H2 (Ex.refl _) _ fun p H3 hp e3 h3 => q p H3 (fresh_back e2 hp) (e2.trans e3) h3

def spStarted (K : PySem.W.Frag) : Sp := fun vs H Q _ => ∃ (a : Addr) (cells : List Str), vs = [.ref a] ∧ SqL K H a (cells.map V.str) ∧ cells.length ≤ 10000 ∧ RetU ((startedM cells).map vN) H Q
theorem ok_started {f : Addr} {fd : FuncData} (F : Fun K "started" "started" s_started f fd) (T : Txt K mg a_FIELDS a_OPEN_PARTS C_Form C_GlueError C_NoRule C_Rule) (D__closed : Df P w K mg base "_closed" ["cells", "positions"] 1 (spClosed K)) : FnOk P w K mg base CX0 2 f fd ["cells"] (spStarted K) := by
  refine F.ok sc_started (fun vs H Q E h => ?_) (fun cdv A outer s0 H vs Q E hr h => ?_)
  · obtain ⟨a, cells, rfl, _⟩ := h
    rfl
  · obtain ⟨a, cells, rfl, hA, hl, q⟩ := h
    refine ⟨_, (pss_one (ps_ret (pe_df D__closed (hr.mono (by decide)) (by rfl) (pa_cons (pv 0) (pa_cons (pe_lst (pa_cons pe_int pa_nil)) pa_nil))))), ?_⟩
    exact ⟨_, rfl, sz_of (by simp), fun l nl => ⟨a, l, cells, [0], rfl, ex_l (Ex.new nl) hA, .inl (sq_of upd_same), hl, fun p H2 hp e2 h2 => q p H2 (fresh_back (Ex.new nl) hp) ((Ex.new nl).trans e2) h2⟩⟩
def spMoved (K : PySem.W.Frag) : Sp := fun vs H Q _ => ∃ (a b : Addr) (cells : List Str) (ps : List Nat) (c : Nat), vs = [.ref a, .ref b, .str ⟨#[c]⟩] ∧ SqL K H a (cells.map V.str) ∧ SqT K H b (ps.map vN) ∧ cells.length ≤ 10000 ∧ ps.length ≤ 10000 ∧ (∀ k ∈ ps, k ≤ cells.length) ∧
  RetU ((movedM cells ps c).map vN) H Q
theorem lt_len {a : Nat} {b : Nat} : decide ((a : Int) < (b : Int)) = decide (a < b) := by
  by_cases h : a < b
  · rw [decide_eq_true h, decide_eq_true (by omega)]
  · rw [decide_eq_false h, decide_eq_false (by omega)]
theorem gt_zero {a : Nat} : decide ((0 : Int) < (a : Int)) = decide (0 < a) := by
  by_cases h : 0 < a
  · rw [decide_eq_true h, decide_eq_true (by omega)]
  · rw [decide_eq_false h, decide_eq_false (by omega)]

theorem ok_moved {f : Addr} {fd : FuncData} (F : Fun K "moved" "moved" s_moved f fd) (T : Txt K mg a_FIELDS a_OPEN_PARTS C_Form C_GlueError C_NoRule C_Rule) (D__takes : Df P w K mg base "_takes" ["cell", "sign"] 1 spTakes) (D__closed : Df P w K mg base "_closed" ["cells", "positions"] 1 (spClosed K)) : FnOk P w K mg base CX0 2 f fd ["cells", "positions", "sign"] (spMoved K) := by
  refine F.ok sc_moved (fun vs H Q E h => ?_) (fun cdv A outer s0 H vs Q E hr h => ?_)
  · obtain ⟨a, b, cells, ps, c, rfl, _⟩ := h
    rfl
  · obtain ⟨a, b, cells, ps, c, rfl, hA, hB, hl, hpl, hk, q⟩ := h
    refine ⟨_, (pss_cons (ps_set (i := 3) sc_moved.nd rfl (Or.inl rfl) (pe_lst pa_nil))
      (pss_cons (ps_for PassesOwn.never rfl (pi_tup (pv 1)) (pg_name (i := 4) sc_moved.nd rfl (Or.inl rfl))
      (pss_cut (ps_if (PW.pt (pw_and (pt_cmpR op_lt (pv 4) (pe_callB call_len_seq (by rfl) T.n_len PySem.boot_len (pa_cons (pv 0) pa_nil)) (nomark _)) (pw_and1 (pt_cmpR op_eq (pe_ix ix_list (pv 0) (pv 4) (fun _ _ => rfl)) (pe_cst T.c_ANY_SIGNS (by rfl)) (nomark _)))))
      (pss_one (ps_expr (pe_bm PySem.F.plainAttrs_list PySem.F.slot_list_append PySem.F.type_list_append mt_append (pv 3) (pa_cons (pv 4) pa_nil))))
      (pss_one (ps_if (PW.pt (pw_and (pt_cmpR op_lt (pv 4) (pe_callB call_len_seq (by rfl) T.n_len PySem.boot_len (pa_cons (pv 0) pa_nil)) (nomark _)) (pw_and1 (pt_val (pe_df D__takes (hr.mono (by decide)) (by rfl) (pa_cons (pe_ix ix_list (pv 0) (pv 4) (fun _ _ => rfl)) (pa_cons (pv 2) pa_nil)))))))
      (pss_one (ps_expr (pe_bm PySem.F.plainAttrs_list PySem.F.slot_list_append PySem.F.type_list_append mt_append (pv 3) (pa_cons (pe_op op_add (pv 4) pe_int) pa_nil))))
      pss_nil)))
      (pss_one (ps_if (PW.pt (pw_and (pt_cmpR op_gt (pv 4) pe_int (nomark _)) (pw_and (pt_cmpR op_in_seq (pe_ix ix_list (pv 0) (pe_op op_sub (pv 4) pe_int) (fun _ _ => rfl)) (pe_tup (pa_cons (pe_cst T.c_SOME_DIGITS (by rfl)) (pa_cons (pe_cst T.c_SOME_LETTERS (by rfl)) pa_nil))) (by rfl)) (pw_and1 (pt_val (pe_df D__takes (hr.mono (by decide)) (by rfl) (pa_cons (pe_ix ix_list (pv 0) (pe_op op_sub (pv 4) pe_int) (fun _ _ => rfl)) (pa_cons (pv 2) pa_nil))))))))
      (pss_one (ps_expr (pe_bm PySem.F.plainAttrs_list PySem.F.slot_list_append PySem.F.type_list_append mt_append (pv 3) (pa_cons (pv 4) pa_nil))))
      pss_nil))))
      (pss_one (ps_ret (pe_df D__closed (hr.mono (by decide)) (by rfl) (pa_cons (pv 0) (pa_cons (pv 3) pa_nil))))))), ?_⟩
    refine q_asgL (el_lst ea_nil (Nat.zero_le _)) fun l H1 hl0 e1 h1 => ?_
    refine q_forT (ev_var rfl) (ex_t e1 hB)
      (fun i σ' H' => ∃ y : Option V, σ' = [some (.ref a), some (.ref b), some (.str ⟨#[c]⟩), some (.ref l), y] ∧ Ex H H' ∧ H' l = some (.lst (((ps.take i).foldl (rawB cells c) []).map vN))) (fun H2 e2 => ⟨none, rfl, e1.trans e2, e2 _ _ h1⟩) (fun i σ' H' _ pv => ?_) ?_ ?_
    · obtain ⟨y, _, e2, _⟩ := pv
      exact ex_t e2 hB
    · rintro i x σ' H2 hx ⟨y, rfl, e2, h2⟩
      have hip : i < ps.length := by
        have := (List.getElem?_eq_some_iff.mp hx).1
        rw [List.length_map] at this
        exact this
      obtain ⟨k, hkk⟩ : ∃ k, ps[i]? = some k := ⟨ps[i], List.getElem?_eq_getElem hip⟩
      have ex : x = vN k := by
        rw [List.getElem?_map, hkk] at hx
        exact (Option.some.inj hx).symm
      subst ex
      have hkl : k ≤ cells.length := hk k (List.mem_of_getElem? hkk)
      have htake : (ps.take (i + 1)).foldl (rawB cells c) [] = rawB cells c ((ps.take i).foldl (rawB cells c) []) k := by
        rw [List.take_add_one, hkk, List.foldl_append]
        rfl
      have hlen := rawM_len cells c (ps.take i) []
      rw [List.length_take, List.length_nil] at hlen
      rw [htake]
      generalize (ps.take i).foldl (rawB cells c) [] = acc at h2 hlen ⊢
      have hacc : acc.length ≤ 20000 := by omega
      -- the first if: what acc is then
      have e2A := ex_l e2 hA
      refine q_cut (M := fun σ' H' => σ' = [some (.ref a), some (.ref b), some (.str ⟨#[c]⟩), some (.ref l), some (vN k)] ∧ Ex H H' ∧ H' l = some (.lst ((rawA cells c acc k).map vN))) ?_ ?_
      · have hσ : (List.set [some (V.ref a), some (.ref b), some (.str ⟨#[c]⟩), some (.ref l), y] 4 (some (vN k))) = [some (V.ref a), some (.ref b), some (.str ⟨#[c]⟩), some (.ref l), some (.int (k : Int))] := rfl
        rw [hσ]
        refine s_if (b := decide (k < cells.length) && decide (cellAt' cells k = anyP)) (et_and (et_test (ev_is (ev_op (ev_var rfl) (ev_lenL (ev_var rfl) e2A) rv_I0) (by rw [List.length_map]; exact congrArg V.bl lt_len))) fun hb => et_test (ev_op (ev_op (ev_var rfl) (ev_var rfl) (rv_ixL e2A (cell_at (of_decide_eq_true hb)))) ev_c rv_eqS))
          (fun hb H3 e3 => ?_) (fun hb H3 e3 => ?_)
        · refine s_app (e3 _ _ h2) (ev_var rfl) (ev_var rfl) (by rw [List.length_map]; omega) fun H4 e4 => ⟨rfl, Ex.mut ((e2.trans e3).trans e4) hl0, ?_⟩
          unfold rawA
          rw [upd_same, if_pos hb, List.map_append]
          rfl
        · have e3A := ex_l e3 e2A
          refine s_if (b := decide (k < cells.length) && takesM (cellAt' cells k) c) (et_and (et_test (ev_is (ev_op (ev_var rfl) (ev_lenL (ev_var rfl) e3A) rv_I0) (by rw [List.length_map]; exact congrArg V.bl lt_len))) fun hc => et_B (ev_call (ea_cons (ev_op (ev_var rfl) (ev_var rfl) (rv_ixL e3A (cell_at (of_decide_eq_true hc)))) (ea_cons (ev_var rfl) ea_nil)) sv_takes))
            (fun hc H4 e4 => ?_) (fun hc H4 e4 => ?_)
          · refine s_app (e4 _ _ (e3 _ _ h2)) (ev_var rfl) (ev_op (ev_var rfl) ev_c rv_I0) (by rw [List.length_map]; omega) fun H5 e5 => ⟨rfl, Ex.mut (((e2.trans e3).trans e4).trans e5) hl0, ?_⟩
            unfold rawA
            rw [upd_same, hb, if_neg Bool.false_ne_true, if_pos hc, List.map_append]
            rfl
          · refine ⟨rfl, (e2.trans e3).trans e4, ?_⟩
            unfold rawA
            rw [hb, if_neg Bool.false_ne_true, hc, if_neg Bool.false_ne_true]
            exact e4 _ _ (e3 _ _ h2)
      · rintro σ' H3 ⟨rfl, e3, h3⟩
        have e3A := ex_l e3 hA
        have hlA : (rawA cells c acc k).length ≤ acc.length + 1 := by
          unfold rawA
          split
          · simp
          · split <;> simp
        refine s_when (b := rawT cells c k) (et_is (et_and (et_test (ev_is (ev_op (ev_var rfl) ev_c rv_I0) (congrArg V.bl gt_zero))) fun hb => et_and (et_test (ev_is (ev_inU (ev_op (ev_var rfl) (ev_op (ev_var rfl) ev_c rv_I0) (rv_ixL e3A (cell_at1 (of_decide_eq_true hb) hkl))) (eu_tup (ea_cons ev_c (ea_cons ev_c ea_nil)) (by simp)) rfl rfl) (congrArg V.bl (inV_str _ [digP, wordP]))))
            fun hc => et_B (ev_call (ea_cons (ev_op (ev_var rfl) (ev_op (ev_var rfl) ev_c rv_I0) (rv_ixL e3A (cell_at1 (of_decide_eq_true hb) hkl))) (ea_cons (ev_var rfl) ea_nil)) sv_takes)) ?_)
          (fun hb H4 e4 => ?_) (fun hb H4 e4 => ?_)
        · unfold rawT
          rw [Bool.and_assoc]
          congr 2
          by_cases h1 : cellAt' cells (k - 1) = digP
          · simp [h1]
          · by_cases h2 : cellAt' cells (k - 1) = wordP <;> simp [h1, h2]
        · refine s_app (e4 _ _ h3) (ev_var rfl) (ev_var rfl) (by rw [List.length_map]; omega) fun H5 e5 => ⟨_, rfl, Ex.mut ((e3.trans e4).trans e5) hl0, ?_⟩
          unfold rawB
          rw [upd_same, if_pos hb, List.map_append]
          rfl
        · refine ⟨_, rfl, e3.trans e4, ?_⟩
          unfold rawB
          rw [hb, if_neg Bool.false_ne_true]
          exact e4 _ _ h3
    · rintro σ' H2 ⟨y, rfl, e2, h2⟩
      rw [List.length_map, List.take_of_length_le (Nat.le_refl _)] at h2
      refine s_retU ?_ fun p H3 hp e3 h3 => q p H3 (fresh_back e2 hp) (e2.trans e3) h3
      exact fun H3 e3 Q' q' => ⟨_, rfl, _, rfl, a, l, cells, _, rfl, ex_l (e2.trans e3) hA, .inl (sq_of (e3 _ _ h2)), hl, q'⟩
def spIsDone (K : PySem.W.Frag) : Sp := fun vs H Q _ => ∃ (a b : Addr) (cells : List Str) (ps : List Nat), vs = [.ref a, .ref b] ∧ SqL K H a (cells.map V.str) ∧ SqT K H b (ps.map vN) ∧ RetV (.bl (decide (cells.length ∈ ps))) H Q
theorem ok_is_done {f : Addr} {fd : FuncData} (F : Fun K "is_done" "is_done" s_is_done f fd) (T : Txt K mg a_FIELDS a_OPEN_PARTS C_Form C_GlueError C_NoRule C_Rule) : FnOk P w K mg base CX0 1 f fd ["cells", "positions"] (spIsDone K) := by
  refine F.ok sc_is_done (fun vs H Q E h => ?_) (fun cdv A outer s0 H vs Q E hr h => ?_)
  · obtain ⟨a, b, cells, ps, rfl, _⟩ := h
    rfl
  · obtain ⟨a, b, cells, ps, rfl, hA, hB, q⟩ := h
    refine ⟨_, (pss_one (ps_ret (pe_cmpR op_in_seq (pe_callB call_len_seq (by rfl) T.n_len PySem.boot_len (pa_cons (pv 0) pa_nil)) (pv 1) (by rfl)))), ?_⟩
    exact s_ret (ev_is (ev_op (ev_lenL (ev_var rfl) hA) (ev_var rfl) (rv_isT hB rfl (flat_vN ps))) (by rw [List.length_map]; exact congrArg V.bl (inV_vN _ ps))) q
theorem cellsM_app (ps qs : List Str) : cellsM (ps ++ qs) = cellsM ps ++ cellsM qs := by
  induction ps with
  | nil => rfl
  | cons p ps ih =>
    show cellOf1 p ++ cellsM (ps ++ qs) = (cellOf1 p ++ cellsM ps) ++ cellsM qs
    rw [ih, List.append_assoc]
theorem cellOf1_len {p : Str} (h : p.length ≤ 100) : (cellOf1 p).length ≤ 100 := by
  unfold cellOf1
  split
  · simp
  · unfold signsOf
    rw [List.length_map]
    simpa [Str.length] using h
theorem cellsM_len {ps : List Str} (h : ∀ p ∈ ps, p.length ≤ 100) : (cellsM ps).length ≤ 100 * ps.length := by
  induction ps with
  | nil => simp [cellsM]
  | cons p ps ih =>
    have h1 := cellOf1_len (h p List.mem_cons_self)
    have h2 := ih fun q hq => h q (List.mem_cons_of_mem _ hq)
    show (cellOf1 p ++ cellsM ps).length ≤ _
    rw [List.length_append, List.length_cons]
    omega
/-- what a list that is handed back is -/
def spCells (K : PySem.W.Frag) : Sp := fun vs H Q _ => ∃ (a : Addr) (ps : List Str), vs = [.ref a] ∧ SqL K H a (ps.map V.str) ∧ ps.length ≤ 100 ∧ (∀ p ∈ ps, p.length ≤ 100) ∧ RetL ((cellsM ps).map V.str) H Q
def spCellsT (K : PySem.W.Frag) : Sp := fun vs H Q _ => ∃ (a : Addr) (ps : List Str), vs = [.ref a] ∧ SqT K H a (ps.map V.str) ∧ ps.length ≤ 100 ∧ (∀ p ∈ ps, p.length ≤ 100) ∧ RetL ((cellsM ps).map V.str) H Q
theorem cells_turn {σ : L2.St} {H H2 : Hp} {l : Addr} {i : Nat} {ps : List Str} {p : Str} {y : Addr} {a : Addr} {D : Ends} (T : Txt K mg a_FIELDS a_OPEN_PARTS C_Form C_GlueError C_NoRule C_Rule) (hp : ps[i]? = some p) (hl : ∀ p ∈ ps, p.length ≤ 100) (hn : ps.length ≤ 100) (hl0 : H l = none) (e2 : Ex H H2) (h2 : H2 l = some (.lst ((cellsM (ps.take i)).map V.str)))
    (k : ∀ H', Ex H H' → H' l = some (.lst ((cellsM (ps.take (i + 1))).map V.str)) → D.nx [some (.ref a), some (.ref l), some (.str p)] H') :
    tIfS (tTest (tOp (rIn K false) (tVar 2) (tC (.ref a_OPEN_PARTS)))) (tDrop (tBM K "list" rAppend (tVar 1) (tCons (tVar 2) tNil))) (tDrop (tBM K "list" rExtend (tVar 1) (tCons (tCB rListStr (tCons (tVar 2) tNil)) tNil))) D [some (.ref a), some (.ref l), some (.str p)] H2 := by
  have hpm := List.mem_of_getElem? hp
  have hp1 := hl p hpm
  have ht : cellsM (ps.take (i + 1)) = cellsM (ps.take i) ++ cellOf1 p := by
    rw [List.take_add_one, hp, cellsM_app]
    show cellsM (ps.take i) ++ (cellOf1 p ++ []) = _
    rw [List.append_nil]
  have hlen : (cellsM (ps.take i)).length ≤ 10000 := by
    have h1 := cellsM_len (ps := ps.take i) fun q hq => hl q (List.mem_of_mem_take hq)
    have h2 : (ps.take i).length ≤ ps.length := by
      rw [List.length_take]
      omega
    omega
  rw [ht] at k
  refine s_if (b := isOpen p) (et_test (ev_op (ev_var rfl) ev_c (rv_isT T.o_OPEN_PARTS.at_ rfl rfl))) (fun hb H3 e3 => ?_) (fun hb H3 e3 => ?_)
  · have e1 : cellOf1 p = [p] := if_pos hb
    rw [e1] at k
    refine s_app (e3 _ _ h2) (ev_var rfl) (ev_var rfl) (by rw [List.length_map]; omega) fun H4 e4 => k _ (Ex.mut ((e2.trans e3).trans e4) hl0) ?_
    rw [upd_same, List.map_append]
    rfl
  · have e1 : cellOf1 p = signsOf p := by
      unfold cellOf1
      rw [hb]
      rfl
    rw [e1] at k
    have hs : (signsOf p).length = p.length := by
      unfold signsOf
      rw [List.length_map]
      simp [Str.length]
    refine s_extL (ys := (signsOf p).map V.str) (e3 _ _ h2) (ev_var rfl) (by rw [← chars_eq]; exact el_listS (ev_var rfl) (by omega)) (by rw [List.length_map, List.length_map, hs]; omega) fun q H4 hq e4 => k _ (Ex.mut ((e2.trans e3).trans e4) hl0) ?_
    rw [upd_same, List.map_append]

theorem ok_cells_of {f : Addr} {fd : FuncData} (F : Fun K "cells_of" "cells_of" s_cells_of f fd) (T : Txt K mg a_FIELDS a_OPEN_PARTS C_Form C_GlueError C_NoRule C_Rule) : FnOk P w K mg base CX0 1 f fd ["parts"] (spCells K) := by
  refine F.ok sc_cells_of (fun vs H Q E h => ?_) (fun cdv A outer s0 H vs Q E hr h => ?_)
  · obtain ⟨a, ps, rfl, _⟩ := h
    rfl
  · obtain ⟨a, ps, rfl, hA, hn, hl, q⟩ := h
    refine ⟨_, (pss_cons (ps_set (i := 1) sc_cells_of.nd rfl (Or.inl rfl) (pe_lst pa_nil))
      (pss_cons (ps_for PassesOwn.never rfl (pi_list (pv 0)) (pg_name (i := 2) sc_cells_of.nd rfl (Or.inl rfl))
      (pss_one (ps_if (pt_cmpR op_in_seq (pv 2) (pe_cst T.c_OPEN_PARTS (by rfl)) (by rfl))
      (pss_one (ps_expr (pe_bm PySem.F.plainAttrs_list PySem.F.slot_list_append PySem.F.type_list_append mt_append (pv 1) (pa_cons (pv 2) pa_nil))))
      (pss_one (ps_expr (pe_bm PySem.F.plainAttrs_list PySem.F.slot_list_extend PySem.F.type_list_extend mt_extend (pv 1) (pa_cons (pe_callTy (call_listS rfl) (by rfl) T.n_list (by decide +kernel) (pa_cons (pv 2) pa_nil)) pa_nil)))))))
      (pss_one (ps_ret (pv 1))))), ?_⟩
    refine q_asgL (el_lst ea_nil (Nat.zero_le _)) fun l H1 hl0 e1 h1 => ?_
    refine q_forLn (ev_var rfl) (ex_l e1 hA) (fun i σ' H' => ∃ y : Option V, σ' = [some (.ref a), some (.ref l), y] ∧ Ex H H' ∧ H' l = some (.lst ((cellsM (ps.take i)).map V.str))) (fun H2 e2 => ⟨none, rfl, e1.trans e2, e2 _ _ h1⟩) (fun i σ' H' _ pv => ?_) ?_ ?_
    · obtain ⟨y, _, e2, _⟩ := pv
      exact ex_l e2 hA
    · rintro i x σ' H2 hx ⟨y, rfl, e2, h2⟩
      obtain ⟨p, hp, rfl⟩ : ∃ p, ps[i]? = some p ∧ x = .str p := by
        rw [List.getElem?_map] at hx
        cases hq : ps[i]? with
        | none =>
          rw [hq] at hx
          cases hx
        | some p =>
          rw [hq] at hx
          exact ⟨p, rfl, (Option.some.inj hx).symm⟩
      exact cells_turn (σ := []) (y := a) T hp hl hn hl0 e2 h2 fun H' e' h' => ⟨_, rfl, e', h'⟩
    · rintro σ' H2 ⟨y, rfl, e2, h2⟩
      rw [List.length_map, List.take_of_length_le (Nat.le_refl _)] at h2
      exact s_ret (ev_var rfl) fun H3 e3 => q l H3 hl0 (e2.trans e3) (e3 _ _ h2)
theorem ok_cells_of__t {f : Addr} {fd : FuncData} (F : Fun K "cells_of" "cells_of" s_cells_of f fd) (T : Txt K mg a_FIELDS a_OPEN_PARTS C_Form C_GlueError C_NoRule C_Rule) : FnOk P w K mg base CX0 1 f fd ["parts"] (spCellsT K) := by
  refine F.ok sc_cells_of (fun vs H Q E h => ?_) (fun cdv A outer s0 H vs Q E hr h => ?_)
  · obtain ⟨a, ps, rfl, _⟩ := h
    rfl
  · obtain ⟨a, ps, rfl, hA, hn, hl, q⟩ := h
    refine ⟨_, (pss_cons (ps_set (i := 1) sc_cells_of.nd rfl (Or.inl rfl) (pe_lst pa_nil))
      (pss_cons (ps_for PassesOwn.never rfl (pi_tup (pv 0)) (pg_name (i := 2) sc_cells_of.nd rfl (Or.inl rfl))
      (pss_one (ps_if (pt_cmpR op_in_seq (pv 2) (pe_cst T.c_OPEN_PARTS (by rfl)) (by rfl))
      (pss_one (ps_expr (pe_bm PySem.F.plainAttrs_list PySem.F.slot_list_append PySem.F.type_list_append mt_append (pv 1) (pa_cons (pv 2) pa_nil))))
      (pss_one (ps_expr (pe_bm PySem.F.plainAttrs_list PySem.F.slot_list_extend PySem.F.type_list_extend mt_extend (pv 1) (pa_cons (pe_callTy (call_listS rfl) (by rfl) T.n_list (by decide +kernel) (pa_cons (pv 2) pa_nil)) pa_nil)))))))
      (pss_one (ps_ret (pv 1))))), ?_⟩
    refine q_asgL (el_lst ea_nil (Nat.zero_le _)) fun l H1 hl0 e1 h1 => ?_
    refine q_forT (ev_var rfl) (ex_t e1 hA) (fun i σ' H' => ∃ y : Option V, σ' = [some (.ref a), some (.ref l), y] ∧ Ex H H' ∧ H' l = some (.lst ((cellsM (ps.take i)).map V.str))) (fun H2 e2 => ⟨none, rfl, e1.trans e2, e2 _ _ h1⟩) (fun i σ' H' _ pv => ?_) ?_ ?_
    · obtain ⟨y, _, e2, _⟩ := pv
      exact ex_t e2 hA
    · rintro i x σ' H2 hx ⟨y, rfl, e2, h2⟩
      obtain ⟨p, hp, rfl⟩ : ∃ p, ps[i]? = some p ∧ x = .str p := by
        rw [List.getElem?_map] at hx
        cases hq : ps[i]? with
        | none =>
          rw [hq] at hx
          cases hx
        | some p =>
          rw [hq] at hx
          exact ⟨p, rfl, (Option.some.inj hx).symm⟩
      exact cells_turn (σ := []) (y := a) T hp hl hn hl0 e2 h2 fun H' e' h' => ⟨_, rfl, e', h'⟩
    · rintro σ' H2 ⟨y, rfl, e2, h2⟩
      rw [List.length_map, List.take_of_length_le (Nat.le_refl _)] at h2
      exact s_ret (ev_var rfl) fun H3 e3 => q l H3 hl0 (e2.trans e3) (e3 _ _ h2)

/-! ### drawn signs, texts -/
theorem evp_take {σ : L2.St} {G : Hp} {p : Addr} {s : Int × Int} {n : Int} {i : Nat} (hi : σ[i]? = some (some (.ref p))) (hk : Pk s) (h0 : 0 < n) (h1 : n < 2 ^ 60) :
    EvP (tCall spTake [] E0 (tCons (tVar i) (tCons (tC (.int n)) tNil))) σ G p s (.int (take s n).1) (take s n).2 :=
  evp_call (EvAP.of (ea_cons (ev_var hi) (ea_cons ev_c ea_nil))) (sp_take hk h0 h1)
/-- the sign of a text that a draw picks -/
def sgn (z : Str) (d : Int) : Nat := z.cps.toList.getD d.toNat 0
theorem str_len (z : Str) : z.length = z.cps.toList.length := by simp [Str.length]
theorem sgn_ix {z : Str} {d : Int} (h0 : 0 ≤ d) (h : d < (z.length : Int)) : atI z.cps.toList d = some (sgn z d) := by
  have ez := str_len z
  have h3 : d.toNat < z.cps.toList.length := by omega
  unfold atI ixN sgn
  rw [if_pos h0, if_pos (by omega)]
  show z.cps.toList[d.toNat]? = _
  rw [List.getElem?_eq_getElem h3, List.getD_eq_getElem?_getD, List.getElem?_eq_getElem h3]
  rfl
theorem sgn_mem {z : Str} {d : Int} (h0 : 0 ≤ d) (h : d < (z.length : Int)) : sgn z d ∈ z.cps.toList := by
  have ez := str_len z
  have h3 : d.toNat < z.cps.toList.length := by omega
  unfold sgn
  rw [List.getD_eq_getElem?_getD, List.getElem?_eq_getElem h3]
  exact List.getElem_mem h3
theorem len_signs : signsS.length = 68 := by decide +kernel
theorem app1_len (z : Str) (c : Nat) : (z ++ (⟨#[c]⟩ : Str)).length = z.length + 1 := by
  show (z.cps ++ #[c]).size = z.cps.size + 1
  simp
theorem app1_list (z : Str) (c : Nat) : (z ++ (⟨#[c]⟩ : Str)).cps.toList = z.cps.toList ++ [c] := by
  show (z.cps ++ #[c]).toList = _
  simp
theorem app_len (z y : Str) : (z ++ y).length = z.length + y.length := by
  show (z.cps ++ y.cps).size = z.cps.size + y.cps.size
  simp
theorem app_list (z y : Str) : (z ++ y).cps.toList = z.cps.toList ++ y.cps.toList := by
  show (z.cps ++ y.cps).toList = _
  simp
/-- all its signs are signs of lines -/
def Lny (z : Str) : Prop := ∀ c ∈ z.cps.toList, c ∈ signsS.cps.toList
theorem lny_nil : Lny ("" : Str) := by
  unfold Lny
  decide +kernel
theorem lny_app {z y : Str} (h : Lny z) (k : Lny y) : Lny (z ++ y) := fun c hc => by
  rw [app_list] at hc
  exact (List.mem_append.mp hc).elim (h c) (k c)
theorem lny_1 {c : Nat} (h : c ∈ signsS.cps.toList) : Lny ⟨#[c]⟩ := fun d hd => by
  rw [List.mem_singleton.mp hd]
  exact h
theorem lny_sgn {z : Str} {d : Int} (hz : Lny z) (h0 : 0 ≤ d) (h : d < (z.length : Int)) : Lny ⟨#[sgn z d]⟩ := lny_1 (hz _ (sgn_mem h0 h))
theorem sign_lt {c : Nat} (h : c ∈ signsS.cps.toList) : c < 128 := by
  have : ∀ c ∈ signsS.cps.toList, c < 128 := by decide +kernel
  exact this c h
theorem lny_ok {z : Str} (h : Lny z) : okV (.str z) = true := by
  show z.cps.all (fun x => decide (x < 0x110000)) = true
  rw [← Array.all_toList]
  exact List.all_eq_true.mpr fun c hc => decide_eq_true (by have := sign_lt (h c hc); omega)
/-! _law_text -/
def fewS : Str := "a1-b"
def textT (style : Int) (st : Str × (Int × Int)) : Str × (Int × Int) :=
  if style = 0 then (st.1 ++ ⟨#[sgn signsS (take st.2 68).1]⟩, (take st.2 68).2) else (st.1 ++ ⟨#[sgn fewS (take st.2 4).1]⟩, (take st.2 4).2)
def textN (style : Int) : Nat → Str × (Int × Int) → Str × (Int × Int)
  | 0, st => st
  | i + 1, st => textT style (textN style i st)
def lawText (s : Int × Int) : Str × (Int × Int) := textN (take s 3).1 (1 + (take (take s 3).2 2).1).toNat (("" : Str), (take (take s 3).2 2).2)
theorem textT_ok {style : Int} {st : Str × (Int × Int)} (h : Pk st.2) (l : Lny st.1) : Pk (textT style st).2 ∧ Lny (textT style st).1 ∧ (textT style st).1.length = st.1.length + 1 := by
  have t1 := take_lt (s := st.2) (n := 68) (by decide)
  have t2 := take_lt (s := st.2) (n := 4) (by decide)
  unfold textT
  split
  · exact ⟨take_pk h, lny_app l (lny_sgn (fun _ z => z) t1.1 (by rw [len_signs]; exact t1.2)), app1_len _ _⟩
  · exact ⟨take_pk h, lny_app l (lny_sgn (z := fewS) (by unfold Lny; decide +kernel) t2.1 (by rw [show fewS.length = 4 by decide +kernel]; exact t2.2)), app1_len _ _⟩
theorem textN_ok {style : Int} {s : Int × Int} (h : Pk s) : ∀ n, Pk (textN style n (("" : Str), s)).2 ∧ Lny (textN style n (("" : Str), s)).1 ∧ (textN style n (("" : Str), s)).1.length = n
  | 0 => ⟨h, lny_nil, by
    show ("" : Str).length = 0
    decide +kernel⟩
  | n + 1 => by
    obtain ⟨h1, h2, h3⟩ := textN_ok h n (style := style)
    obtain ⟨k1, k2, k3⟩ := textT_ok (style := style) h1 h2
    exact ⟨k1, k2, by rw [h3] at k3; exact k3⟩
theorem lawText_ok {s : Int × Int} (h : Pk s) : Pk (lawText s).2 ∧ Lny (lawText s).1 ∧ 1 ≤ (lawText s).1.length ∧ (lawText s).1.length ≤ 4 := by
  have t2 := take_lt (s := (take s 3).2) (n := 2) (by decide)
  obtain ⟨h1, h2, h3⟩ := textN_ok (style := (take s 3).1) (take_pk (n := 2) (take_pk (n := 3) h)) (1 + (take (take s 3).2 2).1).toNat
  exact ⟨h1, h2, by unfold lawText; omega, by unfold lawText; omega⟩
def spPT (f : Int × Int → Str × (Int × Int)) : Sp := fun vs H Q _ => ∃ (p : Addr) (s : Int × Int), vs = [.ref p] ∧ H p = some (pl s) ∧ Pk s ∧ RetP p (f s).2 (.str (f s).1) H Q
theorem evp_pt {f : Int × Int → Str × (Int × Int)} {σ : L2.St} {G : Hp} {p : Addr} {s : Int × Int} {i : Nat} (hi : σ[i]? = some (some (.ref p))) (hk : Pk s) :
    EvP (tCall (spPT f) [] E0 (tCons (tVar i) tNil)) σ G p s (.str (f s).1) (f s).2 :=
  evp_call (EvAP.of (ea_cons (ev_var hi) ea_nil)) fun H k Q q _ => ⟨p, s, rfl, k.at_, hk, q⟩
theorem ok__law_text {f : Addr} {fd : FuncData} (F : Fun K "_law_text" "_law_text" s__law_text f fd) (T : Txt K mg a_FIELDS a_OPEN_PARTS C_Form C_GlueError C_NoRule C_Rule) (D__law_take : Df P w K mg base "_law_take" ["pool", "many"] 1 spTake)
    (D__law_all_signs : Df P w K mg base "_law_all_signs" [] 1 (spK (.str signsS))) : FnOk P w K mg base CX0 2 f fd ["pool"] (spPT lawText) := by
  refine F.ok sc__law_text (fun vs H Q E h => ?_) (fun cdv A outer s0 H vs Q E hr h => ?_)
  · obtain ⟨p, s, rfl, _⟩ := h
    rfl
  · obtain ⟨p, s, rfl, hp, hk, q⟩ := h
    refine ⟨_, (pss_cons (ps_set (i := 1) sc__law_text.nd rfl (Or.inl rfl) pe_str)
      (pss_cons (ps_set (i := 2) sc__law_text.nd rfl (Or.inl rfl) (pe_df D__law_take (hr.mono (by decide)) (by rfl) (pa_cons (pv 0) (pa_cons pe_int pa_nil))))
      (pss_cons (ps_for PassesOwn.never rfl (pi_range1 (by rfl) T.n_range (pa_cons (pe_op op_add pe_int (pe_df D__law_take (hr.mono (by decide)) (by rfl) (pa_cons (pv 0) (pa_cons pe_int pa_nil)))) pa_nil)) (pg_name (i := 3) sc__law_text.nd rfl (Or.inl rfl))
      (pss_one (ps_if (pt_cmpR op_eq (pv 2) pe_int (nomark _))
      (pss_one (ps_set (i := 1) sc__law_text.nd rfl (Or.inl rfl) (pe_op op_add_str (pv 1) (pe_ix ix_str (pe_df0 D__law_all_signs (hr.mono (by decide)) (by rfl)) (pe_df D__law_take (hr.mono (by decide)) (by rfl) (pa_cons (pv 0) (pa_cons pe_int pa_nil))) (fun _ _ => rfl)))))
      (pss_one (ps_set (i := 1) sc__law_text.nd rfl (Or.inl rfl) (pe_op op_add_str (pv 1) (pe_ix ix_str pe_str (pe_df D__law_take (hr.mono (by decide)) (by rfl) (pa_cons (pv 0) (pa_cons pe_int pa_nil))) (fun _ _ => rfl))))))))
      (pss_one (ps_ret (pv 1)))))), ?_⟩
    have K0 := Kn.here hp
    refine q_asg ev_c fun H1 e1 => ?_
    have K1 := K0.same e1
    refine qp_asg K1 (evp_take rfl hk (by decide) (by decide)) fun H2 K2 e2 => ?_
    have hk1 : Pk (take s 3).2 := take_pk hk
    have t4 := take_lt (s := (take s 3).2) (n := 2) (by decide)
    refine qp_forR1 K2 (eap_cons (evp_op (EvP.of ev_c) (evp_take rfl hk1 (by decide) (by decide)) rv_add) eap_nil) ⟨by omega, by omega⟩
      (fun i σ' H' => ∃ y : Option V, σ' = [some (.ref p), some (.str (textN (take s 3).1 i (("" : Str), (take (take s 3).2 2).2)).1), some (.int (take s 3).1), y] ∧ Kn (hide p H) p (textN (take s 3).1 i (("" : Str), (take (take s 3).2 2).2)).2 H' ∧ i ≤ 4)
      (fun H3 K3 e3 => ⟨none, rfl, K3, by omega⟩) ?_ ?_
    · rintro i σ' H' hi ⟨y, rfl, K3, hi7⟩
      obtain ⟨hk3, hny, hlen⟩ := textN_ok (style := (take s 3).1) (take_pk (n := 2) hk1) i
      generalize hst : textN (take s 3).1 i (("" : Str), (take (take s 3).2 2).2) = st at K3 hk3 hny hlen ⊢
      have hst1 : textN (take s 3).1 (i + 1) (("" : Str), (take (take s 3).2 2).2) = textT (take s 3).1 st := by
        show textT (take s 3).1 (textN (take s 3).1 i (("" : Str), (take (take s 3).2 2).2)) = _
        rw [hst]
      rw [hst1]
      generalize (take s 3).1 = style
      refine sp_if K3 (EvTP.of (et_test (ev_op (ev_var rfl) ev_c rv_eqI))) (fun hb H4 K4 e4 => ?_) (fun hb H4 K4 e4 => ?_)
      · have e1 : textT style st = (st.1 ++ ⟨#[sgn signsS (take st.2 68).1]⟩, (take st.2 68).2) := if_pos (of_decide_eq_true hb)
        rw [e1]
        have t9 := take_lt (s := st.2) (n := 68) (by decide)
        refine sp_asg K4 (evp_op (EvP.of (ev_var rfl)) (evp_op (EvP.of (ev_call ea_nil sv_spK)) (evp_take rfl hk3 (by decide) (by decide)) (rv_ixS (by decide +kernel) (sgn_ix t9.1 (by rw [len_signs]; exact t9.2)))) (rv_cat ?_)) fun H5 K5 e5 => ⟨_, rfl, K5, by omega⟩
        show st.1.length + 1 ≤ 100000
        omega
      · have e1 : textT style st = (st.1 ++ ⟨#[sgn fewS (take st.2 4).1]⟩, (take st.2 4).2) := if_neg (of_decide_eq_false hb)
        rw [e1]
        have t9 := take_lt (s := st.2) (n := 4) (by decide)
        refine sp_asg K4 (evp_op (EvP.of (ev_var rfl)) (evp_op (EvP.of ev_c) (evp_take rfl hk3 (by decide) (by decide)) (rv_ixS (w := fewS) (by decide +kernel) (sgn_ix t9.1 (by rw [show fewS.length = 4 by decide +kernel]; exact t9.2)))) (rv_cat ?_)) fun H5 K5 e5 => ⟨_, rfl, K5, by omega⟩
        show st.1.length + 1 ≤ 100000
        omega
    · rintro σ' H' ⟨y, rfl, K3, _⟩
      exact s_ret (ev_var rfl) fun H4 e4 => q H4 (hx_trans K3.ex (hx_of e4)) (e4 p _ K3.at_)

/-! ### _law_parts -/
def openL (p : Str) : Bool := decide (p ∈ [anyP, digP, wordP])
theorem openL_eq (p : Str) : openL p = isOpen p := by
  rw [isOpen_eq]
  unfold openL
  simp only [List.mem_cons, List.not_mem_nil, or_false]
  congr 1
  apply propext
  constructor
  · rintro (h | h | h)
    · exact .inr (.inr h)
    · exact .inl h
    · exact .inr (.inl h)
  · rintro (h | h | h)
    · exact .inr (.inl h)
    · exact .inr (.inr h)
    · exact .inl h
def lastFixed (ps : List Str) : Bool := !ps.isEmpty && !isOpen (ps.getLast?.getD "")
def richT (st : List Str × (Int × Int)) : List Str × (Int × Int) :=
  if (take st.2 5).1 = 0 ∧ anyP ∉ st.1 then (st.1 ++ [anyP], (take st.2 5).2)
  else if (take st.2 5).1 = 1 then (st.1 ++ [digP], (take st.2 5).2)
  else if (take st.2 5).1 = 2 ∨ lastFixed st.1 = true then (st.1 ++ [wordP], (take st.2 5).2)
  else (st.1 ++ [(lawText (take st.2 5).2).1], (lawText (take st.2 5).2).2)
def richN : Nat → List Str × (Int × Int) → List Str × (Int × Int)
  | 0, st => st
  | i + 1, st => richT (richN i st)
def rich (s : Int × Int) : List Str × (Int × Int) := richN (1 + (take s 3).1).toNat ([], (take s 3).2)
/-- a fixed text of one to four signs -/
def fixedP (p : Str) : Prop := Lny p ∧ 1 ≤ p.length ∧ p.length ≤ 4
/-- parts that make a form -/
structure Parts (ps : List Str) : Prop where
  each : ∀ p ∈ ps, isOpen p = true ∨ fixedP p
  adj : ∀ (i : Nat) (p q : Str), ps[i]? = some p → ps[i + 1]? = some q → isOpen p = true ∨ isOpen q = true
  one : ∀ i j : Nat, ps[i]? = some anyP → ps[j]? = some anyP → i = j
theorem parts_nil : Parts [] := ⟨fun _ h => (nomatch h), fun _ _ _ h => (nomatch h), fun _ _ h => (nomatch h)⟩
theorem open_any : isOpen anyP = true := by decide +kernel
theorem open_dig : isOpen digP = true := by decide +kernel
theorem open_word : isOpen wordP = true := by decide +kernel
theorem app_get {α : Type} {xs : List α} {x y : α} {i : Nat} (h : (xs ++ [x])[i]? = some y) : xs[i]? = some y ∨ (i = xs.length ∧ x = y) := by
  by_cases hi : i < xs.length
  · rw [List.getElem?_append_left hi] at h
    exact .inl h
  · rw [List.getElem?_append_right (by omega)] at h
    by_cases e : i = xs.length
    · subst e
      rw [Nat.sub_self] at h
      exact .inr ⟨rfl, Option.some.inj h⟩
    · rw [List.getElem?_eq_none_iff.mpr (by simp; omega)] at h
      cases h
/-- one part more -/
theorem Parts.snoc {ps : List Str} {p : Str} (h : Parts ps) (he : isOpen p = true ∨ fixedP p) (ha : isOpen p = true ∨ lastFixed ps = false) (ho : p = anyP → anyP ∉ ps) : Parts (ps ++ [p]) := by
  refine ⟨fun q hq => ?_, fun i x y hx hy => ?_, fun i j hi hj => ?_⟩
  · rcases List.mem_append.mp hq with hq | hq
    · exact h.each q hq
    · rw [List.mem_singleton.mp hq]
      exact he
  · rcases app_get hy with hy' | ⟨e, rfl⟩
    · rcases app_get hx with hx' | ⟨e, rfl⟩
      · exact h.adj i x y hx' hy'
      · have := (List.getElem?_eq_some_iff.mp hy').1
        omega
    · rcases ha with ha | ha
      · exact .inr ha
      · left
        rcases app_get hx with hx' | ⟨e', _⟩
        · have hl : ps.getLast? = some x := by
            rw [List.getLast?_eq_getElem?, ← hx']
            congr 1
            omega
          unfold lastFixed at ha
          rw [hl] at ha
          have hne : ps.isEmpty = false := by
            cases ps with
            | nil => cases hx'
            | cons _ _ => rfl
          rw [hne] at ha
          simpa using ha
        · omega
  · rcases app_get hi with hi' | ⟨e, ep⟩
    · rcases app_get hj with hj' | ⟨e', ep'⟩
      · exact h.one i j hi' hj'
      · exact absurd (List.mem_of_getElem? hi') (ho ep')
    · rcases app_get hj with hj' | ⟨e', ep'⟩
      · exact absurd (List.mem_of_getElem? hj') (ho ep)
      · omega
theorem richT_ok {st : List Str × (Int × Int)} (h : Pk st.2) (hp : Parts st.1) : Pk (richT st).2 ∧ Parts (richT st).1 ∧ (richT st).1.length = st.1.length + 1 := by
  have hk : Pk (take st.2 5).2 := take_pk h
  have ht := lawText_ok hk
  unfold richT
  split
  · rename_i hc
    exact ⟨hk, hp.snoc (.inl open_any) (.inl open_any) (fun _ => hc.2), by simp⟩
  · split
    · exact ⟨hk, hp.snoc (.inl open_dig) (.inl open_dig) (fun e => absurd e (by decide +kernel)), by simp⟩
    · split
      · exact ⟨hk, hp.snoc (.inl open_word) (.inl open_word) (fun e => absurd e (by decide +kernel)), by simp⟩
      · rename_i hc
        refine ⟨ht.1, hp.snoc (.inr ⟨ht.2.1, ht.2.2⟩) (.inr ?_) (fun e => ?_), by simp⟩
        · cases hl : lastFixed st.1 with
          | false => rfl
          | true => exact absurd (.inr hl) hc
        · have h4 := ht.2.2.2
          rw [e] at h4
          exact absurd h4 (by decide +kernel)
theorem richN_ok {s : Int × Int} (h : Pk s) : ∀ n, Pk (richN n ([], s)).2 ∧ Parts (richN n ([], s)).1 ∧ (richN n ([], s)).1.length = n
  | 0 => ⟨h, parts_nil, rfl⟩
  | n + 1 => by
    obtain ⟨h1, h2, h3⟩ := richN_ok h n
    obtain ⟨k1, k2, k3⟩ := richT_ok h1 h2
    exact ⟨k1, k2, by rw [h3] at k3; exact k3⟩
theorem rich_ok {s : Int × Int} (h : Pk s) : Pk (rich s).2 ∧ Parts (rich s).1 ∧ 1 ≤ (rich s).1.length ∧ (rich s).1.length ≤ 3 := by
  have t := take_lt (s := s) (n := 3) (by decide)
  obtain ⟨h1, h2, h3⟩ := richN_ok (take_pk (n := 3) h) (1 + (take s 3).1).toNat
  exact ⟨h1, h2, by unfold rich; omega, by unfold rich; omega⟩
theorem open_len {p : Str} (h : isOpen p = true) : p.length ≤ 8 := by
  rcases isOpen_iff.mp h with rfl | rfl | rfl <;> decide +kernel
theorem open_ok {p : Str} (h : isOpen p = true) : okV (.str p) = true := by
  rcases isOpen_iff.mp h with rfl | rfl | rfl <;> decide +kernel
theorem Parts.len {ps : List Str} (h : Parts ps) : ∀ p ∈ ps, p.length ≤ 8 := fun p hp => (h.each p hp).elim open_len (fun k => by have := k.2.2; omega)
theorem Parts.okV {ps : List Str} (h : Parts ps) : ∀ v ∈ ps.map V.str, okV v = true := fun v hv => by
  obtain ⟨p, hp, rfl⟩ := List.mem_map.mp hv
  exact (h.each p hp).elim open_ok (fun k => lny_ok k.1)
/-- what hands back a new list, the pool at p then s' -/
def RetPL (p : Addr) (s' : Int × Int) (xs : List V) (H : Hp) (Q : VK) : Prop := ∀ l H', H l = none → Ex (hide p H) H' → H' p = some (pl s') → H' l = some (.lst xs) → Q (.ref l) H'
def spRich : Sp := fun vs H Q _ => ∃ (p : Addr) (s : Int × Int), vs = [.ref p] ∧ H p = some (pl s) ∧ Pk s ∧ RetPL p (rich s).2 ((rich s).1.map V.str) H Q
theorem ok__law_parts {f : Addr} {fd : FuncData} (F : Fun K "_law_parts" "_law_parts" s__law_parts f fd) (T : Txt K mg a_FIELDS a_OPEN_PARTS C_Form C_GlueError C_NoRule C_Rule) (D__law_take : Df P w K mg base "_law_take" ["pool", "many"] 1 spTake)
    (D__law_text : Df P w K mg base "_law_text" ["pool"] 2 (spPT lawText)) : FnOk P w K mg base CX0 3 f fd ["pool"] spRich := by
  refine F.ok sc__law_parts (fun vs H Q E h => ?_) (fun cdv A outer s0 H vs Q E hr h => ?_)
  · obtain ⟨p, s, rfl, _⟩ := h
    rfl
  · obtain ⟨p, s, rfl, hp, hk, q⟩ := h
    refine ⟨_, (pss_cons (ps_set (i := 1) sc__law_parts.nd rfl (Or.inl rfl) (pe_lst pa_nil))
      (pss_cons (ps_for PassesOwn.never rfl (pi_range1 (by rfl) T.n_range (pa_cons (pe_op op_add pe_int (pe_df D__law_take (hr.mono (by decide)) (by rfl) (pa_cons (pv 0) (pa_cons pe_int pa_nil)))) pa_nil)) (pg_name (i := 2) sc__law_parts.nd rfl (Or.inl rfl))
      (pss_cons (ps_set (i := 3) sc__law_parts.nd rfl (Or.inl rfl) (pe_df D__law_take (hr.mono (by decide)) (by rfl) (pa_cons (pv 0) (pa_cons pe_int pa_nil))))
      (pss_cons (ps_set (i := 4) sc__law_parts.nd rfl (Or.inl rfl) (pe_and (pe_cmpR (op_neD hr.units) (pv 1) (pe_lst pa_nil) (nomark _)) (pe_one (pe_cmpR op_notIn_seq (pe_ix ix_list (pv 1) (pe_un un_neg pe_int) (fun _ _ => rfl)) (pe_tup (pa_cons pe_str (pa_cons pe_str (pa_cons pe_str pa_nil)))) (by rfl)))))
      (pss_one (ps_if (PW.pt (pw_and (pt_cmpR op_eq (pv 3) pe_int (nomark _)) (pw_and1 (pt_cmpR op_notIn_seq pe_str (pv 1) (by rfl)))))
      (pss_one (ps_expr (pe_bm PySem.F.plainAttrs_list PySem.F.slot_list_append PySem.F.type_list_append mt_append (pv 1) (pa_cons pe_str pa_nil))))
      (pss_one (ps_if (pt_cmpR op_eq (pv 3) pe_int (nomark _))
      (pss_one (ps_expr (pe_bm PySem.F.plainAttrs_list PySem.F.slot_list_append PySem.F.type_list_append mt_append (pv 1) (pa_cons pe_str pa_nil))))
      (pss_one (ps_if (PW.pt (pw_or (pt_cmpR op_eq (pv 3) pe_int (nomark _)) (pw_or1 (pt_val (pv 4)))))
      (pss_one (ps_expr (pe_bm PySem.F.plainAttrs_list PySem.F.slot_list_append PySem.F.type_list_append mt_append (pv 1) (pa_cons pe_str pa_nil))))
      (pss_one (ps_expr (pe_bm PySem.F.plainAttrs_list PySem.F.slot_list_append PySem.F.type_list_append mt_append (pv 1) (pa_cons (pe_df D__law_text (hr.mono (by decide)) (by rfl) (pa_cons (pv 0) pa_nil)) pa_nil)))))))))))))
      (pss_one (ps_ret (pv 1))))), ?_⟩
    have K0 := Kn.here hp
    refine q_asgL (el_lst ea_nil (Nat.zero_le _)) fun l H1 hl0 e1 h1 => ?_
    have K1 := K0.same e1
    have nlp : l ≠ p := fun z => by
      rw [z, hp] at hl0
      cases hl0
    have hGl : hide p H l = none := by
      rw [hide_ne nlp]
      exact hl0
    have t4 := take_lt (s := s) (n := 3) (by decide)
    refine qp_forR1 K1 (eap_cons (evp_op (EvP.of ev_c) (evp_take rfl hk (by decide) (by decide)) rv_add) eap_nil) ⟨by omega, by omega⟩
      (fun i σ' H' => ∃ y1 y2 y3 : Option V, σ' = [some (.ref p), some (.ref l), y1, y2, y3] ∧ Kn (hide p H) p (richN i ([], (take s 3).2)).2 H' ∧ H' l = some (.lst ((richN i ([], (take s 3).2)).1.map V.str)) ∧ i ≤ 4)
      (fun H3 K3 e3 => ⟨none, none, none, rfl, K3, e3 _ _ (by rw [hide_ne nlp]; exact h1), by omega⟩) ?_ ?_
    · rintro i σ' H2 hi ⟨y1, y2, y3, rfl, K2, h2, hi4⟩
      obtain ⟨hk2, hps, hlen⟩ := richN_ok (take_pk (n := 3) hk) i
      generalize hst : richN i ([], (take s 3).2) = st at K2 hk2 hps hlen h2
      have hst1 : richN (i + 1) ([], (take s 3).2) = richT st := by
        show richT (richN i ([], (take s 3).2)) = _
        rw [hst]
      rw [hst1]
      have hk3 : Pk (take st.2 5).2 := take_pk hk2
      refine qp_asg K2 (evp_take rfl hk2 (by decide) (by decide)) fun H3 K3 e3 => ?_
      have h3 : H3 l = some (.lst (st.1.map V.str)) := e3 _ _ (by rw [hide_ne nlp]; exact h2)
      have hn3 : hide p H3 l = some (.lst (st.1.map V.str)) := by rw [hide_ne nlp]; exact h3
      have okl : ∀ v ∈ st.1.map V.str, okV v = true := hps.okV
      refine q_asg (v := .bl (lastFixed st.1)) (ev_is (ev_andV (a := !eqF (st.1.map V.str) []) (b := !isOpen (st.1.getLast?.getD "")) (ev_opL (ev_var rfl) (el_lst ea_nil (Nat.zero_le _)) fun q1 H4 hq4 e4 => rv_neL (sq_of (e4 _ _ h3)) (sq_of hq4) okl (by simp)) fun hb => ?_) ?_) fun H4 e4 => ?_
      · have hne : st.1.map V.str ≠ [] := fun z => by
          rw [z] at hb
          cases hb
        have hne2 : st.1 ≠ [] := fun z => hne (by rw [z]; rfl)
        have hlast : atI (st.1.map V.str) (-1) = some (.str (st.1.getLast?.getD "")) := by
          rw [at_last hne, List.getLast?_map]
          cases hq : st.1.getLast? with
          | none => exact absurd (List.getLast?_eq_none_iff.mp hq) hne2
          | some x => rfl
        refine ev_is (ev_niU (ev_op (ev_var rfl) (ev_neg ev_c) (rv_ixL (sq_of h3) hlast)) (eu_tup (ea_cons ev_c (ea_cons ev_c (ea_cons ev_c ea_nil))) (by simp)) rfl rfl) ?_
        rw [← openL_eq]
        exact congrArg (fun b => V.bl (!b)) (inV_str _ [anyP, digP, wordP])
      · unfold lastFixed
        rw [eqF_nil]
        cases st.1 <;> rfl
      have K4 := K3.same e4
      have h4 := e4 _ _ h3
      have big : (st.1.map V.str).length < 100000 := by
        rw [List.length_map]
        omega
      have done : ∀ (x : Str) (s' : Int × Int) (y1' y2' y3' : Option V) (H5 : Hp), richT st = (st.1 ++ [x], s') → Kn (hide p H) p s' H5 → (∃ y1 y2 y3 : Option V, ([some (.ref p), some (.ref l), y1', y2', y3'] : L2.St) = [some (.ref p), some (.ref l), y1, y2, y3] ∧ Kn (hide p H) p (richT st).2 (upd H5 l (.lst (st.1.map V.str ++ [.str x]))) ∧ (upd H5 l (.lst (st.1.map V.str ++ [.str x]))) l = some (.lst ((richT st).1.map V.str)) ∧ i + 1 ≤ 4) := by
        intro x s' z1 z2 z3 H5 he K5
        refine ⟨z1, z2, z3, rfl, ?_, ?_, by omega⟩
        · rw [he]
          exact K5.mut hGl (Ne.symm nlp)
        · rw [he, upd_same, List.map_append]
          rfl
      refine s_if (b := decide ((take st.2 5).1 = 0) && !decide (anyP ∈ st.1)) (et_and (et_test (ev_op (ev_var rfl) ev_c rv_eqI)) fun _ => et_test (ev_is (ev_op ev_c (ev_var rfl) (rv_niL (sq_of h4) rfl (flat_str _))) (congrArg (fun b => V.bl (!b)) (inV_str _ _)))) (fun hb H5 e5 => ?_) (fun hb H5 e5 => ?_)
      · obtain ⟨c1, c2⟩ := Bool.and_eq_true _ _ ▸ hb
        have c2' : anyP ∉ st.1 := by simpa using c2
        exact s_app (e5 _ _ h4) (ev_var rfl) ev_c big fun H6 e6 => done anyP _ _ _ _ H6 (if_pos ⟨of_decide_eq_true c1, c2'⟩) ((K4.same e5).same e6)
      · have n1 : ¬ ((take st.2 5).1 = 0 ∧ anyP ∉ st.1) := fun z => by
          rw [decide_eq_true z.1, decide_eq_false z.2] at hb
          cases hb
        have h5 := e5 _ _ h4
        have K5 := K4.same e5
        refine s_if (b := decide ((take st.2 5).1 = 1)) (et_test (ev_op (ev_var rfl) ev_c rv_eqI)) (fun hc H6 e6 => ?_) (fun hc H6 e6 => ?_)
        · exact s_app (e6 _ _ h5) (ev_var rfl) ev_c big fun H7 e7 => done digP _ _ _ _ H7 (by unfold richT; rw [if_neg n1, if_pos (of_decide_eq_true hc)]) ((K5.same e6).same e7)
        · have n2 := of_decide_eq_false hc
          have h6 := e6 _ _ h5
          have K6 := K5.same e6
          refine s_if (b := decide ((take st.2 5).1 = 2) || lastFixed st.1) (et_or (et_test (ev_op (ev_var rfl) ev_c rv_eqI)) fun _ => et_B (ev_var rfl)) (fun hd H7 e7 => ?_) (fun hd H7 e7 => ?_)
          · have n3 : (take st.2 5).1 = 2 ∨ lastFixed st.1 = true := by
              rcases Bool.or_eq_true _ _ ▸ hd with hd | hd
              · exact .inl (of_decide_eq_true hd)
              · exact .inr hd
            exact s_app (e7 _ _ h6) (ev_var rfl) ev_c big fun H8 e8 => done wordP _ _ _ _ H8 (by unfold richT; rw [if_neg n1, if_neg n2, if_pos n3]) ((K6.same e7).same e8)
          · have n3 : ¬ ((take st.2 5).1 = 2 ∨ lastFixed st.1 = true) := fun z => by
              rcases z with z | z
              · rw [decide_eq_true z] at hd
                cases hd
              · rw [z, Bool.or_true] at hd
                cases hd
            exact sp_app (K6.same e7) (e7 _ _ h6) nlp rfl (evp_pt rfl hk3) big fun H8 K8 e8 => done _ _ _ _ _ H8 (by unfold richT; rw [if_neg n1, if_neg n2, if_neg n3]) K8
    · rintro σ' H2 ⟨y1, y2, y3, rfl, K2, h2, _⟩
      exact s_ret (ev_var rfl) fun H4 e4 => q l H4 hl0 (hx_trans K2.ex (hx_of e4)) (e4 p _ K2.at_) (e4 _ _ h2)

/-! ### _law_takes, _law_ends, _law_fits -/
def ltakes (p : Str) (c : Nat) : Bool := if p = digP then decide (c ∈ digS.cps.toList) else decide (p = wordP) && decide (c ∈ letS.cps.toList)
def spLtakes : Sp := fun vs H Q _ => ∃ (p : Str) (c : Nat), vs = [.str p, .str ⟨#[c]⟩] ∧ RetV (.bl (ltakes p c)) H Q
theorem sv_ltakes {p : Str} {c : Nat} {G : Hp} : SpV spLtakes [.str p, .str ⟨#[c]⟩] G (.bl (ltakes p c)) := fun H1 e Q q E => ⟨_, _, rfl, q⟩
theorem while_iff {α : Type} (p : α → Bool) : ∀ (l : List α) (j : Nat), j ≤ (l.takeWhile p).length → (j < (l.takeWhile p).length ↔ ∃ x, l[j]? = some x ∧ p x = true)
  | [], j, _ => by simp
  | x :: l, 0, _ => by
    by_cases h : p x = true
    · simp [List.takeWhile_cons, h]
    · simp [List.takeWhile_cons, h]
  | x :: l, j + 1, h => by
    by_cases hx : p x = true
    · have e : (x :: l).takeWhile p = x :: l.takeWhile p := by simp [List.takeWhile_cons, hx]
      rw [e, List.length_cons] at h ⊢
      have := while_iff p l j (by omega)
      rw [show (x :: l)[j + 1]? = l[j]? from rfl]
      constructor
      · intro q
        exact this.mp (by omega)
      · intro q
        have := this.mpr q
        omega
    · have e : (x :: l).takeWhile p = [] := by simp [List.takeWhile_cons, hx]
      rw [e] at h
      simp at h
/-- how many signs from a place on a part takes -/
def run (p : Str) (z : Str) (a : Nat) : Nat := ((z.cps.toList.drop a).takeWhile (ltakes p)).length
def from1 (a n : Nat) : List Nat := (List.range n).map fun i => a + i
def endsM (p z : Str) (a : Nat) : List Nat :=
  if p = anyP then from1 a (z.length + 1 - a)
  else if p = digP ∨ p = wordP then from1 (a + 1) (run p z a)
  else if (⟨((z.cps.toList.drop a).take p.length).toArray⟩ : Str) = p then [a + p.length] else []
theorem run_le (p z : Str) (a : Nat) : run p z a ≤ z.length - a := by
  unfold run
  have h := (List.takeWhile_sublist (l := z.cps.toList.drop a) (ltakes p)).length_le
  rw [List.length_drop, ← str_len] at h
  exact h
theorem from1_mem {a n e : Nat} : e ∈ from1 a n ↔ a ≤ e ∧ e < a + n := by
  unfold from1
  rw [List.mem_map]
  constructor
  · rintro ⟨i, hi, rfl⟩
    have := List.mem_range.mp hi
    omega
  · rintro ⟨h1, h2⟩
    exact ⟨e - a, List.mem_range.mpr (by omega), by omega⟩
theorem from1_nd (a n : Nat) : (from1 a n).Nodup := by
  unfold from1
  exact List.Pairwise.map _ (fun x y h => by omega) List.nodup_range
theorem ends_nd (p z : Str) (a : Nat) : (endsM p z a).Nodup := by
  unfold endsM
  split
  · exact from1_nd _ _
  · split
    · exact from1_nd _ _
    · split <;> simp
theorem ends_le {p z : Str} {a e : Nat} (h : e ∈ endsM p z a) (ha : a ≤ z.length) : e ≤ z.length := by
  unfold endsM at h
  split at h
  · have := from1_mem.mp h
    omega
  · split at h
    · have := from1_mem.mp h
      have := run_le p z a
      omega
    · split at h
      · rename_i h3
        have hl : ((z.cps.toList.drop a).take p.length).length = p.length := by
          have := congrArg Str.length h3
          simpa [Str.length] using this
        rw [List.length_take, List.length_drop, ← str_len] at hl
        rw [List.mem_singleton.mp h]
        omega
      · cases h
theorem ends_len {p z : Str} {a : Nat} : (endsM p z a).length ≤ z.length + 1 := by
  unfold endsM
  split
  · simp [from1]
  · split
    · have := run_le p z a
      simp [from1]
      omega
    · split <;> simp
def spEnds : Sp := fun vs H Q _ => ∃ (p z : Str) (a : Nat), vs = [.str p, .str z, .int (a : Int)] ∧ z.length ≤ 1000 ∧ p.length ≤ 1000 ∧ a ≤ z.length ∧ RetL ((endsM p z a).map vN) H Q
/-- the signs that a part for digits or a word takes -/
def takS (p : Str) : Str := if p = wordP then letS else digS
theorem takS_eq {p : Str} (h : p = digP ∨ p = wordP) (c : Nat) : decide (c ∈ (takS p).cps.toList) = ltakes p c := by
  unfold takS ltakes
  by_cases h1 : p = digP
  · rw [if_neg (by rw [h1]; decide +kernel), if_pos h1]
  · have h2 : p = wordP := h.resolve_left h1
    rw [if_pos h2, if_neg h1, decide_eq_true h2, Bool.true_and]
/-! _law_fits -/
def moreM (p z : Str) (more : List Nat) (a : Nat) : List Nat := more ++ (endsM p z a).filter fun e => !decide (e ∈ more)
def stepM (z : Str) (places : List Nat) (p : Str) : List Nat := places.foldl (moreM p z) []
def placesM (ps : List Str) (z : Str) : List Nat := ps.foldl (stepM z) [0]
def fitsM (ps : List Str) (z : Str) : Bool := !decide (z = ("" : Str)) && decide (z.length ∈ placesM ps z)
theorem nodup_le : ∀ (n : Nat) (l : List Nat), l.Nodup → (∀ x ∈ l, x < n) → l.length ≤ n
  | 0, l, _, h => by
    cases l with
    | nil => exact Nat.le_refl _
    | cons x _ => exact absurd (h x List.mem_cons_self) (by omega)
  | n + 1, l, nd, h => by
    have h1 := nodup_le n (l.erase n) (nd.erase n) fun x hx => by
      have h2 := (List.Nodup.mem_erase_iff nd).mp hx
      have := h x h2.2
      omega
    rw [List.length_erase] at h1
    split at h1 <;> omega
/-- places: no one twice, none beyond the line -/
def Pls (z : Str) (l : List Nat) : Prop := l.Nodup ∧ ∀ x ∈ l, x ≤ z.length
theorem Pls.len {z : Str} {l : List Nat} (h : Pls z l) : l.length ≤ z.length + 1 := nodup_le _ _ h.1 fun x hx => by have := h.2 x hx; omega
theorem more_ok {p z : Str} {more : List Nat} {a : Nat} (h : Pls z more) (ha : a ≤ z.length) : Pls z (moreM p z more a) := by
  refine ⟨List.nodup_append.mpr ⟨h.1, (ends_nd p z a).filter _, fun x hx y hy e => ?_⟩, fun x hx => ?_⟩
  · have := (List.mem_filter.mp hy).2
    rw [← e] at this
    simp [hx] at this
  · rcases List.mem_append.mp hx with hx | hx
    · exact h.2 x hx
    · exact ends_le (List.mem_filter.mp hx).1 ha
theorem mores_ok {p z : Str} : ∀ (places more : List Nat), Pls z more → (∀ x ∈ places, x ≤ z.length) → Pls z (places.foldl (moreM p z) more)
  | [], _, h, _ => h
  | a :: r, more, h, k => mores_ok r _ (more_ok h (k a List.mem_cons_self)) fun x hx => k x (List.mem_cons_of_mem _ hx)
theorem pls_nil (z : Str) : Pls z [] := ⟨List.nodup_nil, fun _ h => (nomatch h)⟩
theorem step_ok {z p : Str} {places : List Nat} (h : Pls z places) : Pls z (stepM z places p) := mores_ok _ _ (pls_nil z) h.2
theorem steps_ok {z : Str} : ∀ (ps : List Str) (places : List Nat), Pls z places → Pls z (ps.foldl (stepM z) places)
  | [], _, h => h
  | p :: ps, _, h => steps_ok ps _ (step_ok h)
theorem pls_0 (z : Str) : Pls z [0] := ⟨by simp, fun x hx => by rw [List.mem_singleton.mp hx]; omega⟩
theorem mem_str {ps : List Str} {i : Nat} {x : V} (h : (ps.map V.str)[i]? = some x) : ∃ p, ps[i]? = some p ∧ x = .str p := by
  rw [List.getElem?_map] at h
  cases hq : ps[i]? with
  | none =>
    rw [hq] at h
    cases h
  | some p =>
    rw [hq] at h
    exact ⟨p, rfl, (Option.some.inj h).symm⟩
theorem mem_vN {ps : List Nat} {i : Nat} {x : V} (h : (ps.map vN)[i]? = some x) : ∃ p, ps[i]? = some p ∧ x = vN p := by
  rw [List.getElem?_map] at h
  cases hq : ps[i]? with
  | none =>
    rw [hq] at h
    cases h
  | some p =>
    rw [hq] at h
    exact ⟨p, rfl, (Option.some.inj h).symm⟩
theorem take_fold {α β : Type} {f : β → α → β} {b : β} {l : List α} {i : Nat} {x : α} (h : l[i]? = some x) : (l.take (i + 1)).foldl f b = f ((l.take i).foldl f b) x := by
  rw [List.take_add_one, h, List.foldl_append]
  rfl
def spFits (K : PySem.W.Frag) : Sp := fun vs H Q _ => ∃ (a : Addr) (ps : List Str) (z : Str), vs = [.ref a, .str z] ∧ SqL K H a (ps.map V.str) ∧ (∀ p ∈ ps, p.length ≤ 1000) ∧ z.length ≤ 1000 ∧ RetV (.bl (fitsM ps z)) H Q
/-! ### _law_line, _law_spoiled -/
def fourS : Str := "aBzb"
def rep1 (z : Str) (d n : Int) : Str := repS ⟨#[sgn z d]⟩ (1 + n).toNat
def lineT (st : Str × (Int × Int)) (p : Str) : Str × (Int × Int) :=
  if p = digP then (st.1 ++ rep1 digS (take st.2 10).1 (take (take st.2 10).2 3).1, (take (take st.2 10).2 3).2)
  else if p = wordP then (st.1 ++ rep1 fourS (take st.2 4).1 (take (take st.2 4).2 3).1, (take (take st.2 4).2 3).2)
  else if p = anyP then (st.1 ++ repS (lawText st.2).1 (take (lawText st.2).2 3).1.toNat, (take (lawText st.2).2 3).2)
  else (st.1 ++ p, st.2)
def lawLine (s : Int × Int) (ps : List Str) : Str × (Int × Int) := ps.foldl lineT (("" : Str), s)
theorem lny_rep {z : Str} (h : Lny z) (n : Nat) : Lny (repS z n) := by
  intro c hc
  unfold repS at hc
  have hc' : c ∈ (List.replicate n z.cps.toList).flatten := hc
  obtain ⟨l, hl, hcl⟩ := List.mem_flatten.mp hc'
  rw [(List.mem_replicate.mp hl).2] at hcl
  exact h c hcl
theorem lineT_ok {st : Str × (Int × Int)} {p : Str} (h : Pk st.2) (l : Lny st.1) (hp : isOpen p = true ∨ fixedP p) : Pk (lineT st p).2 ∧ Lny (lineT st p).1 ∧ (lineT st p).1.length ≤ st.1.length + 12 := by
  have a1 := take_lt (s := st.2) (n := 10) (by decide)
  have a2 := take_lt (s := (take st.2 10).2) (n := 3) (by decide)
  have b1 := take_lt (s := st.2) (n := 4) (by decide)
  have b2 := take_lt (s := (take st.2 4).2) (n := 3) (by decide)
  have c2 := take_lt (s := (lawText st.2).2) (n := 3) (by decide)
  have tx := lawText_ok h
  unfold lineT
  split
  · refine ⟨take_pk (take_pk h), lny_app l (lny_rep (lny_sgn (z := digS) (by unfold Lny; decide +kernel) a1.1 (by rw [show digS.length = 10 by decide +kernel]; exact a1.2)) _), ?_⟩
    rw [app_len]
    unfold rep1
    rw [repS_len]
    show _ + _ * 1 ≤ _
    omega
  · split
    · refine ⟨take_pk (take_pk h), lny_app l (lny_rep (lny_sgn (z := fourS) (by unfold Lny; decide +kernel) b1.1 (by rw [show fourS.length = 4 by decide +kernel]; exact b1.2)) _), ?_⟩
      rw [app_len]
      unfold rep1
      rw [repS_len]
      show _ + _ * 1 ≤ _
      omega
    · split
      · refine ⟨take_pk tx.1, lny_app l (lny_rep tx.2.1 _), ?_⟩
        rw [app_len, repS_len]
        have h2 : (take (lawText st.2).2 3).1.toNat * (lawText st.2).1.length ≤ 3 * 4 := Nat.mul_le_mul (by omega) tx.2.2.2
        omega
      · rename_i h1 h2 h3
        have hf : fixedP p := by
          rcases hp with hp | hp
          · rcases isOpen_iff.mp hp with e | e | e
            · exact absurd e h1
            · exact absurd e h2
            · exact absurd e h3
          · exact hp
        refine ⟨h, lny_app l hf.1, ?_⟩
        rw [app_len]
        have := hf.2.2
        omega
theorem lines_ok : ∀ (ps : List Str) (st : Str × (Int × Int)), Pk st.2 → Lny st.1 → (∀ p ∈ ps, isOpen p = true ∨ fixedP p) → Pk (ps.foldl lineT st).2 ∧ Lny (ps.foldl lineT st).1 ∧ (ps.foldl lineT st).1.length ≤ st.1.length + 12 * ps.length
  | [], _, h, l, _ => ⟨h, l, by simp⟩
  | p :: ps, st, h, l, hp => by
    obtain ⟨h1, l1, n1⟩ := lineT_ok h l (hp p List.mem_cons_self)
    obtain ⟨h2, l2, n2⟩ := lines_ok ps _ h1 l1 fun q hq => hp q (List.mem_cons_of_mem _ hq)
    refine ⟨h2, l2, ?_⟩
    rw [List.foldl_cons, List.length_cons]
    omega
theorem lawLine_ok {s : Int × Int} {ps : List Str} (h : Pk s) (hp : ∀ p ∈ ps, isOpen p = true ∨ fixedP p) : Pk (lawLine s ps).2 ∧ Lny (lawLine s ps).1 ∧ (lawLine s ps).1.length ≤ 12 * ps.length := by
  obtain ⟨h1, h2, h3⟩ := lines_ok ps (("" : Str), s) h lny_nil hp
  refine ⟨h1, h2, ?_⟩
  have : (("" : Str)).length = 0 := by decide +kernel
  have h4 : (((("" : Str), s) : Str × (Int × Int))).1.length = 0 := this
  rw [h4] at h3
  unfold lawLine
  omega
def spLine (K : PySem.W.Frag) : Sp := fun vs H Q _ => ∃ (p : Addr) (s : Int × Int) (a : Addr) (ps : List Str), vs = [.ref p, .ref a] ∧ H p = some (pl s) ∧ Pk s ∧ a ≠ p ∧ SqL K H a (ps.map V.str) ∧ (∀ p ∈ ps, isOpen p = true ∨ fixedP p) ∧ ps.length ≤ 10 ∧ RetP p (lawLine s ps).2 (.str (lawLine s ps).1) H Q
theorem sq_hide {p a : Addr} {H : Hp} {xs : List V} (ne : a ≠ p) (h : SqL K H a xs) : SqL K (hide p H) a xs := by
  rcases h with (h | ⟨o, h⟩) | h
  · exact .inl (.inl (by rw [hide_ne ne]; exact h))
  · exact .inl (.inr ⟨o, by rw [hide_ne ne]; exact h⟩)
  · exact .inr h
/-! _law_spoiled -/
def lawSpoiled (s : Int × Int) (z : Str) : Str × (Int × Int) :=
  let a := take s ((z.length : Int) + 1)
  let b := take a.2 68
  let c := take b.2 5
  let x : Str := ⟨#[sgn signsS b.1]⟩
  if c.1 = 0 then ((cutS z none (some a.1) ++ x) ++ cutS z (some a.1) none, c.2)
  else if c.1 = 1 then (cutS z none (some a.1) ++ cutS z (some (a.1 + 1)) none, c.2)
  else if c.1 = 2 then ((cutS z none (some a.1) ++ x) ++ cutS z (some (a.1 + 1)) none, c.2)
  else (z, c.2)
theorem cut_len {z : Str} {lo hi : Option Int} : (cutS z lo hi).length ≤ z.length := by
  rw [str_len, str_len z]
  unfold cutS
  show ((z.cps.toList.drop _).take _).length ≤ _
  rw [List.length_take, List.length_drop]
  omega
theorem lny_cut {z : Str} {lo hi : Option Int} (h : Lny z) : Lny (cutS z lo hi) := fun c hc => by
  have hc' : c ∈ (z.cps.toList.drop (HT.sIx z.length 0 lo)).take (HT.sIx z.length z.length hi - HT.sIx z.length 0 lo) := hc
  exact h c (List.mem_of_mem_drop (List.mem_of_mem_take hc'))
theorem spoiled_ok {s : Int × Int} {z : Str} (h : Pk s) (l : Lny z) : Pk (lawSpoiled s z).2 ∧ Lny (lawSpoiled s z).1 ∧ (lawSpoiled s z).1.length ≤ 2 * z.length + 1 := by
  have b1 := take_lt (s := (take s ((z.length : Int) + 1)).2) (n := 68) (by decide)
  have hx : Lny ⟨#[sgn signsS (take (take s ((z.length : Int) + 1)).2 68).1]⟩ := lny_sgn (fun _ w' => w') b1.1 (by rw [len_signs]; exact b1.2)
  have hk : Pk (take (take (take s ((z.length : Int) + 1)).2 68).2 5).2 := take_pk (take_pk (take_pk h))
  have c1 := cut_len (z := z) (lo := none) (hi := some (take s ((z.length : Int) + 1)).1)
  have c2 := cut_len (z := z) (lo := some (take s ((z.length : Int) + 1)).1) (hi := none)
  have c3 := cut_len (z := z) (lo := some ((take s ((z.length : Int) + 1)).1 + 1)) (hi := none)
  unfold lawSpoiled
  simp only []
  split
  · exact ⟨hk, lny_app (lny_app (lny_cut l) hx) (lny_cut l), by rw [app_len, app1_len]; omega⟩
  · split
    · exact ⟨hk, lny_app (lny_cut l) (lny_cut l), by rw [app_len]; omega⟩
    · split
      · exact ⟨hk, lny_app (lny_app (lny_cut l) hx) (lny_cut l), by rw [app_len, app1_len]; omega⟩
      · exact ⟨hk, l, by show z.length ≤ _; omega⟩
def spSpoiled : Sp := fun vs H Q _ => ∃ (p : Addr) (s : Int × Int) (z : Str), vs = [.ref p, .str z] ∧ H p = some (pl s) ∧ Pk s ∧ z.length ≤ 1000 ∧ RetP p (lawSpoiled s z).2 (.str (lawSpoiled s z).1) H Q
/-! ### the mathematics: a line split among parts, and the positions of cells -/
/-- v is what the part stands for -/
def piece (p : Str) (v : List Nat) : Prop := if p = anyP then True else if p = digP ∨ p = wordP then v ≠ [] ∧ ∀ c ∈ v, ltakes p c = true else v = p.cps.toList
/-- t can be split among the first k of the parts -/
def Mk (ps : List Str) : Nat → List Nat → Prop
  | 0, t => t = []
  | k + 1, t => ∃ u v, t = u ++ v ∧ Mk ps k u ∧ piece (cellAt' ps k) v
theorem while_all {α : Type} (p : α → Bool) : ∀ (l : List α) (j : Nat), j ≤ l.length → (j ≤ (l.takeWhile p).length ↔ ∀ c ∈ l.take j, p c = true)
  | [], j, h => by
    have : j = 0 := by simpa using h
    subst this
    simp
  | x :: l, 0, _ => by simp
  | x :: l, j + 1, h => by
    have ih := while_all p l j (by simpa using h)
    by_cases hx : p x = true
    · have e : (x :: l).takeWhile p = x :: l.takeWhile p := by simp [List.takeWhile_cons, hx]
      rw [e, List.length_cons, List.take_succ_cons]
      constructor
      · intro q c hc
        rcases List.mem_cons.mp hc with rfl | hc
        · exact hx
        · exact ih.mp (by omega) c hc
      · intro q
        have := ih.mpr fun c hc => q c (List.mem_cons_of_mem _ hc)
        omega
    · have e : (x :: l).takeWhile p = [] := by simp [List.takeWhile_cons, hx]
      rw [e]
      constructor
      · intro q
        simp at q
      · intro q
        exact absurd (q x (by simp)) hx
theorem ends_iff {p z : Str} {a e : Nat} (ha : a ≤ z.length) : e ∈ endsM p z a ↔ a ≤ e ∧ e ≤ z.length ∧ piece p ((z.cps.toList.drop a).take (e - a)) := by
  have hl : (z.cps.toList.drop a).length = z.length - a := by rw [List.length_drop, ← str_len]
  unfold endsM piece
  by_cases h1 : p = anyP
  · rw [if_pos h1, if_pos h1, from1_mem]
    constructor
    · intro q
      exact ⟨q.1, by omega, trivial⟩
    · intro q
      exact ⟨q.1, by omega⟩
  · rw [if_neg h1, if_neg h1]
    by_cases h2 : p = digP ∨ p = wordP
    · rw [if_pos h2, if_pos h2, from1_mem]
      have hr := run_le p z a
      constructor
      · rintro ⟨q1, q2⟩
        refine ⟨by omega, by omega, ?_, ?_⟩
        · intro w'
          have := congrArg List.length w'
          rw [List.length_take, hl] at this
          simp only [List.length_nil] at this
          omega
        · exact (while_all (ltakes p) (z.cps.toList.drop a) (e - a) (by omega)).mp (by
            show e - a ≤ run p z a
            omega)
      · rintro ⟨q1, q2, q3, q4⟩
        have h3 := (while_all (ltakes p) (z.cps.toList.drop a) (e - a) (by omega)).mpr q4
        have h4 : e - a ≤ run p z a := h3
        have h5 : a ≠ e := fun w' => q3 (by rw [w', Nat.sub_self, List.take_zero])
        omega
    · rw [if_neg h2, if_neg h2]
      have hp : p.cps.toList.length = p.length := (str_len p).symm
      by_cases h3 : (⟨((z.cps.toList.drop a).take p.length).toArray⟩ : Str) = p
      · rw [if_pos h3, List.mem_singleton]
        have h4 : (z.cps.toList.drop a).take p.length = p.cps.toList := by
          conv => rhs; rw [← h3]
        have h5 := congrArg List.length h4
        rw [List.length_take, hl, hp] at h5
        constructor
        · rintro rfl
          refine ⟨by omega, by omega, ?_⟩
          rw [Nat.add_sub_cancel_left]
          exact h4
        · rintro ⟨q1, q2, q3⟩
          have h6 := congrArg List.length q3
          rw [List.length_take, hl, hp] at h6
          omega
      · rw [if_neg h3]
        constructor
        · intro w'
          cases w'
        · rintro ⟨q1, q2, q3⟩
          exfalso
          have h6 := congrArg List.length q3
          rw [List.length_take, hl, hp] at h6
          have h7 : e - a = p.length := by omega
          apply h3
          rw [← h7, q3]
theorem mores_mem {p z : Str} {e : Nat} : ∀ (places more : List Nat), e ∈ places.foldl (moreM p z) more ↔ e ∈ more ∨ ∃ a ∈ places, e ∈ endsM p z a
  | [], more => by simp
  | a :: r, more => by
    rw [List.foldl_cons, mores_mem r]
    unfold moreM
    rw [List.mem_append, List.mem_filter]
    constructor
    · rintro ((h | h) | ⟨b, hb, h⟩)
      · exact .inl h
      · exact .inr ⟨a, List.mem_cons_self, h.1⟩
      · exact .inr ⟨b, List.mem_cons_of_mem _ hb, h⟩
    · rintro (h | ⟨b, hb, h⟩)
      · exact .inl (.inl h)
      · rcases List.mem_cons.mp hb with rfl | hb
        · by_cases hm : e ∈ more
          · exact .inl (.inl hm)
          · exact .inl (.inr ⟨h, by simp [hm]⟩)
        · exact .inr ⟨b, hb, h⟩
theorem step_mem {p z : Str} {places : List Nat} {e : Nat} : e ∈ stepM z places p ↔ ∃ a ∈ places, e ∈ endsM p z a := by
  unfold stepM
  rw [mores_mem]
  simp
theorem cellAt_get {ps : List Str} {k : Nat} (h : k < ps.length) : ps[k]? = some (cellAt' ps k) := by
  unfold cellAt'
  rw [List.getElem?_eq_getElem h, List.getD_eq_getElem?_getD, List.getElem?_eq_getElem h]
  rfl
theorem places_iff (ps : List Str) (z : Str) : ∀ (k : Nat), k ≤ ps.length → ∀ e, e ∈ placesM (ps.take k) z ↔ e ≤ z.length ∧ Mk ps k (z.cps.toList.take e)
  | 0, _, e => by
    show e ∈ ([0] : List Nat) ↔ _
    have hl := str_len z
    rw [List.mem_singleton]
    constructor
    · rintro rfl
      exact ⟨Nat.zero_le _, rfl⟩
    · rintro ⟨h1, h2⟩
      have h3 : z.cps.toList.take e = [] := h2
      have := congrArg List.length h3
      rw [List.length_take] at this
      simp only [List.length_nil] at this
      omega
  | k + 1, hk, e => by
    have ih := places_iff ps z k (by omega)
    have hl := str_len z
    have ht : placesM (ps.take (k + 1)) z = stepM z (placesM (ps.take k) z) (cellAt' ps k) := take_fold (cellAt_get (by omega))
    rw [ht, step_mem]
    constructor
    · rintro ⟨a, ha, he⟩
      obtain ⟨h1, h2⟩ := (ih a).mp ha
      obtain ⟨h3, h4, h5⟩ := (ends_iff h1).mp he
      refine ⟨h4, z.cps.toList.take a, (z.cps.toList.drop a).take (e - a), ?_, h2, h5⟩
      rw [show e = a + (e - a) by omega, List.take_add, show a + (e - a) - a = e - a by omega]
    · rintro ⟨h1, u, v, h2, h3, h4⟩
      have hlu : u.length ≤ e := by
        have := congrArg List.length h2
        rw [List.length_take, List.length_append] at this
        omega
      have hu : z.cps.toList.take u.length = u := by
        have := congrArg (List.take u.length) h2
        rw [List.take_take, Nat.min_eq_left hlu] at this
        rw [this]
        simp
      have hv : (z.cps.toList.drop u.length).take (e - u.length) = v := by
        have := congrArg (List.drop u.length) h2
        rw [List.drop_take] at this
        rw [this]
        simp
      refine ⟨u.length, (ih _).mpr ⟨by omega, by rw [hu]; exact h3⟩, (ends_iff (by omega)).mpr ⟨hlu, h1, ?_⟩⟩
      rw [hv]
      exact h4
theorem str_nil {z : Str} : z = ("" : Str) ↔ z.cps.toList = [] := by
  constructor
  · intro h
    rw [h]
    decide +kernel
  · intro h
    cases z with
    | mk a =>
      have : a = #[] := by
        cases a with
        | mk l => cases l with
          | nil => rfl
          | cons x y => cases h
      rw [this]
      decide +kernel
theorem fits_take {ps : List Str} {z : Str} {k : Nat} (hk : k ≤ ps.length) : fitsM (ps.take k) z = true ↔ z.cps.toList ≠ [] ∧ Mk ps k z.cps.toList := by
  have hl := str_len z
  unfold fitsM
  rw [Bool.and_eq_true, decide_eq_true_eq, places_iff ps z k hk, hl, List.take_length]
  constructor
  · rintro ⟨h1, _, h2⟩
    refine ⟨fun w' => ?_, h2⟩
    rw [decide_eq_true (str_nil.mpr w')] at h1
    cases h1
  · rintro ⟨h1, h2⟩
    refine ⟨?_, Nat.le_refl _, h2⟩
    rw [decide_eq_false fun w' => h1 (str_nil.mp w')]
    rfl
theorem fits_iff {ps : List Str} {z : Str} : fitsM ps z = true ↔ z.cps.toList ≠ [] ∧ Mk ps ps.length z.cps.toList := by
  have h := fits_take (ps := ps) (z := z) (k := ps.length) (Nat.le_refl _)
  rw [List.take_length] at h
  exact h
/-! positions -/
def Cl (cells : List Str) (ps : List Nat) : Nat → Bool
  | 0 => decide (0 ∈ ps)
  | j + 1 => decide (j + 1 ∈ ps) || (Cl cells ps j && decide (cellAt' cells j = anyP))
theorem closedN_eq (cells : List Str) (ps : List Nat) : ∀ k, closedN cells ps k = (List.range k).filter (Cl cells ps)
  | 0 => rfl
  | k + 1 => by
    have ih := closedN_eq cells ps k
    show (if closeT cells ps (closedN cells ps k) k then closedN cells ps k ++ [k] else closedN cells ps k) = _
    have hc : closeT cells ps (closedN cells ps k) k = Cl cells ps k := by
      unfold closeT
      rw [ih]
      cases k with
      | zero =>
        show (decide (0 ∈ ps) || (decide (0 < 0) && _ && _)) = decide (0 ∈ ps)
        simp
      | succ j =>
        show (decide (j + 1 ∈ ps) || (decide (0 < j + 1) && decide (j ∈ (List.range (j + 1)).filter (Cl cells ps)) && decide (cellAt' cells j = anyP))) = (decide (j + 1 ∈ ps) || (Cl cells ps j && decide (cellAt' cells j = anyP)))
        congr 2
        rw [decide_eq_true (by omega : 0 < j + 1), Bool.true_and]
        by_cases h : Cl cells ps j = true
        · rw [h]
          exact decide_eq_true (List.mem_filter.mpr ⟨List.mem_range.mpr (by omega), h⟩)
        · have hf : Cl cells ps j = false := by simpa using h
          rw [hf]
          exact decide_eq_false fun w' => h (List.mem_filter.mp w').2
    rw [hc, ih, List.range_succ, List.filter_append]
    by_cases h : Cl cells ps k = true
    · rw [if_pos h]
      simp [h]
    · rw [if_neg h]
      simp [h]
theorem closed_eq (cells : List Str) (ps : List Nat) : closedM cells ps = (List.range (cells.length + 1)).filter (Cl cells ps) := closedN_eq cells ps _
/-- cells: single signs and the three others -/
def Cells (cells : List Str) : Prop := ∀ c ∈ cells, isOpen c = true ∨ ∃ x : Nat, c = ⟨#[x]⟩
theorem Cells.at {cells : List Str} (h : Cells cells) {k : Nat} (hk : k < cells.length) : isOpen (cellAt' cells k) = true ∨ ∃ x : Nat, cellAt' cells k = ⟨#[x]⟩ := h _ (List.mem_of_getElem? (cellAt_get hk))
theorem sign_not_open {x : Nat} : isOpen ⟨#[x]⟩ = false := by
  cases h : isOpen ⟨#[x]⟩ with
  | false => rfl
  | true =>
    rcases isOpen_iff.mp h with e | e | e
    · have := congrArg Str.length e
      exact absurd this (by
        rw [show digP.length = 8 by decide +kernel]
        show ¬ (1 : Nat) = 8
        decide)
    · have := congrArg Str.length e
      exact absurd this (by
        rw [show wordP.length = 6 by decide +kernel]
        show ¬ (1 : Nat) = 6
        decide)
    · have := congrArg Str.length e
      exact absurd this (by
        rw [show anyP.length = 5 by decide +kernel]
        show ¬ (1 : Nat) = 5
        decide)
theorem any_ne_dig : anyP ≠ digP := by decide +kernel
theorem any_ne_word : anyP ≠ wordP := by decide +kernel
theorem dig_ne_word : digP ≠ wordP := by decide +kernel
theorem sign_ne {x : Nat} {p : Str} (h : isOpen p = true) : (⟨#[x]⟩ : Str) ≠ p := fun e => by
  have := sign_not_open (x := x)
  rw [e, h] at this
  cases this
/-- what takes one sign -/
theorem takes_rep {p : Str} {c : Nat} (h : p = digP ∨ p = wordP) : takesM p c = ltakes p c := by
  rcases h with rfl | rfl
  · unfold takesM ltakes
    rw [if_pos rfl, if_pos rfl]
  · unfold takesM ltakes
    rw [if_neg (Ne.symm dig_ne_word), if_pos rfl, if_neg (Ne.symm dig_ne_word), decide_eq_true rfl, Bool.true_and]
theorem takes_sign {x c : Nat} : takesM ⟨#[x]⟩ c = decide (x = c) := by
  unfold takesM
  rw [if_neg (sign_ne open_dig), if_neg (sign_ne open_word)]
  by_cases h : x = c
  · subst h
    simp
  · rw [decide_eq_false h, decide_eq_false]
    intro e
    have := congrArg (fun s : Str => s.cps.toList) e
    exact h (by simpa using this)
theorem takes_any {c : Nat} : takesM anyP c = false := by
  unfold takesM
  rw [if_neg any_ne_dig, if_neg any_ne_word]
  exact decide_eq_false fun e => sign_ne open_any e.symm
/-- a piece that ends with the sign c -/
theorem piece_any {v : List Nat} : piece anyP v := by
  unfold piece
  rw [if_pos rfl]
  trivial
theorem piece_rep {p : Str} (h : p = digP ∨ p = wordP) {v : List Nat} : piece p v ↔ v ≠ [] ∧ ∀ c ∈ v, ltakes p c = true := by
  unfold piece
  rw [if_neg (by
    rcases h with rfl | rfl
    · exact Ne.symm any_ne_dig
    · exact Ne.symm any_ne_word), if_pos h]
theorem piece_sign {x : Nat} {v : List Nat} : piece ⟨#[x]⟩ v ↔ v = [x] := by
  unfold piece
  rw [if_neg (sign_ne open_any), if_neg (fun h => h.elim (sign_ne open_dig) (sign_ne open_word))]
theorem piece_nil {p : Str} (h : isOpen p = true ∨ ∃ x : Nat, p = ⟨#[x]⟩) : piece p [] ↔ p = anyP := by
  constructor
  · intro q
    rcases h with h | ⟨x, rfl⟩
    · rcases isOpen_iff.mp h with e | e | e
      · exact absurd rfl ((piece_rep (.inl e)).mp q).1
      · exact absurd rfl ((piece_rep (.inr e)).mp q).1
      · exact e
    · have := piece_sign.mp q
      cases this
  · rintro rfl
    exact piece_any
/-- where a text may stand: just behind its pieces, or within any signs -/
def At (cells : List Str) (t : List Nat) (k : Nat) : Prop := Mk cells k t ∨ (k < cells.length ∧ cellAt' cells k = anyP ∧ Mk cells (k + 1) t)
theorem mk_any {cells : List Str} {k : Nat} {t : List Nat} (h : Mk cells k t) (ha : cellAt' cells k = anyP) : Mk cells (k + 1) t := ⟨t, [], (List.append_nil t).symm, h, by rw [ha]; exact piece_any⟩
theorem mk_more {cells : List Str} {k : Nat} {t w' : List Nat} (h : Mk cells (k + 1) t) (ha : cellAt' cells k = anyP) : Mk cells (k + 1) (t ++ w') := by
  obtain ⟨u, v, rfl, hu, _⟩ := h
  exact ⟨u, v ++ w', List.append_assoc _ _ _, hu, by rw [ha]; exact piece_any⟩
theorem at_closed {cells : List Str} {k : Nat} {t : List Nat} (h : At cells t k) (ha : cellAt' cells k = anyP) : At cells t (k + 1) := by
  rcases h with h | ⟨_, _, h⟩
  · exact .inl (mk_any h ha)
  · exact .inl h
theorem mk_nil {cells : List Str} (hc : Cells cells) : ∀ k, k ≤ cells.length → (Mk cells k [] ↔ ∀ j, j < k → cellAt' cells j = anyP)
  | 0, _ => by
    constructor
    · intro _ j hj
      omega
    · intro _
      rfl
  | k + 1, hk => by
    have ih := mk_nil hc k (by omega)
    constructor
    · rintro ⟨u, v, e, hu, hv⟩
      obtain ⟨rfl, rfl⟩ := List.append_eq_nil_iff.mp e.symm
      intro j hj
      by_cases h : j = k
      · subst h
        exact (piece_nil (hc.at (by omega))).mp hv
      · exact ih.mp hu j (by omega)
    · intro h
      exact mk_any (ih.mpr fun j hj => h j (by omega)) (h k (by omega))
theorem at_nil {cells : List Str} (hc : Cells cells) {k : Nat} (hk : k ≤ cells.length) : At cells [] k ↔ ∀ j, j < k → cellAt' cells j = anyP := by
  constructor
  · rintro (h | ⟨h1, h2, h⟩)
    · exact (mk_nil hc k hk).mp h
    · intro j hj
      exact (mk_nil hc (k + 1) (by omega)).mp h j (by omega)
  · intro h
    exact .inl ((mk_nil hc k hk).mpr h)
theorem cl_start {cells : List Str} (hc : Cells cells) : ∀ k, k ≤ cells.length → (Cl cells [0] k = true ↔ At cells [] k)
  | 0, hk => by
    rw [at_nil hc hk]
    show decide (0 ∈ [0]) = true ↔ _
    simp
  | k + 1, hk => by
    have ih := cl_start hc k (by omega)
    rw [at_nil hc (by omega)] at ih
    rw [at_nil hc hk]
    show (decide (k + 1 ∈ [0]) || (Cl cells [0] k && decide (cellAt' cells k = anyP))) = true ↔ _
    rw [show decide (k + 1 ∈ [0]) = false by simp, Bool.false_or, Bool.and_eq_true, ih, decide_eq_true_eq]
    constructor
    · rintro ⟨h1, h2⟩ j hj
      by_cases h : j = k
      · subst h
        exact h2
      · exact h1 j (by omega)
    · intro h
      exact ⟨fun j hj => h j (by omega), h k (by omega)⟩
theorem rawB_mem {cells : List Str} {c : Nat} {acc : List Nat} {k j : Nat} : j ∈ rawB cells c acc k ↔ j ∈ acc ∨ (k < cells.length ∧ cellAt' cells k = anyP ∧ j = k) ∨ (k < cells.length ∧ cellAt' cells k ≠ anyP ∧ takesM (cellAt' cells k) c = true ∧ j = k + 1)
    ∨ (0 < k ∧ (cellAt' cells (k - 1) = digP ∨ cellAt' cells (k - 1) = wordP) ∧ takesM (cellAt' cells (k - 1)) c = true ∧ j = k) := by
  have hA : j ∈ rawA cells c acc k ↔ j ∈ acc ∨ (k < cells.length ∧ cellAt' cells k = anyP ∧ j = k) ∨ (k < cells.length ∧ cellAt' cells k ≠ anyP ∧ takesM (cellAt' cells k) c = true ∧ j = k + 1) := by
    unfold rawA
    by_cases h1 : k < cells.length
    · by_cases h2 : cellAt' cells k = anyP
      · rw [if_pos (by simp [h1, h2])]
        simp [h1, h2]
      · rw [if_neg (by simp [h2])]
        by_cases h3 : takesM (cellAt' cells k) c = true
        · rw [if_pos (by simp [h1, h3])]
          simp [h1, h2, h3]
        · rw [if_neg (by simp [h3])]
          simp [h2, h3]
    · rw [if_neg (by simp [h1]), if_neg (by simp [h1])]
      simp [h1]
  have hT : rawT cells c k = true ↔ 0 < k ∧ (cellAt' cells (k - 1) = digP ∨ cellAt' cells (k - 1) = wordP) ∧ takesM (cellAt' cells (k - 1)) c = true := by
    unfold rawT
    simp only [Bool.and_eq_true, Bool.or_eq_true, decide_eq_true_eq]
    exact and_assoc
  unfold rawB
  by_cases h : rawT cells c k = true
  · rw [if_pos h, List.mem_append, hA, List.mem_singleton]
    have h' := hT.mp h
    constructor
    · rintro ((h1 | h1) | h1)
      · exact .inl h1
      · rcases h1 with h1 | h1
        · exact .inr (.inl h1)
        · exact .inr (.inr (.inl h1))
      · exact .inr (.inr (.inr ⟨h'.1, h'.2.1, h'.2.2, h1⟩))
    · rintro (h1 | h1 | h1 | h1)
      · exact .inl (.inl h1)
      · exact .inl (.inr (.inl h1))
      · exact .inl (.inr (.inr h1))
      · exact .inr h1.2.2.2
  · rw [if_neg h, hA]
    constructor
    · rintro (h1 | h1 | h1)
      · exact .inl h1
      · exact .inr (.inl h1)
      · exact .inr (.inr (.inl h1))
    · rintro (h1 | h1 | h1 | h1)
      · exact .inl h1
      · exact .inr (.inl h1)
      · exact .inr (.inr h1)
      · exact absurd (hT.mpr ⟨h1.1, h1.2.1, h1.2.2.1⟩) h
theorem raw_fold {cells : List Str} {c : Nat} {j : Nat} : ∀ (ps acc : List Nat), j ∈ ps.foldl (rawB cells c) acc ↔ j ∈ acc ∨ ∃ k ∈ ps, j ∈ rawB cells c [] k
  | [], acc => by simp
  | k :: r, acc => by
    rw [List.foldl_cons, raw_fold r]
    have h1 := rawB_mem (cells := cells) (c := c) (acc := acc) (k := k) (j := j)
    have h2 := rawB_mem (cells := cells) (c := c) (acc := []) (k := k) (j := j)
    rw [h1]
    constructor
    · rintro ((h | h) | ⟨b, hb, h⟩)
      · exact .inl h
      · exact .inr ⟨k, List.mem_cons_self, h2.mpr (.inr h)⟩
      · exact .inr ⟨b, List.mem_cons_of_mem _ hb, h⟩
    · rintro (h | ⟨b, hb, h⟩)
      · exact .inl (.inl h)
      · rcases List.mem_cons.mp hb with rfl | hb
        · rcases h2.mp h with h | h
          · cases h
          · exact .inl (.inr h)
        · exact .inr ⟨b, hb, h⟩
theorem raw_mem {cells : List Str} {c : Nat} {ps : List Nat} {j : Nat} : j ∈ rawM cells c ps ↔ ∃ k ∈ ps, (k < cells.length ∧ cellAt' cells k = anyP ∧ j = k) ∨ (k < cells.length ∧ cellAt' cells k ≠ anyP ∧ takesM (cellAt' cells k) c = true ∧ j = k + 1)
    ∨ (0 < k ∧ (cellAt' cells (k - 1) = digP ∨ cellAt' cells (k - 1) = wordP) ∧ takesM (cellAt' cells (k - 1)) c = true ∧ j = k) := by
  unfold rawM
  rw [raw_fold]
  constructor
  · rintro (h | ⟨k, hk, h⟩)
    · cases h
    · rcases rawB_mem.mp h with h | h
      · cases h
      · exact ⟨k, hk, h⟩
  · rintro ⟨k, hk, h⟩
    exact .inr ⟨k, hk, rawB_mem.mpr (.inr h)⟩
/-- a cell that is not any signs and takes c: one position on -/
theorem piece_one {p : Str} {c : Nat} (h : isOpen p = true ∨ ∃ x : Nat, p = ⟨#[x]⟩) (ht : takesM p c = true) : piece p [c] := by
  rcases h with h | ⟨x, rfl⟩
  · rcases isOpen_iff.mp h with e | e | e
    · refine (piece_rep (.inl e)).mpr ⟨by simp, fun d hd => ?_⟩
      rw [List.mem_singleton.mp hd, ← takes_rep (.inl e)]
      exact ht
    · refine (piece_rep (.inr e)).mpr ⟨by simp, fun d hd => ?_⟩
      rw [List.mem_singleton.mp hd, ← takes_rep (.inr e)]
      exact ht
    · rw [e, takes_any] at ht
      cases ht
  · rw [takes_sign] at ht
    rw [of_decide_eq_true ht]
    exact piece_sign.mpr rfl
/-- one sign more moves the positions as the pieces say -/
theorem cl_step {cells : List Str} (hc : Cells cells) {t : List Nat} {c : Nat} {S : List Nat} (hS : ∀ k, k ∈ S ↔ k ≤ cells.length ∧ At cells t k) : ∀ k, k ≤ cells.length → (Cl cells (rawM cells c S) k = true ↔ At cells (t ++ [c]) k) := by
  -- what a position gives
  have sound : ∀ j, j ≤ cells.length → j ∈ rawM cells c S → At cells (t ++ [c]) j := by
    intro j hj h
    obtain ⟨k, hk, h⟩ := raw_mem.mp h
    obtain ⟨hkn, hA⟩ := (hS k).mp hk
    rcases h with ⟨h1, h2, rfl⟩ | ⟨h1, h2, h3, rfl⟩ | ⟨h1, h2, h3, rfl⟩
    · rcases hA with hA | ⟨_, _, hA⟩
      · exact .inr ⟨h1, h2, mk_more (mk_any hA h2) h2⟩
      · exact .inr ⟨h1, h2, mk_more hA h2⟩
    · rcases hA with hA | ⟨_, h4, _⟩
      · exact .inl ⟨t, [c], rfl, hA, piece_one (hc.at h1) h3⟩
      · exact absurd h4 h2
    · rcases hA with hA | ⟨h4, h5, hA⟩
      · obtain ⟨m, rfl⟩ : ∃ m, j = m + 1 := ⟨j - 1, by omega⟩
        obtain ⟨u, v, rfl, hu, hv⟩ := hA
        have e : m + 1 - 1 = m := by omega
        rw [e] at h2 h3
        have hv' := (piece_rep h2).mp hv
        refine .inl ⟨u, v ++ [c], List.append_assoc _ _ _, hu, (piece_rep h2).mpr ⟨by simp, fun d hd => ?_⟩⟩
        rcases List.mem_append.mp hd with hd | hd
        · exact hv'.2 d hd
        · rw [List.mem_singleton.mp hd, ← takes_rep h2]
          exact h3
      · exact .inr ⟨h4, h5, mk_more hA h5⟩
  -- a text that ends with c is there
  have whole : ∀ k, k ≤ cells.length → Mk cells k (t ++ [c]) → Cl cells (rawM cells c S) k = true := by
    intro k
    induction k with
    | zero =>
      intro _ h
      have : t ++ [c] = [] := h
      simp at this
    | succ m ih =>
      rintro hk ⟨u, v, e, hu, hv⟩
      show (decide (m + 1 ∈ rawM cells c S) || (Cl cells (rawM cells c S) m && decide (cellAt' cells m = anyP))) = true
      rcases List.eq_nil_or_concat v with rfl | ⟨v', d, rfl⟩
      · -- an empty piece: any signs
        have ha := (piece_nil (hc.at (by omega))).mp hv
        rw [List.append_nil] at e
        rw [ih (by omega) (e ▸ hu), decide_eq_true ha]
        simp
      · rw [List.concat_eq_append] at e hv
        rw [← List.append_assoc] at e
        obtain ⟨e1, e2⟩ := List.append_inj' e rfl
        have ed : d = c := by simpa using e2.symm
        subst ed
        rcases hc.at (show m < cells.length by omega) with ho | ⟨x, hx⟩
        · rcases isOpen_iff.mp ho with hp | hp | hp
          all_goals first
            | (have hr : cellAt' cells m = digP ∨ cellAt' cells m = wordP := by first | exact .inl hp | exact .inr hp
               have hv2 := (piece_rep hr).mp hv
               have htk : takesM (cellAt' cells m) d = true := by
                 rw [takes_rep hr]
                 exact hv2.2 d (by simp)
               have hin : m + 1 ∈ rawM cells d S := by
                 cases v' with
                 | nil =>
                   refine raw_mem.mpr ⟨m, (hS m).mpr ⟨by omega, .inl ?_⟩, .inr (.inl ⟨by omega, fun z => ?_, htk, rfl⟩)⟩
                   · rw [e1, List.append_nil]
                     exact hu
                   · rw [z] at hr
                     exact hr.elim any_ne_dig any_ne_word
                 | cons y r =>
                   refine raw_mem.mpr ⟨m + 1, (hS (m + 1)).mpr ⟨hk, .inl ⟨u, y :: r, e1, hu, (piece_rep hr).mpr ⟨by simp, fun z hz => hv2.2 z (List.mem_append_left _ hz)⟩⟩⟩, .inr (.inr ⟨by omega, hr, htk, rfl⟩)⟩
               rw [decide_eq_true hin]
               rfl)
            | (have hm : m ∈ S := (hS m).mpr ⟨by omega, .inr ⟨by omega, hp, u, v', e1, hu, by rw [hp]; exact piece_any⟩⟩
               have hin : m ∈ rawM cells d S := raw_mem.mpr ⟨m, hm, .inl ⟨by omega, hp, rfl⟩⟩
               have hcl : Cl cells (rawM cells d S) m = true := by
                 cases m with
                 | zero => exact decide_eq_true hin
                 | succ m' =>
                   show (decide (m' + 1 ∈ rawM cells d S) || _) = true
                   rw [decide_eq_true hin]
                   rfl
               rw [hcl, decide_eq_true hp]
               simp)
        · rw [hx] at hv
          have hv2 := piece_sign.mp hv
          have hv3 : v' = [] ∧ d = x := by
            cases v' with
            | nil => exact ⟨rfl, by simpa using hv2⟩
            | cons y r =>
              have := congrArg List.length hv2
              simp at this
          obtain ⟨rfl, rfl⟩ := hv3
          have hin : m + 1 ∈ rawM cells d S := raw_mem.mpr ⟨m, (hS m).mpr ⟨by omega, .inl (by rw [e1, List.append_nil]; exact hu)⟩, .inr (.inl ⟨by omega, by rw [hx]; exact sign_ne open_any, by rw [hx, takes_sign]; exact decide_eq_true rfl, rfl⟩)⟩
          rw [decide_eq_true hin]
          rfl
  intro k
  induction k with
  | zero =>
    intro hk
    show decide (0 ∈ rawM cells c S) = true ↔ _
    rw [decide_eq_true_eq]
    constructor
    · exact sound 0 hk
    · rintro (h | ⟨h1, h2, h⟩)
      · have := whole 0 hk h
        exact of_decide_eq_true this
      · obtain ⟨u, v, e, hu, hv⟩ := h
        have hu' : u = [] := hu
        subst hu'
        refine raw_mem.mpr ⟨0, (hS 0).mpr ⟨hk, ?_⟩, .inl ⟨h1, h2, rfl⟩⟩
        refine .inr ⟨h1, h2, [], t, rfl, rfl, by rw [h2]; exact piece_any⟩
  | succ m ih =>
    intro hk
    have ih := ih (by omega)
    constructor
    · intro h
      have h' : (decide (m + 1 ∈ rawM cells c S) || (Cl cells (rawM cells c S) m && decide (cellAt' cells m = anyP))) = true := h
      rcases Bool.or_eq_true _ _ ▸ h' with h' | h'
      · exact sound _ hk (of_decide_eq_true h')
      · obtain ⟨h1, h2⟩ := Bool.and_eq_true _ _ ▸ h'
        exact at_closed (ih.mp h1) (of_decide_eq_true h2)
    · rintro (h | ⟨h1, h2, h⟩)
      · exact whole _ hk h
      · obtain ⟨u, v, e, hu, hv⟩ := h
        rcases List.eq_nil_or_concat v with rfl | ⟨v', d, rfl⟩
        · rw [List.append_nil] at e
          exact whole _ hk (e ▸ hu)
        · rw [List.concat_eq_append, ← List.append_assoc] at e
          obtain ⟨e1, e2⟩ := List.append_inj' e rfl
          have hm : m + 1 ∈ S := (hS _).mpr ⟨hk, .inr ⟨h1, h2, u, v', e1, hu, by rw [h2]; exact piece_any⟩⟩
          have hin : m + 1 ∈ rawM cells c S := raw_mem.mpr ⟨m + 1, hm, .inl ⟨h1, h2, rfl⟩⟩
          show (decide (m + 1 ∈ rawM cells c S) || _) = true
          rw [decide_eq_true hin]
          rfl
/-- the positions behind a text -/
def state (cells : List Str) (t : List Nat) : List Nat := t.foldl (movedM cells) (startedM cells)
theorem state_snoc (cells : List Str) (t : List Nat) (c : Nat) : state cells (t ++ [c]) = movedM cells (state cells t) c := by
  unfold state
  rw [List.foldl_append]
  rfl
theorem state_mem {cells : List Str} (hc : Cells cells) (t : List Nat) : ∀ k, k ∈ state cells t ↔ k ≤ cells.length ∧ At cells t k := by
  have key : ∀ (n : Nat) (t : List Nat), t.length = n → ∀ k, k ∈ state cells t ↔ k ≤ cells.length ∧ At cells t k := by
    intro n
    induction n with
    | zero =>
      intro t ht k
      have : t = [] := List.length_eq_zero_iff.mp ht
      subst this
      show k ∈ closedM cells [0] ↔ _
      rw [closed_eq, List.mem_filter, List.mem_range]
      constructor
      · rintro ⟨h1, h2⟩
        exact ⟨by omega, (cl_start hc k (by omega)).mp h2⟩
      · rintro ⟨h1, h2⟩
        exact ⟨by omega, (cl_start hc k h1).mpr h2⟩
    | succ n ih =>
      intro t ht k
      rcases List.eq_nil_or_concat t with rfl | ⟨u, c, rfl⟩
      · cases ht
      · rw [List.concat_eq_append] at ht ⊢
        have hu : u.length = n := by simpa using ht
        rw [state_snoc]
        show k ∈ closedM cells (rawM cells c (state cells u)) ↔ _
        rw [closed_eq, List.mem_filter, List.mem_range]
        constructor
        · rintro ⟨h1, h2⟩
          exact ⟨by omega, (cl_step hc (ih u hu) k (by omega)).mp h2⟩
        · rintro ⟨h1, h2⟩
          exact ⟨by omega, (cl_step hc (ih u hu) k h1).mpr h2⟩
  exact key t.length t rfl
/-- a state is an ascending list of numbers up to n -/
theorem state_filter (cells : List Str) (t : List Nat) : ∃ f : Nat → Bool, state cells t = (List.range (cells.length + 1)).filter f := by
  rcases List.eq_nil_or_concat t with rfl | ⟨u, c, rfl⟩
  · exact ⟨_, closed_eq cells [0]⟩
  · rw [List.concat_eq_append, state_snoc]
    exact ⟨_, closed_eq cells _⟩
theorem filter_eq {n : Nat} {f g : Nat → Bool} (h : ∀ k, k < n → (k ∈ (List.range n).filter f ↔ g k = true)) : (List.range n).filter f = (List.range n).filter g := by
  apply List.filter_congr
  intro k hk
  have h1 := h k (List.mem_range.mp hk)
  rw [List.mem_filter] at h1
  cases hf : f k with
  | true => rw [(h1.mp ⟨hk, hf⟩)]
  | false =>
    cases hg : g k with
    | false => rfl
    | true =>
      have := (h1.mpr hg).2
      rw [hf] at this
      cases this

/-! ### slices of lists; states' lengths -/
theorem cutV_lt {xs : List V} {b : Nat} : cutV xs none (some (b : Int)) = xs.take b := by
  unfold cutV
  rw [HT.sIx_none, HT.sIx_nat, List.drop_zero, Nat.sub_zero]
  by_cases h : b ≤ xs.length
  · rw [Nat.min_eq_left h]
  · rw [Nat.min_eq_right (by omega), List.take_of_length_le (Nat.le_refl _), List.take_of_length_le (by omega)]
theorem cutV_in {xs : List V} {a b : Nat} : cutV xs (some (a : Int)) (some (b : Int)) = (xs.drop a).take (b - a) := by
  unfold cutV
  rw [HT.sIx_nat, HT.sIx_nat]
  by_cases h : a ≤ xs.length
  · rw [Nat.min_eq_left h]
    by_cases h2 : b ≤ xs.length
    · rw [Nat.min_eq_left h2]
    · rw [Nat.min_eq_right (by omega), List.take_of_length_le (by rw [List.length_drop]; exact Nat.le_refl _), List.take_of_length_le (by rw [List.length_drop]; omega)]
  · rw [Nat.min_eq_right (by omega : xs.length ≤ a), List.drop_of_length_le (Nat.le_refl _), List.drop_of_length_le (by omega)]
    simp

theorem signs_cells {ps : List Str} (h : Parts ps) : Cells (cellsM ps) ∧ ∀ c ∈ cellsM ps, c.length ≤ 1000 ∧ okV (.str c) = true := by
  have key : ∀ qs : List Str, (∀ p ∈ qs, isOpen p = true ∨ fixedP p) → ∀ c ∈ cellsM qs, (isOpen c = true ∨ ∃ x : Nat, c = ⟨#[x]⟩) ∧ c.length ≤ 1000 ∧ okV (.str c) = true := by
    intro qs
    induction qs with
    | nil =>
      intro _ c hc
      cases hc
    | cons p qs ih =>
      intro hq c hc
      rcases List.mem_append.mp (show c ∈ cellOf1 p ++ cellsM qs from hc) with hc | hc
      · unfold cellOf1 at hc
        by_cases ho : isOpen p = true
        · rw [if_pos ho, List.mem_singleton] at hc
          subst hc
          have := open_len ho
          exact ⟨.inl ho, by omega, open_ok ho⟩
        · rw [if_neg ho] at hc
          have hf : fixedP p := (hq p List.mem_cons_self).resolve_left ho
          obtain ⟨x, hx, rfl⟩ := List.mem_map.mp hc
          have := sign_lt (hf.1 x hx)
          exact ⟨.inr ⟨x, rfl⟩, by show (1 : Nat) ≤ 1000; decide, okV_str1 (by omega)⟩
      · exact ih (fun q h => hq q (List.mem_cons_of_mem _ h)) c hc
  exact ⟨fun c hc => (key ps h.each c hc).1, fun c hc => (key ps h.each c hc).2⟩
theorem state_len (cells : List Str) (t : List Nat) : (state cells t).length ≤ cells.length + 1 := by
  obtain ⟨f, hf⟩ := state_filter cells t
  rw [hf]
  have := List.length_filter_le f (List.range (cells.length + 1))
  rw [List.length_range] at this
  exact this
theorem okV_ns (ps : List Nat) : ∀ v ∈ ps.map vN, okV v = true := fun v h => by
  obtain ⟨i, _, rfl⟩ := List.mem_map.mp h
  rfl
theorem eqF_ns (xs ys : List Nat) : eqF (xs.map vN) (ys.map vN) = decide (xs = ys) := by
  have h := eqF_ints (xs.map fun k : Nat => (k : Int)) (ys.map fun k : Nat => (k : Int))
  rw [List.map_map, List.map_map] at h
  rw [show xs.map vN = xs.map (V.int ∘ fun k : Nat => (k : Int)) from rfl, show ys.map vN = ys.map (V.int ∘ fun k : Nat => (k : Int)) from rfl, h]
  congr 1
  apply propext
  constructor
  · intro e
    exact (List.map_inj_right fun a b h => by omega).mp e
  · intro e
    rw [e]
/-- a new object that stands beside the pool -/
theorem fresh_ne {p l : Addr} {H : Hp} {o : HO} (hp : H p = some o) (hl : H l = none) : l ≠ p := fun z => by
  rw [z, hp] at hl
  cases hl

/-! ### Form: made of parts that are allowed, told, asked -/
theorem tup_at {xs : List V} {k : Nat} {v : V} (h : xs[k]? = some v) : atI xs (k : Int) = some v := by
  have hk := (List.getElem?_eq_some_iff.mp h).1
  unfold atI ixN
  rw [if_pos (by omega), if_pos (by omega)]
  exact h

theorem str_get {ps : List Str} {k : Nat} {p : Str} (h : ps[k]? = some p) : (ps.map V.str)[k]? = some (.str p) := by
  rw [List.getElem?_map, h]
  rfl
/-- of parts that make a form each one is allowed where it stands -/
def spAllowed (K : PySem.W.Frag) : Sp := fun vs H Q _ => ∃ (t : Addr) (ps : List Str) (i : Nat), vs = [.ref t, .int (i : Int)] ∧ SqT K H t (ps.map V.str) ∧ Parts ps ∧ ps.length ≤ 4 ∧ i < ps.length ∧ RetV (.bl true) H Q
theorem ok__is_allowed {f : Addr} {fd : FuncData} (F : Fun K "_is_allowed" "_is_allowed" s__is_allowed f fd) (T : Txt K mg a_FIELDS a_OPEN_PARTS C_Form C_GlueError C_NoRule C_Rule) (D_is_line : Df P w K mg base "is_line" ["thing"] 1 (spIsLine K)) : FnOk P w K mg base CX0 2 f fd ["parts", "at"] (spAllowed K) := by
  refine F.ok sc__is_allowed (fun vs H Q E h => ?_) (fun cdv A outer s0 H vs Q E hr h => ?_)
  · obtain ⟨t, ps, i, rfl, _⟩ := h
    rfl
  · obtain ⟨t, ps, i, rfl, hT, hP, h4, hi, q⟩ := h
    refine ⟨_, (pss_cons (ps_set (i := 2) sc__is_allowed.nd rfl (Or.inl rfl) (pe_ix ix_tup (pv 0) (pv 1) (fun _ _ => rfl)))
      (pss_cons (ps_if (PW.pt (pw_or (pt_cmpR op_ge (pv 1) (pe_cst T.c_MOST_PARTS (by rfl)) (nomark _)) (pw_or1 (pt_not (pt_val (pe_callB call_isi (by rfl) T.n_isinstance (by decide +kernel) (pa_cons (pv 2) (pa_cons (pe_bltn (v := .ty "str") (by rfl) T.n_str (by decide +kernel) rfl) pa_nil))))))))
      (pss_one (ps_ret pe_bl))
      pss_nil)
      (pss_cons (ps_if (pt_cmpR op_eq (pv 2) (pe_cst T.c_ANY_SIGNS (by rfl)) (nomark _))
      (pss_one (ps_ret (pe_cmpR op_notIn_seq (pv 2) (pe_slice sl_tup (pv 0) po_none (po_some (pv 1))) (by rfl))))
      pss_nil)
      (pss_cons (ps_if (pt_cmpR op_in_seq (pv 2) (pe_cst T.c_OPEN_PARTS (by rfl)) (by rfl))
      (pss_one (ps_ret pe_bl))
      pss_nil)
      (pss_cons (ps_if (PW.pt (pw_and (pt_cmpR op_gt (pv 1) pe_int (nomark _)) (pw_and1 (pt_cmpR op_notIn_seq (pe_ix ix_tup (pv 0) (pe_op op_sub (pv 1) pe_int) (fun _ _ => rfl)) (pe_cst T.c_OPEN_PARTS (by rfl)) (by rfl)))))
      (pss_one (ps_ret pe_bl))
      pss_nil)
      (pss_one (ps_ret (pe_and (pe_df D_is_line (hr.mono (by decide)) (by rfl) (pa_cons (pv 2) pa_nil)) (pe_one (pe_cmpR op_le (pe_callB call_len_str (by rfl) T.n_len PySem.boot_len (pa_cons (pv 2) pa_nil)) (pe_cst T.c_MOST_SIGNS (by rfl)) (nomark _))))))))))), ?_⟩
    have hp := cellAt_get hi
    generalize cellAt' ps i = p at hp
    have hpe := hP.each p (List.mem_of_getElem? hp)
    refine q_asg (ev_op (ev_var rfl) (ev_var rfl) (rv_ixT hT (tup_at (str_get hp)))) fun H1 e1 => ?_
    refine q_when (b := false) (et_is (et_or (et_test (ev_op (ev_var rfl) ev_c rv_I0)) fun _ => et_not (et_B (ev_isi (ev_var rfl) (.base (.str p)) (b := true) (by decide +kernel)))) (by rw [decide_eq_false (by omega)]; rfl)) (fun z => by cases z) (fun _ H2 e2 => ?_)
    have hT2 := ex_t (e1.trans e2) hT
    refine q_when (b := decide (p = anyP)) (et_test (ev_op (ev_var rfl) ev_c rv_eqS)) (fun hb H3 e3 => ?_) (fun hb H3 e3 => ?_)
    · have hpa := of_decide_eq_true hb
      subst hpa
      have hno : anyP ∉ ps.take i := fun hm => by
        obtain ⟨j, hj⟩ := List.mem_iff_getElem?.mp hm
        have hji : j < i := by
          have := (List.getElem?_eq_some_iff.mp hj).1
          rw [List.length_take] at this
          omega
        rw [List.getElem?_take_of_lt hji] at hj
        have := hP.one j i hj hp
        omega
      refine s_ret (v := .bl (!inV (.str anyP) ((ps.take i).map V.str))) (fun H4 e4 Q' q' => ?_) fun H4 e4 => ?_
      · refine ⟨_, rfl, _, rfl, _, rfl, _, rfl, t, ps.map V.str, rfl, ex_t (e3.trans e4) hT2, ?_, fun r hr0 => ?_⟩
        · rintro ⟨_, he⟩
          rw [HT.sIx_nat, List.length_map] at he
          omega
        · refine ⟨r, _, rfl, .inr (st_of upd_same), rfl, ?_, ?_⟩
          · rw [cutV_lt, ← List.map_take]
            exact flat_str _
          · rw [cutV_lt, ← List.map_take]
            exact q' _ (Ex.new hr0)
      · rw [inV_str, decide_eq_false hno]
        exact q H4 (((e1.trans e2).trans e3).trans e4)
    · have e13 := (e1.trans e2).trans e3
      refine q_when (b := isOpen p) (et_test (ev_op (ev_var rfl) ev_c (rv_isT T.o_OPEN_PARTS.at_ rfl rfl))) (fun hc H4 e4 => ?_) (fun hc H4 e4 => ?_)
      · exact s_ret ev_c fun H5 e5 => q H5 ((e13.trans e4).trans e5)
      · have hf : fixedP p := hpe.resolve_left (by rw [hc]; decide)
        have hT4 := ex_t (e3.trans e4) hT2
        refine q_when (b := false) (et_is (et_and (a := decide (0 < i)) (et_test (ev_is (ev_op (ev_var rfl) ev_c rv_I0) (congrArg V.bl gt_zero))) (b := false) fun hd => ?_) (by simp)) (fun z => by cases z) (fun _ H5 e5 => ?_)
        · have hi0 := of_decide_eq_true hd
          have hq := cellAt_get (ps := ps) (k := i - 1) (by omega)
          have ho : isOpen (cellAt' ps (i - 1)) = true := by
            rcases hP.adj (i - 1) _ p hq (by rw [show i - 1 + 1 = i by omega]; exact hp) with h | h
            · exact h
            · rw [h] at hc
              cases hc
          refine et_test (ev_is (ev_op (ev_op (ev_var rfl) (ev_op (ev_var rfl) ev_c rv_I0) (rv_ixT hT4 (by
            rw [show (i : Int) - 1 = ((i - 1 : Nat) : Int) by omega]
            exact tup_at (str_get hq)))) ev_c (rv_niT T.o_OPEN_PARTS.at_ rfl rfl)) ?_)
          show V.bl (!isOpen (cellAt' ps (i - 1))) = V.bl false
          rw [ho]
          rfl
        · have hln : isLn p = true := by
            unfold isLn
            have h1 := hf.2.1
            rw [decide_eq_true (by omega), Bool.true_and]
            exact List.all_eq_true.mpr fun c hc => decide_eq_true (hf.1 c hc)
          have h4' := hf.2.2
          refine s_ret (v := .bl (true && true)) (ev_andV (ev_call (z := .bl true) (ea_cons (ev_var rfl) ea_nil) fun H6 e6 Q' q' E' => ⟨_, rfl, .inl ⟨p, rfl, by omega, by rw [hln]; exact q'⟩⟩) fun _ => ev_is (ev_op (ev_lenS (ev_var rfl) (by omega)) ev_c rv_I0) (congrArg V.bl (decide_eq_true (by show (p.length : Int) ≤ 4; omega)))) fun H6 e6 => q H6 (((e13.trans e4).trans e5).trans e6)
/-- a Form of these parts -/
theorem kPC : ¬ (("_cells" : Str) = "_parts") := by decide +kernel
def formF (t c : Addr) : List (Str × V) := putF "_cells" (.ref c) (putF "_parts" (.ref t) [])
theorem formF_parts (t c : Addr) : (formF t c).lookup ("_parts" : Str) = some (.ref t) := by
  unfold formF
  rw [lookup_putF, if_neg (fun z => kPC z.symm), lookup_putF, if_pos rfl]
theorem formF_cells (t c : Addr) : (formF t c).lookup ("_cells" : Str) = some (.ref c) := by
  unfold formF
  rw [lookup_putF, if_pos rfl]
theorem formF_no (t c : Addr) {m : Str} (h1 : ¬ m = "_cells") (h2 : ¬ m = "_parts") : (formF t c).lookup m = none := by
  unfold formF
  rw [lookup_putF, if_neg h1, lookup_putF, if_neg h2]
  all_goals rfl
def FormAt (C : Addr) (H : Hp) (a : Addr) (ps : List Str) : Prop := ∃ dx t c : Addr, H a = some (.ins C dx (formF t c)) ∧ H t = some (.tup (ps.map V.str)) ∧ H c = some (.lst ((cellsM ps).map V.str))
theorem FormAt.ex {C : Addr} {H H' : Hp} {a : Addr} {ps : List Str} (h : FormAt C H a ps) (e : Ex H H') : FormAt C H' a ps := by
  obtain ⟨dx, t, c, h1, h2, h3⟩ := h
  exact ⟨dx, t, c, e _ _ h1, e _ _ h2, e _ _ h3⟩

/-- __init__, behind the star: self and the tuple of the parts -/
def spFormI (C : Addr) : Sp := fun vs H Q _ => ∃ (a t dx : Addr) (ps : List Str), vs = [.ref a, .ref t] ∧ H a = some (.ins C dx []) ∧ H t = some (.tup (ps.map V.str)) ∧ Parts ps ∧ 1 ≤ ps.length ∧ ps.length ≤ 4 ∧
  ∀ H', Ex (hide a H) H' → FormAt C H' a ps → Q .non H'
def spForm (C : Addr) : Sp := fun vs H Q E => ∃ ws rest, vs = ws ++ rest ∧ ws.length = ["self"].length ∧ rest.length ≤ sizeLine ∧ ∀ p, H p = Option.none → spFormI C (ws ++ [V.ref p]) (upd H p (.tup rest)) Q E
theorem ok_Form___init__ {f : Addr} {fd : FuncData} (F : Fun K "__init__" "Form.__init__" s_Form___init__ f fd) (T : Txt K mg a_FIELDS a_OPEN_PARTS C_Form C_GlueError C_NoRule C_Rule) (D__is_allowed : Df P w K mg base "_is_allowed" ["parts", "at"] 2 (spAllowed K)) (D_cells_of__t : Df P w K mg base "cells_of" ["parts"] 1 (spCellsT K)) :
    FnR P w K mg base CX0 3 f (spForm C_Form) := by
  obtain ⟨oc, od, kV, doc, pm, an, cdv, ct, osl, rfl, lk, hcd⟩ := F.ex
  refine fn_star (ps := ["self"]) (pv := "parts") lk hcd sc_Form___init__ cxUp_none (bind_star1 (B := fun us => bindArgs (PySem.W.fnOf "__init__" "Form.__init__" (defArgs s_Form___init__) (defBody s_Form___init__) (defScope s_Form___init__) .none kV doc pm an cdv ct) ⟨us, []⟩) (p1 := "self") (pv := "parts") (fun a => rfl) (fun a r rs => rfl)) (fun A outer s0 H vs Q E hr h => ?_)
  obtain ⟨a, t, dx, ps, rfl, ha, ht, hP, h1, h4, q⟩ := h
  refine ⟨_, ((pss_cons (ps_if (pt_cmpR op_eq (pe_callB call_len_seq (by rfl) T.n_len PySem.boot_len (pa_cons (pv 1) pa_nil)) pe_int (nomark _))
      (pss_one ps_never)
      pss_nil)
      (pss_cons (ps_for PassesOwn.never rfl (pi_range1 (by rfl) T.n_range (pa_cons (pe_callB call_len_seq (by rfl) T.n_len PySem.boot_len (pa_cons (pv 1) pa_nil)) pa_nil)) (pg_name (i := 2) sc_Form___init__.nd rfl (Or.inl rfl))
      (pss_one (ps_if (pt_not (pt_val (pe_df D__is_allowed (hr.mono (by decide)) (by rfl) (pa_cons (pv 1) (pa_cons (pv 2) pa_nil)))))
      (pss_one ps_never)
      pss_nil)))
      (pss_cons (ps_fld (pv 0) (pv 1) rfl)
      (pss_one (ps_fld (pv 0) (pe_df D_cells_of__t (hr.mono (by decide)) (by rfl) (pa_cons (pv 1) pa_nil)) rfl)))))).nox, ?_⟩
  have nat : a ≠ t := ne_of ha ht (by intro z; cases z)
  refine q_when (b := decide (((ps.map V.str).length : Int) = 0)) (et_test (ev_op (fun H1 e1 Q' q' => ⟨_, rfl, t, ps.map V.str, rfl, .inr (st_of (e1 _ _ ht)), q' H1 (Ex.refl _)⟩) ev_c rv_eqI)) (fun hb H1 e1 => ?_) (fun hb H1 e1 => ?_)
  · have := of_decide_eq_true hb
    rw [List.length_map] at this
    omega
  have ht1 := e1 _ _ ht
  refine q_forR1 (n := ((ps.map V.str).length : Int)) (fun H2 e2 Q' q' => ⟨_, rfl, t, ps.map V.str, rfl, .inr (st_of (e2 _ _ ht1)), q' H2 (Ex.refl _)⟩) (by rw [List.length_map]; omega) (fun i σ' H' => ∃ y : Option V, σ' = [some (.ref a), some (.ref t), y] ∧ Ex H1 H') (fun H2 e2 => ⟨none, rfl, e2⟩) ?_ ?_
  · rintro i σ' H2 hi ⟨y, rfl, e2⟩
    rw [List.length_map] at hi
    refine s_when (b := false) (et_is (et_not (et_B (ev_call (z := .bl true) (ea_cons (ev_var rfl) (ea_cons (ev_var rfl) ea_nil)) fun H3 e3 Q' q' E' => ⟨t, ps, i, rfl, st_of (e3 _ _ (e2 _ _ ht1)), hP, h4, by omega, q'⟩))) rfl) (fun z => by cases z) (fun _ H3 e3 => ⟨_, rfl, e2.trans e3⟩)
  · rintro σ' H2 ⟨y, rfl, e2⟩
    have ha2 := e2 _ _ (e1 _ _ ha)
    have ht2 := e2 _ _ ht1
    refine ⟨_, rfl, _, rfl, a, C_Form, dx, [], rfl, ha2, T.k_Form, T.a_Form__parts, by decide, ?_⟩
    have ht3 : upd H2 a (.ins C_Form dx (putF "_parts" (.ref t) [])) t = some (.tup (ps.map V.str)) := by
      rw [upd_ne nat.symm]
      exact ht2
    refine ⟨_, rfl, t, ps, rfl, st_of ht3, by omega, fun p hp => by have := hP.len p hp; omega, fun c H3 hc0 e3 h3 => ?_⟩
    have ha3 : H3 a = some (.ins C_Form dx (putF "_parts" (.ref t) [])) := e3 _ _ upd_same
    have nca : c ≠ a := fun z => by
      rw [z, upd_same] at hc0
      cases hc0
    refine ⟨_, rfl, a, C_Form, dx, _, rfl, ha3, T.k_Form, T.a_Form__cells, by
      have := length_putF ("_parts" : Str) (.ref t) []
      simp only [List.length_nil] at this
      omega, q _ ?_ ⟨dx, t, c, upd_same, ?_, ?_⟩⟩
    · intro b o hb
      obtain ⟨nb, hb⟩ := hide_some hb
      rw [upd_ne nb]
      exact e3 _ _ (by rw [upd_ne nb]; exact e2 _ _ (e1 _ _ hb))
    · rw [upd_ne nat.symm]
      exact e3 _ _ ht3
    · rw [upd_ne nca]
      exact h3
/-- parts() -/
def spParts (C : Addr) : Sp := fun vs H Q _ => ∃ (a : Addr) (ps : List Str), vs = [.ref a] ∧ FormAt C H a ps ∧ ∀ t H', Ex H H' → H t = some (.tup (ps.map V.str)) → Q (.ref t) H'
theorem ok_Form_parts {f : Addr} {fd : FuncData} (F : Fun K "parts" "Form.parts" s_Form_parts f fd) (T : Txt K mg a_FIELDS a_OPEN_PARTS C_Form C_GlueError C_NoRule C_Rule) : FnOk P w K mg base CX0 1 f fd ["self"] (spParts C_Form) := by
  refine F.ok sc_Form_parts (fun vs H Q E h => ?_) (fun cdv A outer s0 H vs Q E hr h => ?_)
  · obtain ⟨a, ps, rfl, _⟩ := h
    rfl
  · obtain ⟨a, ps, rfl, ⟨dx, t, c, h1, h2, h3⟩, q⟩ := h
    refine ⟨_, (pss_one (ps_ret (pe_fld (pv 0) rfl))), ?_⟩
    exact ⟨_, rfl, a, C_Form, dx, _, _, rfl, h1, T.k_Form, T.a_Form__parts, formF_parts t c, q t H (Ex.refl _) h2⟩

/-- line in form -/
def inForm (ps : List Str) (z : Str) : Bool := isLn z && decide ((cellsM ps).length ∈ state (cellsM ps) z.cps.toList)
theorem state_nil (cells : List Str) (t : List Nat) : ∀ u, state cells t = [] → state cells (t ++ u) = []
  | [], h => by rw [List.append_nil]; exact h
  | c :: u, h => by
    have e : t ++ c :: u = (t ++ [c]) ++ u := by simp
    rw [e]
    refine state_nil cells (t ++ [c]) u ?_
    rw [state_snoc, h]
    unfold movedM
    rw [closed_eq, List.filter_eq_nil_iff]
    have hr : rawM cells c [] = [] := rfl
    rw [hr]
    intro k _
    have : ∀ k, Cl cells [] k = false := by
      intro k
      induction k with
      | zero => rfl
      | succ j ih =>
        show (decide (j + 1 ∈ ([] : List Nat)) || (Cl cells [] j && decide (cellAt' cells j = anyP))) = false
        rw [ih]
        simp
    rw [this k]
    simp
theorem tFld_ev {σ : L2.St} {H : Hp} {i : Nat} {a C dx : Addr} {fs : List (Str × V)} {f : Str} {v : V} (hi : σ[i]? = some (some (.ref a))) (ha : H a = some (.ins C dx fs)) (hc : Cls K C) (hn : NoAttr K C f) (hl : fs.lookup f = some v) : Ev (tFld K (tVar i) f) σ H v := fun H1 e Q q =>
  ⟨_, hi, a, C, dx, fs, v, rfl, e _ _ ha, hc, hn, hl, q H1 (Ex.refl _)⟩
def spIn (C : Addr) : Sp := fun vs H Q _ => ∃ (a : Addr) (ps : List Str) (z : Str), vs = [.ref a, .str z] ∧ FormAt C H a ps ∧ Parts ps ∧ ps.length ≤ 4 ∧ z.length ≤ 1000 ∧ RetV (.bl (inForm ps z)) H Q
theorem ok_Form___contains__ {f : Addr} {fd : FuncData} (F : Fun K "__contains__" "Form.__contains__" s_Form___contains__ f fd) (T : Txt K mg a_FIELDS a_OPEN_PARTS C_Form C_GlueError C_NoRule C_Rule) (D_is_line : Df P w K mg base "is_line" ["thing"] 1 (spIsLine K)) (D_started : Df P w K mg base "started" ["cells"] 2 (spStarted K))
    (D_moved : Df P w K mg base "moved" ["cells", "positions", "sign"] 2 (spMoved K)) (D_is_done : Df P w K mg base "is_done" ["cells", "positions"] 1 (spIsDone K)) : FnOk P w K mg base CX0 3 f fd ["self", "line"] (spIn C_Form) := by
  refine F.ok sc_Form___contains__ (fun vs H Q E h => ?_) (fun cdv A outer s0 H vs Q E hr h => ?_)
  · obtain ⟨a, ps, z, rfl, _⟩ := h
    rfl
  · obtain ⟨a, ps, z, rfl, ⟨dx, t, c, h1, h2, h3⟩, hP, h4, hz, q⟩ := h
    refine ⟨_, (pss_cons (ps_if (pt_not (pt_val (pe_df D_is_line (hr.mono (by decide)) (by rfl) (pa_cons (pv 1) pa_nil))))
      (pss_one (ps_ret pe_bl))
      pss_nil)
      (pss_cons (ps_set (i := 2) sc_Form___contains__.nd rfl (Or.inl rfl) (pe_df D_started (hr.mono (by decide)) (by rfl) (pa_cons (pe_fld (pv 0) rfl) pa_nil)))
      (pss_cons (ps_for PassesOwn.never rfl (pi_str (pv 1)) (pg_name (i := 3) sc_Form___contains__.nd rfl (Or.inl rfl))
      (pss_cons (ps_set (i := 2) sc_Form___contains__.nd rfl (Or.inl rfl) (pe_df D_moved (hr.mono (by decide)) (by rfl) (pa_cons (pe_fld (pv 0) rfl) (pa_cons (pv 2) (pa_cons (pv 3) pa_nil)))))
      (pss_one (ps_if (pt_cmpR op_eq (pe_callB call_len_seq (by rfl) T.n_len PySem.boot_len (pa_cons (pv 2) pa_nil)) pe_int (nomark _))
      (pss_one (ps_ret pe_bl))
      pss_nil))))
      (pss_one (ps_ret (pe_df D_is_done (hr.mono (by decide)) (by rfl) (pa_cons (pe_fld (pv 0) rfl) (pa_cons (pv 2) pa_nil)))))))), ?_⟩
    unfold inForm at q
    have hcl : (cellsM ps).length ≤ 400 := by
      have := cellsM_len (ps := ps) fun p hp => by have := hP.len p hp; omega
      omega
    have hC := (signs_cells hP).1
    refine q_when (b := !isLn z) (et_not (et_B (ev_call (ea_cons (ev_var rfl) ea_nil) fun H1 e1 Q' q' E' => ⟨_, rfl, .inl ⟨z, rfl, by omega, q'⟩⟩))) (fun hb H1 e1 => ?_) (fun hb H1 e1 => ?_)
    · have hb' : isLn z = false := by
        cases h : isLn z with
        | false => rfl
        | true =>
          rw [h] at hb
          cases hb
      rw [hb'] at q
      exact s_ret ev_c fun H2 e2 => q H2 (e1.trans e2)
    have hb' : isLn z = true := by
      cases h : isLn z with
      | true => rfl
      | false =>
        rw [h] at hb
        cases hb
    rw [hb', Bool.true_and] at q
    have cellsE : ∀ {σ : L2.St} {H'} (_ : Ex H H') (i0 : σ[0]? = some (some (.ref a))), Ev (tFld K (tVar 0) "_cells") σ H' (.ref c) := fun e i0 => tFld_ev i0 (e _ _ h1) T.k_Form T.a_Form__cells (formF_cells t c)
    refine q_asgU (xs := (state (cellsM ps) []).map vN) (fun H2 e2 Q' q' => cellsE (e1.trans e2) rfl H2 (Ex.refl _) _ fun H3 e3 => ⟨c, cellsM ps, rfl, sq_of (e3 _ _ (e2 _ _ (e1 _ _ h3))), by omega, fun p H4 hp e4 h4' => q' p H4 (fresh_back e3 hp) (e3.trans e4) h4'⟩) fun he H2 he0 e2 h2' => ?_
    have e12 := e1.trans e2
    refine q_forS (zt := z) (ev_var rfl) (fun i σ' H' => ∃ (he : Addr) (y : Option V), σ' = [some (.ref a), some (.str z), some (.ref he), y] ∧ Ex H H' ∧ H' he = some (.tup ((state (cellsM ps) (z.cps.toList.take i)).map vN))) (fun H3 e3 => ⟨he, none, rfl, e12.trans e3, e3 _ _ h2'⟩) ?_ ?_
    · rintro i x σ' H3 hx ⟨he, y, rfl, e3, h3'⟩
      have hx' : z.cps.toList[i]? = some x := by
        rw [← hx]
        simp
      have hst : state (cellsM ps) (z.cps.toList.take (i + 1)) = movedM (cellsM ps) (state (cellsM ps) (z.cps.toList.take i)) x := by
        rw [List.take_add_one, hx', ← state_snoc]
        rfl
      have hsl := state_len (cellsM ps) (z.cps.toList.take i)
      refine q_asgU (xs := (state (cellsM ps) (z.cps.toList.take (i + 1))).map vN) (eu_call (ea_cons (cellsE e3 rfl) (ea_cons (ev_var rfl) (ea_cons (ev_var rfl) ea_nil))) fun H5 e5 Q' q' E' => ⟨c, he, cellsM ps, state (cellsM ps) (z.cps.toList.take i), x, rfl, sq_of (e5 _ _ (e3 _ _ h3)), st_of (e5 _ _ h3'), by omega, by omega, fun k hk => ((state_mem hC _ k).mp hk).1, by
        rw [hst] at q'
        exact q'⟩) fun he' H4 he0' e4 h4' => ?_
      have ht4 := h4'
      generalize hS : state (cellsM ps) (z.cps.toList.take (i + 1)) = S at ht4
      refine s_when (b := decide (((S.map vN).length : Int) = 0)) (et_test (ev_op (fun H5 e5 Q' q' => ⟨_, rfl, he', S.map vN, rfl, .inr (st_of (e5 _ _ ht4)), q' H5 (Ex.refl _)⟩) ev_c rv_eqI)) (fun hc H5 e5 => ?_) (fun hc H5 e5 => ⟨he', _, rfl, (e3.trans e4).trans e5, e5 _ _ ht4⟩)
      have hS0 : S = [] := by
        have := of_decide_eq_true hc
        rw [List.length_map] at this
        exact List.length_eq_zero_iff.mp (by omega)
      rw [hS0] at hS
      have hfin : state (cellsM ps) z.cps.toList = [] := by
        have := state_nil (cellsM ps) (z.cps.toList.take (i + 1)) (z.cps.toList.drop (i + 1)) hS
        rw [List.take_append_drop] at this
        exact this
      rw [hfin] at q
      exact s_ret ev_c fun H6 e6 => q H6 (((e3.trans e4).trans e5).trans e6)
    · rintro σ' H3 ⟨he, y, rfl, e3, h3'⟩
      have e0 : z.cps.size = z.cps.toList.length := by simp
      rw [e0, List.take_length] at h3'
      exact s_ret (ev_call (ea_cons (cellsE e3 rfl) (ea_cons (ev_var rfl) ea_nil)) fun H4 e4 Q' q' E' => ⟨c, he, cellsM ps, _, rfl, sq_of (e4 _ _ (e3 _ _ h3)), st_of (e4 _ _ h3'), q'⟩) fun H4 e4 => q H4 (e3.trans e4)

/-! ### a line fits a form just where its cells take it -/
theorem at_left {xs ys : List Str} {k : Nat} (h : k < xs.length) : cellAt' (xs ++ ys) k = cellAt' xs k := by
  unfold cellAt'
  rw [List.getD_eq_getElem?_getD, List.getD_eq_getElem?_getD, List.getElem?_append_left h]
theorem at_right {xs ys : List Str} {k : Nat} : cellAt' (xs ++ ys) (xs.length + k) = cellAt' ys k := by
  unfold cellAt'
  rw [List.getD_eq_getElem?_getD, List.getD_eq_getElem?_getD, List.getElem?_append_right (Nat.le_add_right _ _), Nat.add_sub_cancel_left]
theorem mk_left {xs ys : List Str} : ∀ (k : Nat), k ≤ xs.length → ∀ t, Mk (xs ++ ys) k t ↔ Mk xs k t
  | 0, _, t => Iff.rfl
  | k + 1, h, t => by
    have ih := mk_left (xs := xs) (ys := ys) k (by omega)
    constructor
    · rintro ⟨u, v, e, hu, hv⟩
      exact ⟨u, v, e, (ih u).mp hu, by rw [at_left (by omega)] at hv; exact hv⟩
    · rintro ⟨u, v, e, hu, hv⟩
      exact ⟨u, v, e, (ih u).mpr hu, by rw [at_left (by omega)]; exact hv⟩
theorem mk_app {xs ys : List Str} : ∀ (j : Nat) (t : List Nat), Mk (xs ++ ys) (xs.length + j) t ↔ ∃ u v, t = u ++ v ∧ Mk xs xs.length u ∧ Mk ys j v
  | 0, t => by
    rw [Nat.add_zero, mk_left _ (Nat.le_refl _)]
    constructor
    · intro h
      exact ⟨t, [], (List.append_nil t).symm, h, rfl⟩
    · rintro ⟨u, v, rfl, hu, hv⟩
      have : v = [] := hv
      rw [this, List.append_nil]
      exact hu
  | j + 1, t => by
    have ih := mk_app (xs := xs) (ys := ys) j
    constructor
    · rintro ⟨u, v, rfl, hu, hv⟩
      obtain ⟨a, b, rfl, ha, hb⟩ := (ih u).mp hu
      have hv' : piece (cellAt' ys j) v := (at_right (xs := xs) (ys := ys) (k := j)) ▸ hv
      exact ⟨a, b ++ v, List.append_assoc _ _ _, ha, b, v, rfl, hb, hv'⟩
    · rintro ⟨a, w', rfl, ha, b, v, rfl, hb, hv⟩
      exact ⟨a ++ b, v, (List.append_assoc _ _ _).symm, (ih _).mpr ⟨a, b, rfl, ha, hb⟩, (at_right (xs := xs) (ys := ys) (k := j)).symm ▸ hv⟩
theorem mk_one {p : Str} {t : List Nat} : Mk [p] 1 t ↔ piece p t := by
  constructor
  · rintro ⟨u, v, rfl, hu, hv⟩
    have : u = [] := hu
    rw [this]
    exact hv
  · intro h
    exact ⟨[], t, rfl, rfl, h⟩
theorem mk_signs : ∀ (l t : List Nat), Mk (l.map fun c => (⟨#[c]⟩ : Str)) l.length t ↔ t = l
  | [], t => Iff.rfl
  | c :: l, t => by
    have e : ((c :: l).map fun c => (⟨#[c]⟩ : Str)) = [(⟨#[c]⟩ : Str)] ++ l.map fun c => (⟨#[c]⟩ : Str) := rfl
    rw [e, List.length_cons, Nat.add_comm]
    have h := mk_app (xs := [(⟨#[c]⟩ : Str)]) (ys := l.map fun c => (⟨#[c]⟩ : Str)) l.length t
    rw [show [(⟨#[c]⟩ : Str)].length = 1 from rfl] at h
    rw [h]
    constructor
    · rintro ⟨u, v, rfl, hu, hv⟩
      rw [piece_sign.mp (mk_one.mp hu), (mk_signs l v).mp hv]
      rfl
    · rintro rfl
      exact ⟨[c], l, rfl, mk_one.mpr (piece_sign.mpr rfl), (mk_signs l l).mpr rfl⟩
theorem mk_cell {p : Str} {t : List Nat} : Mk (cellOf1 p) (cellOf1 p).length t ↔ piece p t := by
  unfold cellOf1
  by_cases h : isOpen p = true
  · rw [if_pos h]
    exact mk_one
  · rw [if_neg h]
    have h2 := mk_signs p.cps.toList t
    have e : (signsOf p).length = p.cps.toList.length := by
      unfold signsOf
      rw [List.length_map]
    rw [e]
    refine h2.trans ?_
    unfold piece
    rw [if_neg (fun e => h (isOpen_iff.mpr (.inr (.inr e)))), if_neg (fun e => h (isOpen_iff.mpr (e.elim .inl fun e => .inr (.inl e))))]
theorem mk_cells : ∀ (ps : List Str) (t : List Nat), Mk (cellsM ps) (cellsM ps).length t ↔ Mk ps ps.length t
  | [], t => Iff.rfl
  | p :: ps, t => by
    have e : cellsM (p :: ps) = cellOf1 p ++ cellsM ps := rfl
    have e2 : p :: ps = [p] ++ ps := rfl
    have ih := mk_cells ps
    rw [e, List.length_append, mk_app]
    have h := mk_app (xs := [p]) (ys := ps) ps.length t
    rw [show [p].length = 1 from rfl] at h
    rw [List.length_cons, Nat.add_comm ps.length 1]
    show _ ↔ Mk ([p] ++ ps) (1 + ps.length) t
    rw [h]
    constructor
    · rintro ⟨u, v, rfl, hu, hv⟩
      exact ⟨u, v, rfl, mk_one.mpr (mk_cell.mp hu), (ih v).mp hv⟩
    · rintro ⟨u, v, rfl, hu, hv⟩
      exact ⟨u, v, rfl, mk_cell.mpr (mk_one.mp hu), (ih v).mpr hv⟩
theorem lny_isLn {z : Str} (h : Lny z) : isLn z = !decide (z = ("" : Str)) := by
  unfold isLn
  have h1 : (z.cps.toList.all fun c => decide (c ∈ signsS.cps.toList)) = true := List.all_eq_true.mpr fun c hc => decide_eq_true (h c hc)
  rw [h1, Bool.and_true]
  have hl := str_len z
  by_cases e : z.cps.toList = []
  · rw [decide_eq_true (str_nil.mpr e), decide_eq_false]
    · rfl
    · rw [hl, e]
      simp
  · rw [decide_eq_false (fun w' => e (str_nil.mp w')), decide_eq_true]
    · rfl
    · have := List.length_pos_iff.mpr e
      omega
theorem inForm_fits {ps : List Str} (hP : Parts ps) {z : Str} (hz : Lny z) : inForm ps z = fitsM ps z := by
  have hC := (signs_cells hP).1
  have key : inForm ps z = true ↔ fitsM ps z = true := by
    unfold inForm
    rw [Bool.and_eq_true, decide_eq_true_eq, state_mem hC, fits_iff, lny_isLn hz]
    constructor
    · rintro ⟨h1, _, h2⟩
      refine ⟨fun w' => ?_, ?_⟩
      · rw [decide_eq_true (str_nil.mpr w')] at h1
        cases h1
      · rcases h2 with h2 | ⟨h3, _⟩
        · exact (mk_cells ps _).mp h2
        · omega
    · rintro ⟨h1, h2⟩
      refine ⟨?_, Nat.le_refl _, .inl ((mk_cells ps _).mpr h2)⟩
      rw [decide_eq_false fun w' => h1 (str_nil.mp w')]
      rfl
  cases h : fitsM ps z with
  | true => exact key.mpr h
  | false =>
    cases h2 : inForm ps z with
    | false => rfl
    | true =>
      rw [key.mp h2] at h
      cases h
/-! a Form made of parts -/
def EvF (te : TE) (σ : L2.St) (H : Hp) (C : Addr) (ps : List Str) : Prop := ∀ H1, Ex H H1 → ∀ Q : VK, (∀ a H2, H1 a = none → Ex H1 H2 → FormAt C H2 a ps → Q (.ref a) H2) → te σ H1 Q
theorem evf_make {σ : L2.St} {H : Hp} {C : Addr} {ps : List Str} {ta : TA} {E : XK} (hP : Parts ps) (h1 : 1 ≤ ps.length) (h4 : ps.length ≤ 4) (h : EvA ta σ H (ps.map V.str)) : EvF (tMakeR C (spForm C) E ta) σ H C ps := fun H1 e Q q =>
  h H1 e _ fun H2 e2 => fun x dx hx hdx ne => by
    have hx2 : upd (upd H2 dx (.own x)) x (.ins C dx []) x = some (.ins C dx []) := upd_same
    refine ⟨[.ref x], ps.map V.str, rfl, rfl, sz_of (by rw [List.length_map]; omega), fun p hp => ?_⟩
    have npx : x ≠ p := fun z => by
      rw [← z, hx2] at hp
      cases hp
    refine ⟨x, p, dx, ps, rfl, by rw [upd_ne npx]; exact hx2, upd_same, hP, h1, h4, fun H' e' hF => ⟨rfl, q x H' (fresh_back e2 hx) (fun b o hb => ?_) hF⟩⟩
    have hb2 := e2 _ _ hb
    have nbx : b ≠ x := ne_of_none hb2 hx
    have nbd : b ≠ dx := ne_of_none hb2 hdx
    have hb3 : upd (upd H2 dx (.own x)) x (.ins C dx []) b = some o := by
      rw [upd_ne nbx, upd_ne nbd]
      exact hb2
    have nbp : b ≠ p := ne_of_none hb3 hp
    refine e' b o ?_
    rw [hide_ne nbx, upd_ne nbp]
    exact hb3
def spLawForm (K : PySem.W.Frag) (C : Addr) : Sp := fun vs H Q _ => ∃ (l : Addr) (ps : List Str), vs = [.ref l] ∧ SqL K H l (ps.map V.str) ∧ Parts ps ∧ 1 ≤ ps.length ∧ ps.length ≤ 3 ∧ ∀ a H2, H a = none → Ex H H2 → FormAt C H2 a ps → Q (.ref a) H2
theorem s_retF {te : TE} {σ : L2.St} {H : Hp} {C : Addr} {ps : List Str} {D : Ends} (h : EvF te σ H C ps) (k : ∀ a H1, H a = none → Ex H H1 → FormAt C H1 a ps → D.rt (.ref a) H1) : tRet te D σ H := h H (Ex.refl H) _ k
theorem ok__law_form {f : Addr} {fd : FuncData} (F : Fun K "_law_form" "_law_form" s__law_form f fd) (T : Txt K mg a_FIELDS a_OPEN_PARTS C_Form C_GlueError C_NoRule C_Rule) (D_Form___init__ : DfS P w K mg base "Form" C_Form 3 (spForm C_Form)) : FnOk P w K mg base CX0 5 f fd ["parts"] (spLawForm K C_Form) := by
  refine F.ok sc__law_form (fun vs H Q E h => ?_) (fun cdv A outer s0 H vs Q E hr h => ?_)
  · obtain ⟨l, ps, rfl, _⟩ := h
    rfl
  · obtain ⟨l, ps, rfl, hL, hP, h1, h4, q⟩ := h
    refine ⟨_, (pss_cons (ps_if (pt_cmpR op_eq (pe_callB call_len_seq (by rfl) T.n_len PySem.boot_len (pa_cons (pv 0) pa_nil)) pe_int (nomark _))
      (pss_one (ps_ret (pe_mkS D_Form___init__ (hr.mono (by decide)) (by rfl) (pa_cons (pe_ix ix_list (pv 0) pe_int (fun _ _ => rfl)) pa_nil))))
      pss_nil)
      (pss_cons (ps_if (pt_cmpR op_eq (pe_callB call_len_seq (by rfl) T.n_len PySem.boot_len (pa_cons (pv 0) pa_nil)) pe_int (nomark _))
      (pss_one (ps_ret (pe_mkS D_Form___init__ (hr.mono (by decide)) (by rfl) (pa_cons (pe_ix ix_list (pv 0) pe_int (fun _ _ => rfl)) (pa_cons (pe_ix ix_list (pv 0) pe_int (fun _ _ => rfl)) pa_nil)))))
      pss_nil)
      (pss_one (ps_ret (pe_mkS D_Form___init__ (hr.mono (by decide)) (by rfl) (pa_cons (pe_ix ix_list (pv 0) pe_int (fun _ _ => rfl)) (pa_cons (pe_ix ix_list (pv 0) pe_int (fun _ _ => rfl)) (pa_cons (pe_ix ix_list (pv 0) pe_int (fun _ _ => rfl)) pa_nil)))))))), ?_⟩
    have ix : ∀ {σ : L2.St} {H'} (_ : Ex H H') (i0 : σ[0]? = some (some (.ref l))) (k : Nat) (hk : k < ps.length), Ev (tOp (rIxL K) (tVar 0) (tC (.int (k : Int)))) σ H' (.str (cellAt' ps k)) := fun e i0 k hk => ev_op (ev_var i0) ev_c (rv_ixL (ex_l e hL) (cell_at hk))
    have all : ps.map V.str = (List.range ps.length).map fun k => V.str (cellAt' ps k) := by
      apply List.ext_getElem
      · simp
      · intro k hk1 hk2
        rw [List.getElem_map, List.getElem_map, List.getElem_range]
        rw [List.length_map] at hk1
        have := cellAt_get hk1
        rw [List.getElem?_eq_getElem hk1] at this
        rw [Option.some.inj this]
    have test : ∀ {σ : L2.St} {H'} (_ : Ex H H') (i0 : σ[0]? = some (some (.ref l))) (n : Int), EvT (tTest (tOp rEq (tCB (fun xs H Q => ∃ p ys, xs = [.ref p] ∧ (SqL K H p ys ∨ SqT K H p ys) ∧ Q (.int ys.length) H) (tCons (tVar 0) tNil)) (tC (.int n)))) σ H' (decide ((ps.length : Int) = n)) := fun e i0 n => by
      have := et_test (ev_op (ev_lenL (K := K) (ev_var i0) (ex_l e hL)) (ev_c (v := .int n)) rv_eqI)
      rw [List.length_map] at this
      exact this
    refine q_when (test (Ex.refl _) rfl 1) (fun hb H1 e1 => ?_) (fun hb H1 e1 => ?_)
    · have hn : ps.length = 1 := by have := of_decide_eq_true hb; omega
      refine s_retF (evf_make hP h1 (by omega) ?_) fun a H2 ha e2 hF => q a H2 (fresh_back e1 ha) (e1.trans e2) hF
      rw [all, hn]
      exact ea_cons (ix e1 rfl 0 (by omega)) ea_nil
    refine q_when (test e1 rfl 2) (fun hc H2 e2 => ?_) (fun hc H2 e2 => ?_)
    · have hn : ps.length = 2 := by have := of_decide_eq_true hc; omega
      refine s_retF (evf_make hP h1 (by omega) ?_) fun a H3 ha e3 hF => q a H3 (fresh_back (e1.trans e2) ha) ((e1.trans e2).trans e3) hF
      rw [all, hn]
      exact ea_cons (ix (e1.trans e2) rfl 0 (by omega)) (ea_cons (ix (e1.trans e2) rfl 1 (by omega)) ea_nil)
    have e12 := e1.trans e2
    have hn : ps.length = 3 := by
      have := of_decide_eq_false hb
      have := of_decide_eq_false hc
      omega
    refine s_retF (evf_make hP h1 (by omega) ?_) fun a H4 ha e4 hF => q a H4 (fresh_back e12 ha) (e12.trans e4) hF
    rw [all, hn]
    exact ea_cons (ix e12 rfl 0 (by omega)) (ea_cons (ix e12 rfl 1 (by omega)) (ea_cons (ix e12 rfl 2 (by omega)) ea_nil))

def FormR (C : Addr) (ps : List Str) (p : Addr) (H : Hp) : Prop := FormAt C H p ps ∧ Parts ps ∧ 1 ≤ ps.length ∧ ps.length ≤ 4
theorem upF {C : Addr} : Up (FormR C) := fun _ _ _ _ e h => ⟨h.1.ex e, h.2⟩
theorem cells_ne {ps : List Str} (hP : Parts ps) (h : 1 ≤ ps.length) : ∃ c cs, cellsM ps = c :: cs := by
  cases ps with
  | nil => simp at h
  | cons p ps =>
    have e : cellsM (p :: ps) = cellOf1 p ++ cellsM ps := rfl
    rw [e]
    rcases hP.each p List.mem_cons_self with o | f
    · rw [show cellOf1 p = [p] from if_pos o]
      exact ⟨_, _, rfl⟩
    · by_cases o : isOpen p = true
      · rw [show cellOf1 p = [p] from if_pos o]
        exact ⟨_, _, rfl⟩
      · rw [show cellOf1 p = signsOf p from if_neg o]
        have l := f.2.1
        rw [str_len] at l
        unfold signsOf
        cases hz : p.cps.toList with
        | nil =>
          rw [hz] at l
          simp at l
        | cons x xs => exact ⟨_, _, rfl⟩
theorem offF {C : Addr} : Off (FormR C) := fun ps p H D acc r hD refs ne => by
  obtain ⟨⟨dx, t, c, f1, f2, f3⟩, hP, h1, h4⟩ := r
  have nt : t ≠ D := fun z => by
    rw [z, hD] at f2
    cases f2
  have nc : c ≠ D := fun z => by
    rw [z, hD] at f3
    obtain ⟨x, xs, e⟩ := cells_ne hP h1
    rw [e] at f3
    have f4 : acc = V.str x :: xs.map V.str := HO.lst.inj (Option.some.inj f3)
    obtain ⟨r, hr⟩ := refs (V.str x) (by rw [f4]; exact List.mem_cons_self)
    cases hr
  exact ⟨⟨dx, t, c, by rw [hide_ne ne]; exact f1, by rw [hide_ne nt]; exact f2, by rw [hide_ne nc]; exact f3⟩, hP, h1, h4⟩

/-! ### what may be tried as a setting -/
def AnyV (v : V) (H : Hp) : Prop := v = .non ∨ (∃ b, v = .bl b) ∨ (∃ i : Int, v = .int i ∧ -100 ≤ i ∧ i ≤ 100) ∨ (∃ z, v = .str z ∧ (z = "" ∨ z = "2")) ∨ ∃ t, v = .ref t ∧ H t = some (.tup [])
theorem AnyV.ex {v : V} {H H' : Hp} (h : AnyV v H) (e : Ex H H') : AnyV v H' := by
  rcases h with h | h | h | h | ⟨t, h, k⟩
  · exact .inl h
  · exact .inr (.inl h)
  · exact .inr (.inr (.inl h))
  · exact .inr (.inr (.inr (.inl h)))
  · exact .inr (.inr (.inr (.inr ⟨t, h, e _ _ k⟩)))
theorem AnyV.hd {v : V} {H : Hp} {p : Addr} (h : AnyV v H) (n : ∀ t, v = .ref t → t ≠ p) : AnyV v (hide p H) := by
  rcases h with h | h | h | h | ⟨t, h, k⟩
  · exact .inl h
  · exact .inr (.inl h)
  · exact .inr (.inr (.inl h))
  · exact .inr (.inr (.inr (.inl h)))
  · exact .inr (.inr (.inr (.inr ⟨t, h, by rw [hide_ne (n t h)]; exact k⟩)))
theorem AnyV.nt {v : V} {H : Hp} (h : AnyV v H) : ∀ T, v ≠ .ty T := fun T e => by
  subst e
  rcases h with h | ⟨_, h⟩ | ⟨_, h, _⟩ | ⟨_, h, _⟩ | ⟨t, h, _⟩ <;> cases h
def numB (lo hi : Int) : V → Bool
  | .int i => decide (lo ≤ i) && decide (i ≤ hi)
  | _ => false
def isBl : V → Bool
  | .bl _ => true
  | _ => false
def isI : V → Bool
  | .int _ => true
  | .bl _ => true
  | _ => false
/-- whether the value may be in the field -/
def goodV (k : Nat) (v : V) : Bool := if k = 1 ∨ k = 3 then isBl v else decide (v = .non) || (if k = 0 then numB 1 20 v else numB 0 9 v)
def fieldS : Nat → Str
  | 0 => "most"
  | 1 => "alone"
  | 2 => "tags"
  | _ => "quiet"
section
variable {σ : L2.St} {H : Hp} {te : TE} {v : V}
theorem ev_isInt (h : Ev te σ H v) (a : AnyV v H) : Ev (tCB (rIsi K) (tCons te (tCons (tC (.ty "int")) tNil))) σ H (.bl (isI v)) := by
  rcases a with rfl | ⟨b, rfl⟩ | ⟨i, rfl, _⟩ | ⟨z, rfl, _⟩ | ⟨t, rfl, ht⟩
  · exact ev_isi (b := false) h (.base .non) (by decide +kernel)
  · exact ev_isi (b := true) h (.base (.bl b)) (by decide +kernel)
  · exact ev_isi (b := true) h (.base (.int i)) (by decide +kernel)
  · exact ev_isi (b := false) h (.base (.str z)) (by decide +kernel)
  · exact ev_isi (b := false) h (.base (.tup ht)) (by decide +kernel)
theorem ev_isBool (h : Ev te σ H v) (a : AnyV v H) : Ev (tCB (rIsi K) (tCons te (tCons (tC (.ty "bool")) tNil))) σ H (.bl (isBl v)) := by
  rcases a with rfl | ⟨b, rfl⟩ | ⟨i, rfl, _⟩ | ⟨z, rfl, _⟩ | ⟨t, rfl, ht⟩
  · exact ev_isi (b := false) h (.base .non) (by decide +kernel)
  · exact ev_isi (b := true) h (.base (.bl b)) (by decide +kernel)
  · exact ev_isi (b := false) h (.base (.int i)) (by decide +kernel)
  · exact ev_isi (b := false) h (.base (.str z)) (by decide +kernel)
  · exact ev_isi (b := false) h (.base (.tup ht)) (by decide +kernel)
end
theorem ev_chainR {σ : L2.St} {H : Hp} {ta tb tc : TE} {x y z : V} {r r' : R2} {a b : Bool} (ha : Ev ta σ H x) (hb : Ev tb σ H y) (hc : Ev tc σ H z) (h1 : RV r x y H (.bl a)) (h2 : RV r' y z H (.bl b)) : Ev (tChain r r' ta tb tc) σ H (.bl (a && b)) := fun H1 e Q q =>
  ha H1 e _ fun H2 e2 => hb H2 (e.trans e2) _ fun H3 e3 => h1 H3 ((e.trans e2).trans e3) _ fun H4 e4 => ⟨a, rfl, by
    have e14 := (e2.trans e3).trans e4
    cases a with
    | true => exact hc H4 (e.trans e14) _ fun H5 e5 => h2 H5 ((e.trans e14).trans e5) Q fun H6 e6 => q H6 ((e14.trans e5).trans e6)
    | false => exact q H4 e14⟩
theorem rv_isN {H : Hp} {x : V} : RV (fun x y H Q => y = .non ∧ Q (.bl (decide (x = .non))) H) x .non H (.bl (decide (x = .non))) := fun H1 _ _ q => ⟨rfl, q H1 (Ex.refl H1)⟩
theorem rv_notN {H : Hp} {x : V} : RV (fun x y H Q => y = .non ∧ Q (.bl (!decide (x = .non))) H) x .non H (.bl (!decide (x = .non))) := fun H1 _ _ q => ⟨rfl, q H1 (Ex.refl H1)⟩
def spIsNum : Sp := fun vs H Q _ => ∃ (v : V) (lo hi : Int), vs = [v, .int lo, .int hi] ∧ AnyV v H ∧ RetV (.bl (numB lo hi v)) H Q
theorem ok__is_number {f : Addr} {fd : FuncData} (F : Fun K "_is_number" "_is_number" s__is_number f fd) (T : Txt K mg a_FIELDS a_OPEN_PARTS C_Form C_GlueError C_NoRule C_Rule) : FnOk P w K mg base CX0 1 f fd ["value", "low", "high"] spIsNum := by
  refine F.ok sc__is_number (fun vs H Q E h => ?_) (fun cdv A outer s0 H vs Q E hr h => ?_)
  · obtain ⟨v, lo, hi, rfl, _⟩ := h
    rfl
  · obtain ⟨v, lo, hi, rfl, hv, q⟩ := h
    refine ⟨_, (pss_one (ps_ret (pe_and (pe_callB call_isi (by rfl) T.n_isinstance (by decide +kernel) (pa_cons (pv 0) (pa_cons (pe_bltn (v := .ty "int") (by rfl) T.n_int (by decide +kernel) rfl) pa_nil))) (pe_and (pe_not (pe_callB call_isi (by rfl) T.n_isinstance (by decide +kernel) (pa_cons (pv 0) (pa_cons (pe_bltn (v := .ty "bool") (by rfl) T.n_bool (by decide +kernel) rfl) pa_nil)))) (pe_one (pe_chain op_le op_le (pv 1) (pv 0) (pv 2))))))), ?_⟩
    refine s_ret (v := .bl (numB lo hi v)) ?_ q
    have tail : isI v = true → isBl v = false → Ev (tChain (rI0 fun i j => .bl (decide (i ≤ j))) (rI0 fun i j => .bl (decide (i ≤ j))) (tVar 1) (tVar 0) (tVar 2)) [some v, some (.int lo), some (.int hi)] H (.bl (numB lo hi v)) := fun h1 h2 => by
      cases v with
      | int i => exact ev_chainR (ev_var rfl) (ev_var rfl) (ev_var rfl) rv_I0 rv_I0
      | bl b => cases h2
      | _ => cases h1
    refine ev_is (ev_andV (b := !isBl v && numB lo hi v) (ev_isInt (ev_var rfl) hv) fun h1 => ev_andV (ev_notV (ev_isBool (ev_var rfl) hv)) fun h2 => tail h1 (by simpa using h2)) ?_
    cases v <;> rfl
def RaiseF (CN : Addr) (z : Str) (H : Hp) (X : XK) : Prop := ∀ d H', Ex H H' → H' d = some (.xd [(("field" : Str), .str z)]) → X (.ref CN) (some d) H'
theorem RaiseF.ex {CN : Addr} {z : Str} {H H' : Hp} {X : XK} (h : RaiseF CN z H X) (e : Ex H H') : RaiseF CN z H' X := fun d H2 e2 hd => h d H2 (e.trans e2) hd
theorem look_field {v : V} : ([(("field" : Str), v)] : List (Str × V)).lookup ("field" : Str) = some v := by
  rw [List.lookup_cons, show (("field" : Str) == "field") = true by decide +kernel]
theorem ok_NoRule___init__ {f : Addr} {fd : FuncData} (F : Fun K "__init__" "NoRule.__init__" s_NoRule___init__ f fd) (T : Txt K mg a_FIELDS a_OPEN_PARTS C_Form C_GlueError C_NoRule C_Rule) : FnOk P w K mg base CX0 1 f fd ["self", "field"] (spXI C_NoRule "field") := by
  refine F.ok sc_NoRule___init__ (fun vs H Q E h => ?_) (fun cdv A outer s0 H vs Q E hr h => ?_)
  · obtain ⟨a, v, rfl, _⟩ := h
    rfl
  · obtain ⟨a, v, rfl, ha, q⟩ := h
    refine ⟨_, (pss_one (ps_ost (pv 0) (pv 1))), ?_⟩
    exact ⟨_, rfl, _, rfl, a, C_NoRule, rfl, T.x_NoRule.o, T.f_NoRule_field, .inl ⟨ha, q⟩⟩
/-! ### _check, refusing -/
def spCheckX (CN : Addr) : Sp := fun vs H Q X => ∃ (k : Nat) (v : V), vs = [.str (fieldS k), v] ∧ k < 4 ∧ AnyV v H ∧ (goodV k v = true → RetV .non H Q) ∧ (goodV k v = false → RaiseF CN (fieldS k) H X)
theorem okx__check {f : Addr} {fd : FuncData} (F : Fun K "_check" "_check" s__check f fd) (T : Txt K mg a_FIELDS a_OPEN_PARTS C_Form C_GlueError C_NoRule C_Rule) (D__is_number : Df P w K mg base "_is_number" ["value", "low", "high"] 1 spIsNum) (D_NoRule___init__ : DfX P w K mg base "NoRule" C_NoRule ["self", "field"] 1 (spXI C_NoRule "field")) :
    FnOk P w K mg base (L2.CX P w) 3 f fd ["field", "value"] (spCheckX C_NoRule) := by
  refine F.okX sc__check (fun vs H Q E h => ?_) (fun cdv A outer s0 H vs Q E hr h => ?_)
  · obtain ⟨k, v, rfl, _⟩ := h
    rfl
  · obtain ⟨k, v, rfl, k4, hv, qy, qn⟩ := h
    refine ⟨_, (pss_cut (ps_if (pt_cmpR op_eq (pv 0) pe_str (nomark _))
      (pss_one (ps_set (i := 2) sc__check.nd rfl (Or.inl rfl) (pe_or (pe_cmpR op_isN (pv 1) pe_non (nomark _)) (pe_one (pe_df D__is_number (hr.mono (by decide)) (by rfl) (pa_cons (pv 1) (pa_cons pe_int (pa_cons (pe_cst T.c_MOST_LINES (by rfl)) pa_nil))))))))
      (pss_one (ps_if (pt_cmpR op_eq (pv 0) pe_str (nomark _))
      (pss_one (ps_set (i := 2) sc__check.nd rfl (Or.inl rfl) (pe_or (pe_cmpR op_isN (pv 1) pe_non (nomark _)) (pe_one (pe_df D__is_number (hr.mono (by decide)) (by rfl) (pa_cons (pv 1) (pa_cons pe_int (pa_cons (pe_cst T.c_MOST_TAGS (by rfl)) pa_nil))))))))
      (pss_one (ps_set (i := 2) sc__check.nd rfl (Or.inl rfl) (pe_or (pe_cmpR op_isBG (pv 1) pe_bl (nomark _)) (pe_one (pe_cmpR op_isBG (pv 1) pe_bl (nomark _)))))))))
      (pss_one (ps_if (pt_not (pt_val (pv 2)))
      (pss_one (ps_raiseX D_NoRule___init__ (hr.mono (by decide)) (by rfl) rfl (takes_of rfl rfl rfl rfl) (pa_cons (pv 0) pa_nil)))
      pss_nil))), ?_⟩
    have num : ∀ {H1 : Hp} {lo hi : Int} {tc : TE} {o : Option V}, Ex H H1 → Ev tc [some (.str (fieldS k)), some v, o] H1 (.int hi) → Ev (tOrV (tOp (fun x y H Q => y = .non ∧ Q (.bl (decide (x = .non))) H) (tVar 1) (tC .non)) (tCall spIsNum [] E0 (tCons (tVar 1) (tCons (tC (.int lo)) (tCons tc tNil))))) [some (.str (fieldS k)), some v, o] H1 (.bl (decide (v = .non) || numB lo hi v)) := fun {H1 lo hi tc o} e1 hc =>
      ev_orV (ev_op (ev_var rfl) ev_c rv_isN) fun _ => ev_call (z := .bl (numB lo hi v)) (ea_cons (ev_var rfl) (ea_cons ev_c (ea_cons hc ea_nil))) fun H2 e2 Q' q' E' => ⟨v, lo, hi, rfl, hv.ex (e1.trans e2), q'⟩
    refine q_cut (M := fun σ' H' => σ' = [some (.str (fieldS k)), some v, some (.bl (goodV k v))] ∧ Ex H H') ?_ ?_
    · have bools : (k = 1 ∨ k = 3) → ∀ {H2 : Hp}, Ex H H2 → ∀ {D : Ends}, (∀ H3, Ex H H3 → D.nx [some (.str (fieldS k)), some v, some (.bl (goodV k v))] H3) → tAsg (tOrV (tOp rIsBG (tVar 1) (tC (.bl true))) (tOp rIsBG (tVar 1) (tC (.bl false)))) (gName 2) D [some (.str (fieldS k)), some v, none] H2 := fun hk {H2} e2 {D} q => by
        refine s_asg (v := .bl (goodV k v)) (ev_is (ev_orV (ev_op (ev_var rfl) ev_c (rv_isBG hv.nt)) fun _ => ev_op (ev_var rfl) ev_c (rv_isBG hv.nt)) ?_) fun H3 e3 => q H3 (e2.trans e3)
        unfold goodV
        rw [if_pos hk]
        cases v with
        | bl b => cases b <;> rfl
        | _ => rfl
      match k, k4 with
      | 0, _ =>
        refine s_if (b := true) (et_is (et_test (ev_op (ev_var rfl) ev_c rv_eqS)) (decide_eq_true rfl)) (fun _ H1 e1 => ?_) (fun z => by cases z)
        exact s_asg (v := .bl (goodV 0 v)) (num e1 (by first | exact ev_c | exact T.c_MOST_LINES)) fun H2 e2 => ⟨rfl, e1.trans e2⟩
      | 1, _ =>
        refine s_if (b := false) (et_is (et_test (ev_op (ev_var rfl) ev_c rv_eqS)) (by decide +kernel)) (fun z => by cases z) (fun _ H1 e1 => ?_)
        refine s_if (b := false) (et_is (et_test (ev_op (ev_var rfl) ev_c rv_eqS)) (by decide +kernel)) (fun z => by cases z) (fun _ H2 e2 => ?_)
        exact bools (.inl rfl) (e1.trans e2) fun H3 e3 => ⟨rfl, e3⟩
      | 2, _ =>
        refine s_if (b := false) (et_is (et_test (ev_op (ev_var rfl) ev_c rv_eqS)) (by decide +kernel)) (fun z => by cases z) (fun _ H1 e1 => ?_)
        refine s_if (b := true) (et_is (et_test (ev_op (ev_var rfl) ev_c rv_eqS)) (decide_eq_true rfl)) (fun _ H2 e2 => ?_) (fun z => by cases z)
        exact s_asg (v := .bl (goodV 2 v)) (num (e1.trans e2) (by first | exact ev_c | exact T.c_MOST_TAGS)) fun H3 e3 => ⟨rfl, (e1.trans e2).trans e3⟩
      | 3, _ =>
        refine s_if (b := false) (et_is (et_test (ev_op (ev_var rfl) ev_c rv_eqS)) (by decide +kernel)) (fun z => by cases z) (fun _ H1 e1 => ?_)
        refine s_if (b := false) (et_is (et_test (ev_op (ev_var rfl) ev_c rv_eqS)) (by decide +kernel)) (fun z => by cases z) (fun _ H2 e2 => ?_)
        exact bools (.inr rfl) (e1.trans e2) fun H3 e3 => ⟨rfl, e3⟩
      | k + 4, h => omega
    · rintro σ' H2 ⟨rfl, e2⟩
      refine s_when (b := !goodV k v) (et_not (et_B (ev_var rfl))) (fun hb H3 e3 => ?_) (fun hb H3 e3 => qy (by simpa using hb) H3 (e2.trans e3))
      exact mkX (C := C_NoRule) (f := "field") (ev_var rfl) fun d H4 hd e4 h4 => qn (by simpa using hb) d H4 ((e2.trans e3).trans e4) h4

/-! ### an object whose fields are set one by one -/
structure At0 (G : Hp) (a : Addr) (o : HO) (H : Hp) : Prop where
  ex : Ex G H
  at_ : H a = some o
  fr : G a = none
theorem At0.set {G H H1 : Hp} {a : Addr} {o o' : HO} (A : At0 G a o H) (e : Ex H H1) : At0 G a o' (upd H1 a o') := ⟨Ex.mut (A.ex.trans e) A.fr, upd_same, A.fr⟩
theorem At0.same {G H H1 : Hp} {a : Addr} {o : HO} (A : At0 G a o H) (e : Ex H H1) : At0 G a o H1 := ⟨A.ex.trans e, e _ _ A.at_, A.fr⟩
theorem At0.add {G H : Hp} {a l : Addr} {o u : HO} (A : At0 G a o H) (h : H l = some u) (n : a ≠ l) (hG : G l = none) : At0 (upd G l u) a o H := ⟨fun b x hb => by
    by_cases e : b = l
    · rw [e, upd_same] at hb
      rw [e, h]
      exact hb
    · rw [upd_ne e] at hb
      exact A.ex _ _ hb, A.at_, by rw [upd_ne n]; exact A.fr⟩
section
variable {σ : L2.St} {G H : Hp} {D : Ends} {tz : TS} {te : TE} {f : Str} {a C dx : Addr} {fs : List (Str × V)} {i : Nat} {v : V} {xs : List V}
theorem s_fldA (A : At0 G a (.ins C dx fs) H) (hi : σ[i]? = some (some (.ref a))) (h : Ev te σ H v) (kC : Cls K C) (nA : NoAttr K C f) (hl : fs.length < 1000) (k : ∀ H', At0 G a (.ins C dx (putF f v fs)) H' → D.nx σ H') : sFld K (tVar i) te f D σ H :=
  h H (Ex.refl _) _ fun H1 e1 => ⟨_, hi, a, C, dx, fs, rfl, e1 _ _ A.at_, kC, nA, hl, k _ (A.set e1)⟩
theorem q_fldA (A : At0 G a (.ins C dx fs) H) (hi : σ[i]? = some (some (.ref a))) (h : Ev te σ H v) (kC : Cls K C) (nA : NoAttr K C f) (hl : fs.length < 1000) (k : ∀ H', At0 G a (.ins C dx (putF f v fs)) H' → tz D σ H') : tSeq (sFld K (tVar i) te f) tz D σ H :=
  s_fldA (D := { D with nx := tz D }) A hi h kC nA hl k
/-- a new list -/
theorem q_fldN (A : At0 G a (.ins C dx fs) H) (hi : σ[i]? = some (some (.ref a))) (h : EvL te σ H xs) (kC : Cls K C) (nA : NoAttr K C f) (hl : fs.length < 1000) (k : ∀ l G' H', G l = none → Ex G G' → G' l = some (.lst xs) → At0 G' a (.ins C dx (putF f (.ref l) fs)) H' → tz D σ H') : tSeq (sFld K (tVar i) te f) tz D σ H :=
  h H (Ex.refl _) _ fun l H1 hl0 e1 h1 => ⟨_, hi, a, C, dx, fs, rfl, e1 _ _ A.at_, kC, nA, hl, by
    have n := ne_of_none A.at_ hl0
    have hG := fresh_back A.ex hl0
    exact k l (upd G l (.lst xs)) _ hG (Ex.new hG) upd_same ((A.set (o' := .ins C dx (putF f (.ref l) fs)) e1).add (by rw [upd_ne (Ne.symm n)]; exact h1) n hG)⟩
end

/-! ### a Rule by what its fields hold -/
def keyS : Nat → Str
  | 0 => "_most"
  | 1 => "_alone"
  | 2 => "_tags"
  | _ => "_quiet"
def keys6 : List Str := ["_begins", "_ends", "_most", "_alone", "_tags", "_quiet"]
def setV (vals : Nat → V) (k : Nat) (v : V) : Nat → V := fun j => if j = k then v else vals j
structure FldR (b e : Addr) (vals : Nat → V) (fs : List (Str × V)) : Prop where
  len : fs.length ≤ 6
  bg : fs.lookup ("_begins" : Str) = some (.ref b)
  en : fs.lookup ("_ends" : Str) = some (.ref e)
  val : ∀ k, k < 4 → fs.lookup (keyS k) = some (vals k)
  no : ∀ f, f ∉ keys6 → fs.lookup f = none
theorem putF_len {f : Str} {v : V} : ∀ {fs : List (Str × V)}, fs.lookup f ≠ none → (putF f v fs).length = fs.length
  | [], h => absurd rfl h
  | (g, u) :: fs, h => by
    unfold putF
    split
    · rfl
    · rename_i hne
      rw [List.length_cons, List.length_cons, putF_len fun z => h ?_]
      rw [List.lookup_cons, show (f == g) = false from beq_eq_false_iff_ne.mpr fun z2 => hne (by first | exact z2.symm | exact z2 | (rw [z2]))]
      exact z
theorem keyS_inj : ∀ j, j < 4 → ∀ k, k < 4 → keyS j = keyS k → j = k := by decide +kernel
theorem keyS_be : ∀ k, k < 4 → keyS k ≠ ("_begins" : Str) ∧ keyS k ≠ ("_ends" : Str) ∧ keyS k ∈ keys6 := by decide +kernel
theorem FldR.put {b e : Addr} {vals : Nat → V} {fs : List (Str × V)} (h : FldR b e vals fs) {k : Nat} (hk : k < 4) (v : V) : FldR b e (setV vals k v) (putF (keyS k) v fs) := by
  obtain ⟨n1, n2, n3⟩ := keyS_be k hk
  refine ⟨by rw [putF_len (by rw [h.val k hk]; exact fun z => by cases z)]; exact h.len, ?_, ?_, fun j hj => ?_, fun f hf => ?_⟩
  · rw [lookup_putF, if_neg n1.symm]
    exact h.bg
  · rw [lookup_putF, if_neg n2.symm]
    exact h.en
  · rw [lookup_putF]
    unfold setV
    by_cases c : j = k
    · rw [if_pos c, c, if_pos rfl]
    · rw [if_neg c, if_neg fun z => c (keyS_inj j hj k hk z)]
      exact h.val j hj
  · rw [lookup_putF, if_neg (show ¬ f = keyS k from fun z => hf (by rw [z]; exact n3))]
    exact h.no f hf
def RuleL (CR : Addr) (H : Hp) (r b e : Addr) (vals : Nat → V) : Prop := ∃ dx fs, H r = some (.ins CR dx fs) ∧ FldR b e vals fs
theorem RuleL.ex {CR : Addr} {H H' : Hp} {r b e : Addr} {vals : Nat → V} (h : RuleL CR H r b e vals) (x : Ex H H') : RuleL CR H' r b e vals := by
  obtain ⟨dx, fs, h1, h2⟩ := h
  exact ⟨dx, fs, x _ _ h1, h2⟩
theorem ev_prop {σ : L2.St} {H : Hp} {te : TE} {C a dx : Addr} {fs : List (Str × V)} {f : Str} {v : V} {E : XK} (h : Ev te σ H (.ref a)) (ha : H a = some (.ins C dx fs)) (hl : fs.lookup f = some v) : Ev (tProp C (getSp C f) [] E te) σ H v := fun H1 e Q q =>
  h H1 e _ fun H2 e2 => ⟨a, dx, fs, rfl, e2 _ _ (e _ _ ha), a, dx, fs, v, rfl, e2 _ _ (e _ _ ha), hl, q H2 e2⟩
theorem ok_Rule_most {f : Addr} {fd : FuncData} (F : Fun K "most" "Rule.most" s_Rule_most f fd) (T : Txt K mg a_FIELDS a_OPEN_PARTS C_Form C_GlueError C_NoRule C_Rule) : FnOk P w K mg base CX0 1 f fd ["self"] (getSp C_Rule "_most") := by
  refine F.ok sc_Rule_most (fun vs H Q E h => ?_) (fun cdv A outer s0 H vs Q E hr h => ?_)
  · obtain ⟨a, dx, fs, v, rfl, _⟩ := h
    rfl
  · obtain ⟨a, dx, fs, v, rfl, ha, hl, q⟩ := h
    refine ⟨_, (pss_one (ps_ret (pe_fld (pv 0) rfl))), ?_⟩
    exact ⟨_, rfl, a, C_Rule, dx, fs, v, rfl, ha, T.k_Rule, T.a_Rule__most, hl, q⟩
theorem ok_Rule_alone {f : Addr} {fd : FuncData} (F : Fun K "alone" "Rule.alone" s_Rule_alone f fd) (T : Txt K mg a_FIELDS a_OPEN_PARTS C_Form C_GlueError C_NoRule C_Rule) : FnOk P w K mg base CX0 1 f fd ["self"] (getSp C_Rule "_alone") := by
  refine F.ok sc_Rule_alone (fun vs H Q E h => ?_) (fun cdv A outer s0 H vs Q E hr h => ?_)
  · obtain ⟨a, dx, fs, v, rfl, _⟩ := h
    rfl
  · obtain ⟨a, dx, fs, v, rfl, ha, hl, q⟩ := h
    refine ⟨_, (pss_one (ps_ret (pe_fld (pv 0) rfl))), ?_⟩
    exact ⟨_, rfl, a, C_Rule, dx, fs, v, rfl, ha, T.k_Rule, T.a_Rule__alone, hl, q⟩
theorem ok_Rule_tags {f : Addr} {fd : FuncData} (F : Fun K "tags" "Rule.tags" s_Rule_tags f fd) (T : Txt K mg a_FIELDS a_OPEN_PARTS C_Form C_GlueError C_NoRule C_Rule) : FnOk P w K mg base CX0 1 f fd ["self"] (getSp C_Rule "_tags") := by
  refine F.ok sc_Rule_tags (fun vs H Q E h => ?_) (fun cdv A outer s0 H vs Q E hr h => ?_)
  · obtain ⟨a, dx, fs, v, rfl, _⟩ := h
    rfl
  · obtain ⟨a, dx, fs, v, rfl, ha, hl, q⟩ := h
    refine ⟨_, (pss_one (ps_ret (pe_fld (pv 0) rfl))), ?_⟩
    exact ⟨_, rfl, a, C_Rule, dx, fs, v, rfl, ha, T.k_Rule, T.a_Rule__tags, hl, q⟩
theorem ok_Rule_quiet {f : Addr} {fd : FuncData} (F : Fun K "quiet" "Rule.quiet" s_Rule_quiet f fd) (T : Txt K mg a_FIELDS a_OPEN_PARTS C_Form C_GlueError C_NoRule C_Rule) : FnOk P w K mg base CX0 1 f fd ["self"] (getSp C_Rule "_quiet") := by
  refine F.ok sc_Rule_quiet (fun vs H Q E h => ?_) (fun cdv A outer s0 H vs Q E hr h => ?_)
  · obtain ⟨a, dx, fs, v, rfl, _⟩ := h
    rfl
  · obtain ⟨a, dx, fs, v, rfl, ha, hl, q⟩ := h
    refine ⟨_, (pss_one (ps_ret (pe_fld (pv 0) rfl))), ?_⟩
    exact ⟨_, rfl, a, C_Rule, dx, fs, v, rfl, ha, T.k_Rule, T.a_Rule__quiet, hl, q⟩
/-! ### setters, refusing -/
def spSetX (CR CN : Addr) (k : Nat) : Sp := fun vs H Q X => ∃ (r : Addr) (v : V) (b e : Addr) (vals : Nat → V), vs = [.ref r, v] ∧ AnyV v H ∧ RuleL CR H r b e vals ∧ (goodV k v = true → ∀ H', Ex (hide r H) H' → RuleL CR H' r b e (setV vals k v) → Q .non H') ∧ (goodV k v = false → RaiseF CN (fieldS k) H X)
theorem okx_Rule_most__set {f : Addr} {fd : FuncData} (F : Fun K "most" "Rule.most" s_Rule_most__set f fd) (T : Txt K mg a_FIELDS a_OPEN_PARTS C_Form C_GlueError C_NoRule C_Rule) (D__check : DfR P w K mg base "_check" ["field", "value"] 3 (spCheckX C_NoRule)) : FnOk P w K mg base (L2.CX P w) 4 f fd ["self", "value"] (spSetX C_Rule C_NoRule 0) := by
  refine F.okX sc_Rule_most__set (fun vs H Q E h => ?_) (fun cdv A outer s0 H vs Q E hr h => ?_)
  · obtain ⟨r, v, b, e, vals, rfl, _⟩ := h
    rfl
  · obtain ⟨r, v, b, e, vals, rfl, hv, ⟨dx, fs, hrr, hf⟩, qy, qn⟩ := h
    refine ⟨_, (pss_cons (ps_expr (pe_dfR D__check (hr.mono (by decide)) (by rfl) (takes_of rfl rfl rfl rfl) (pa_cons pe_str (pa_cons (pv 1) pa_nil))))
      (pss_one (ps_fld (pv 0) (pv 1) rfl))), ?_⟩
    refine ⟨_, rfl, 0, v, rfl, by decide, hv, fun hg H1 e1 => ?_, fun hg => qn hg⟩
    have A0 : At0 (hide r H) r (.ins C_Rule dx fs) H1 := ⟨hide_le.trans e1, e1 _ _ hrr, hide_at⟩
    have l6 := hf.len
    exact s_fldA A0 rfl (ev_var rfl) T.k_Rule T.a_Rule__most (by omega) fun H2 A2 => qy hg H2 A2.ex ⟨dx, _, A2.at_, hf.put (k := 0) (by decide) v⟩
theorem okx_Rule_alone__set {f : Addr} {fd : FuncData} (F : Fun K "alone" "Rule.alone" s_Rule_alone__set f fd) (T : Txt K mg a_FIELDS a_OPEN_PARTS C_Form C_GlueError C_NoRule C_Rule) (D__check : DfR P w K mg base "_check" ["field", "value"] 3 (spCheckX C_NoRule)) : FnOk P w K mg base (L2.CX P w) 4 f fd ["self", "value"] (spSetX C_Rule C_NoRule 1) := by
  refine F.okX sc_Rule_alone__set (fun vs H Q E h => ?_) (fun cdv A outer s0 H vs Q E hr h => ?_)
  · obtain ⟨r, v, b, e, vals, rfl, _⟩ := h
    rfl
  · obtain ⟨r, v, b, e, vals, rfl, hv, ⟨dx, fs, hrr, hf⟩, qy, qn⟩ := h
    refine ⟨_, (pss_cons (ps_expr (pe_dfR D__check (hr.mono (by decide)) (by rfl) (takes_of rfl rfl rfl rfl) (pa_cons pe_str (pa_cons (pv 1) pa_nil))))
      (pss_one (ps_fld (pv 0) (pv 1) rfl))), ?_⟩
    refine ⟨_, rfl, 1, v, rfl, by decide, hv, fun hg H1 e1 => ?_, fun hg => qn hg⟩
    have A0 : At0 (hide r H) r (.ins C_Rule dx fs) H1 := ⟨hide_le.trans e1, e1 _ _ hrr, hide_at⟩
    have l6 := hf.len
    exact s_fldA A0 rfl (ev_var rfl) T.k_Rule T.a_Rule__alone (by omega) fun H2 A2 => qy hg H2 A2.ex ⟨dx, _, A2.at_, hf.put (k := 1) (by decide) v⟩
theorem okx_Rule_tags__set {f : Addr} {fd : FuncData} (F : Fun K "tags" "Rule.tags" s_Rule_tags__set f fd) (T : Txt K mg a_FIELDS a_OPEN_PARTS C_Form C_GlueError C_NoRule C_Rule) (D__check : DfR P w K mg base "_check" ["field", "value"] 3 (spCheckX C_NoRule)) : FnOk P w K mg base (L2.CX P w) 4 f fd ["self", "value"] (spSetX C_Rule C_NoRule 2) := by
  refine F.okX sc_Rule_tags__set (fun vs H Q E h => ?_) (fun cdv A outer s0 H vs Q E hr h => ?_)
  · obtain ⟨r, v, b, e, vals, rfl, _⟩ := h
    rfl
  · obtain ⟨r, v, b, e, vals, rfl, hv, ⟨dx, fs, hrr, hf⟩, qy, qn⟩ := h
    refine ⟨_, (pss_cons (ps_expr (pe_dfR D__check (hr.mono (by decide)) (by rfl) (takes_of rfl rfl rfl rfl) (pa_cons pe_str (pa_cons (pv 1) pa_nil))))
      (pss_one (ps_fld (pv 0) (pv 1) rfl))), ?_⟩
    refine ⟨_, rfl, 2, v, rfl, by decide, hv, fun hg H1 e1 => ?_, fun hg => qn hg⟩
    have A0 : At0 (hide r H) r (.ins C_Rule dx fs) H1 := ⟨hide_le.trans e1, e1 _ _ hrr, hide_at⟩
    have l6 := hf.len
    exact s_fldA A0 rfl (ev_var rfl) T.k_Rule T.a_Rule__tags (by omega) fun H2 A2 => qy hg H2 A2.ex ⟨dx, _, A2.at_, hf.put (k := 2) (by decide) v⟩
theorem okx_Rule_quiet__set {f : Addr} {fd : FuncData} (F : Fun K "quiet" "Rule.quiet" s_Rule_quiet__set f fd) (T : Txt K mg a_FIELDS a_OPEN_PARTS C_Form C_GlueError C_NoRule C_Rule) (D__check : DfR P w K mg base "_check" ["field", "value"] 3 (spCheckX C_NoRule)) : FnOk P w K mg base (L2.CX P w) 4 f fd ["self", "value"] (spSetX C_Rule C_NoRule 3) := by
  refine F.okX sc_Rule_quiet__set (fun vs H Q E h => ?_) (fun cdv A outer s0 H vs Q E hr h => ?_)
  · obtain ⟨r, v, b, e, vals, rfl, _⟩ := h
    rfl
  · obtain ⟨r, v, b, e, vals, rfl, hv, ⟨dx, fs, hrr, hf⟩, qy, qn⟩ := h
    refine ⟨_, (pss_cons (ps_expr (pe_dfR D__check (hr.mono (by decide)) (by rfl) (takes_of rfl rfl rfl rfl) (pa_cons pe_str (pa_cons (pv 1) pa_nil))))
      (pss_one (ps_fld (pv 0) (pv 1) rfl))), ?_⟩
    refine ⟨_, rfl, 3, v, rfl, by decide, hv, fun hg H1 e1 => ?_, fun hg => qn hg⟩
    have A0 : At0 (hide r H) r (.ins C_Rule dx fs) H1 := ⟨hide_le.trans e1, e1 _ _ hrr, hide_at⟩
    have l6 := hf.len
    exact s_fldA A0 rfl (ev_var rfl) T.k_Rule T.a_Rule__quiet (by omega) fun H2 A2 => qy hg H2 A2.ex ⟨dx, _, A2.at_, hf.put (k := 3) (by decide) v⟩
/-- a new list of the marks -/
def spMarks (CR : Addr) (beg : Bool) : Sp := fun vs H Q _ => ∃ (r b e : Addr) (vals : Nat → V) (us : List V), vs = [.ref r] ∧ RuleL CR H r b e vals ∧ H (if beg = true then b else e) = some (.lst us) ∧ ∀ l H', H l = none → Ex H H' → H' l = some (.lst us) → Q (.ref l) H'
theorem ok_Rule_begins {f : Addr} {fd : FuncData} (F : Fun K "begins" "Rule.begins" s_Rule_begins f fd) (T : Txt K mg a_FIELDS a_OPEN_PARTS C_Form C_GlueError C_NoRule C_Rule) : FnOk P w K mg base CX0 1 f fd ["self"] (spMarks C_Rule true) := by
  refine F.ok sc_Rule_begins (fun vs H Q E h => ?_) (fun cdv A outer s0 H vs Q E hr h => ?_)
  · obtain ⟨r, b, e, vals, us, rfl, _⟩ := h
    rfl
  · obtain ⟨r, b, e, vals, us, rfl, ⟨dx, fs, hr1, hf⟩, hl, q⟩ := h
    refine ⟨_, (pss_one (ps_ret (pe_callTy call_list_of (by rfl) T.n_list (by decide +kernel) (pa_cons (pe_fld (pv 0) rfl) pa_nil)))), ?_⟩
    exact s_retL (el_listL (tFld_ev rfl hr1 T.k_Rule T.a_Rule__begins hf.bg) (sq_of hl)) fun l H2 hl2 e2 hL => q l H2 hl2 e2 hL
theorem ok_Rule_ends {f : Addr} {fd : FuncData} (F : Fun K "ends" "Rule.ends" s_Rule_ends f fd) (T : Txt K mg a_FIELDS a_OPEN_PARTS C_Form C_GlueError C_NoRule C_Rule) : FnOk P w K mg base CX0 1 f fd ["self"] (spMarks C_Rule false) := by
  refine F.ok sc_Rule_ends (fun vs H Q E h => ?_) (fun cdv A outer s0 H vs Q E hr h => ?_)
  · obtain ⟨r, b, e, vals, us, rfl, _⟩ := h
    rfl
  · obtain ⟨r, b, e, vals, us, rfl, ⟨dx, fs, hr1, hf⟩, hl, q⟩ := h
    refine ⟨_, (pss_one (ps_ret (pe_callTy call_list_of (by rfl) T.n_list (by decide +kernel) (pa_cons (pe_fld (pv 0) rfl) pa_nil)))), ?_⟩
    exact s_retL (el_listL (tFld_ev rfl hr1 T.k_Rule T.a_Rule__ends hf.en) (sq_of hl)) fun l H2 hl2 e2 hL => q l H2 hl2 e2 hL
/-! ### str(form) -/
theorem join_list (ps : List Str) : (Txt.join "" ps).cps.toList = ps.flatMap fun p => p.cps.toList := by
  have e0 : ("" : Str).cps = #[] := by decide +kernel
  have key : ∀ (l : List Str) (a : Array Nat), (l.foldl (fun acc p => acc ++ ("" : Str).cps ++ p.cps) a).toList = a.toList ++ l.flatMap fun p => p.cps.toList := by
    intro l
    induction l with
    | nil => intro a; simp
    | cons p l ih =>
      intro a
      rw [List.foldl_cons, ih, e0]
      simp
  cases ps with
  | nil => decide +kernel
  | cons p ps =>
    show (ps.foldl (fun acc p => acc ++ ("" : Str).cps ++ p.cps) p.cps).toList = _
    rw [key, List.flatMap_cons]
theorem join_ok {ps : List Str} (h : Parts ps) : okV (.str (Txt.join "" ps)) = true := by
  have e : ∀ z : Str, okV (.str z) = z.cps.toList.all fun x => decide (x < 0x110000) := fun z => by
    show z.cps.all _ = _
    rw [← Array.all_toList]
  rw [e, join_list, List.all_eq_true]
  intro c hc
  obtain ⟨p, hp, hcp⟩ := List.mem_flatMap.mp hc
  have := h.okV (.str p) (List.mem_map_of_mem hp)
  rw [e] at this
  exact List.all_eq_true.mp this c hcp
def nameF (ps : List Str) : Str := Txt.join "" ps
def spStrF (CF : Addr) : Sp := fun vs H Q _ => ∃ (a : Addr) (ps : List Str), vs = [.ref a] ∧ FormR CF ps a H ∧ RetV (.str (nameF ps)) H Q
theorem ok_Form___str__ {f : Addr} {fd : FuncData} (F : Fun K "__str__" "Form.__str__" s_Form___str__ f fd) (T : Txt K mg a_FIELDS a_OPEN_PARTS C_Form C_GlueError C_NoRule C_Rule) : FnOk P w K mg base CX0 1 f fd ["self"] (spStrF C_Form) := by
  refine F.ok sc_Form___str__ (fun vs H Q E h => ?_) (fun cdv A outer s0 H vs Q E hr h => ?_)
  · obtain ⟨a, ps, rfl, _⟩ := h
    rfl
  · obtain ⟨a, ps, rfl, ⟨⟨dx, tp, c, f1, f2, f3⟩, hPs, g1, g4⟩, q⟩ := h
    refine ⟨_, (pss_one (ps_ret (pe_join pe_str (pe_fld (pv 0) rfl)))), ?_⟩
    have sl : (ps.map (·.length)).sum ≤ 8 * ps.length := by
      clear g1 g4 q f2 f3
      have hl : ∀ p ∈ ps, p.length ≤ 8 := fun p hp => by have := hPs.len p hp; omega
      clear hPs
      induction ps with
      | nil => simp
      | cons p ps ih =>
        have := hl p List.mem_cons_self
        have := ih fun q hq => hl q (List.mem_cons_of_mem _ hq)
        rw [List.map_cons, List.sum_cons, List.length_cons]
        omega
    have ef : Ev (tFld K (tVar 0) "_parts") [some (.ref a)] H (.ref tp) := tFld_ev rfl f1 T.k_Form T.a_Form__parts (formF_parts tp c)
    exact ⟨⟨_, rfl⟩, ef H (Ex.refl _) _ fun H1 e1 => ⟨_, tp, ps, rfl, rfl, .inr (st_of (e1 _ _ f2)), by
      have : ("" : Str).length = 0 := by decide +kernel
      rw [this]
      omega, q H1 e1⟩⟩
/-! ### a Rule made or refused -/
def dueL (vals : Nat → V) (asked : List Nat) : Option Str := (asked.find? fun k => !goodV k (vals k)).map fieldS
theorem dueL_cons {vals : Nat → V} {k : Nat} {ks : List Nat} : dueL vals (k :: ks) = if goodV k (vals k) = true then dueL vals ks else some (fieldS k) := by
  unfold dueL
  rw [List.find?_cons]
  cases h : goodV k (vals k) <;> simp
def dueR (n : Nat) (vals : Nat → V) : Option Str := if 6 < n then some "marks" else dueL vals [0, 1, 2, 3]
def spRuleX (CR CN : Addr) (K : PySem.W.Frag) : Sp := fun vs H Q X => ∃ (a b0 e0 dx : Addr) (us ws : List V) (vals : Nat → V), vs = [.ref a, .ref b0, .ref e0, vals 0, vals 1, vals 2, vals 3] ∧ H a = some (.ins CR dx []) ∧ SqL K (hide a H) b0 us ∧ SqL K (hide a H) e0 ws ∧ (∀ k, k < 4 → AnyV (vals k) H) ∧ us.length ≤ 100 ∧ ws.length ≤ 100 ∧
  (∀ z, dueR (us.length + ws.length) vals = some z → RaiseF CN z H X) ∧
  (dueR (us.length + ws.length) vals = none → ∀ b e H', (hide a H) b = none → (hide a H) e = none → b ≠ e → Ex (hide a H) H' → H' b = some (.lst us) → H' e = some (.lst ws) → RuleL CR H' a b e vals → Q .non H')
theorem okx_Rule___init__ {f : Addr} {fd : FuncData} (F : Fun K "__init__" "Rule.__init__" s_Rule___init__ f fd) (T : Txt K mg a_FIELDS a_OPEN_PARTS C_Form C_GlueError C_NoRule C_Rule) (D__check : DfR P w K mg base "_check" ["field", "value"] 3 (spCheckX C_NoRule)) (D_NoRule___init__ : DfX P w K mg base "NoRule" C_NoRule ["self", "field"] 1 (spXI C_NoRule "field")) :
    FnOk P w K mg base (L2.CX P w) 4 f fd ["self", "begins", "ends", "most", "alone", "tags", "quiet"] (spRuleX C_Rule C_NoRule K) := by
  refine F.okX sc_Rule___init__ (fun vs H Q E h => ?_) (fun cdv A outer s0 H vs Q E hr h => ?_)
  · obtain ⟨a, b0, e0, dx, us, ws, vals, rfl, _⟩ := h
    rfl
  · obtain ⟨a, b0, e0, dx, us, ws, vals, rfl, ha, hb, he, hv, l1, l2, qn, qy⟩ := h
    refine ⟨_, (pss_cons (ps_if (pt_cmpR op_gt (pe_op op_add (pe_callB call_len_seq (by rfl) T.n_len PySem.boot_len (pa_cons (pv 1) pa_nil)) (pe_callB call_len_seq (by rfl) T.n_len PySem.boot_len (pa_cons (pv 2) pa_nil))) (pe_cst T.c_MOST_MARKS (by rfl)) (nomark _))
      (pss_one (ps_raiseX D_NoRule___init__ (hr.mono (by decide)) (by rfl) rfl (takes_of rfl rfl rfl rfl) (pa_cons pe_str pa_nil)))
      pss_nil)
      (pss_cons (ps_expr (pe_dfR D__check (hr.mono (by decide)) (by rfl) (takes_of rfl rfl rfl rfl) (pa_cons pe_str (pa_cons (pv 3) pa_nil))))
      (pss_cons (ps_expr (pe_dfR D__check (hr.mono (by decide)) (by rfl) (takes_of rfl rfl rfl rfl) (pa_cons pe_str (pa_cons (pv 4) pa_nil))))
      (pss_cons (ps_expr (pe_dfR D__check (hr.mono (by decide)) (by rfl) (takes_of rfl rfl rfl rfl) (pa_cons pe_str (pa_cons (pv 5) pa_nil))))
      (pss_cons (ps_expr (pe_dfR D__check (hr.mono (by decide)) (by rfl) (takes_of rfl rfl rfl rfl) (pa_cons pe_str (pa_cons (pv 6) pa_nil))))
      (pss_cons (ps_fld (pv 0) (pe_callTy call_list_of (by rfl) T.n_list (by decide +kernel) (pa_cons (pv 1) pa_nil)) rfl)
      (pss_cons (ps_fld (pv 0) (pe_callTy call_list_of (by rfl) T.n_list (by decide +kernel) (pa_cons (pv 2) pa_nil)) rfl)
      (pss_cons (ps_fld (pv 0) (pv 3) rfl)
      (pss_cons (ps_fld (pv 0) (pv 4) rfl)
      (pss_cons (ps_fld (pv 0) (pv 5) rfl)
      (pss_one (ps_fld (pv 0) (pv 6) rfl)))))))))))), ?_⟩
    generalize hG : hide a H = G at *
    have eG : Ex G H := hG ▸ hide_le
    have A0 : At0 G a (.ins C_Rule dx []) H := ⟨eG, ha, hG ▸ hide_at⟩
    refine q_when (b := decide (((us.length : Int) + (ws.length : Int)) > 6)) (et_test (ev_op (ev_op (ev_lenL (ev_var rfl) (ex_l A0.ex hb)) (ev_lenL (ev_var rfl) (ex_l A0.ex he)) rv_add) (by first | exact ev_c | exact T.c_MOST_MARKS) rv_I0)) (fun hb6 H1 e1 => ?_) (fun hb6 H1 e1 => ?_)
    · have h6 := of_decide_eq_true hb6
      have hd : dueR (us.length + ws.length) vals = some "marks" := if_pos (by omega)
      exact mkX (C := C_NoRule) (f := "field") ev_c fun d H3 hd3 e3 h3 => qn _ hd d H3 (e1.trans e3) h3
    have h6 := of_decide_eq_false hb6
    have hd : dueR (us.length + ws.length) vals = dueL vals [0, 1, 2, 3] := if_neg (by omega)
    rw [hd] at qn qy
    rw [dueL_cons] at qn qy
    refine ⟨_, rfl, 0, vals 0, rfl, by decide, (hv 0 (by decide)).ex e1, fun g0 H2 e2 => ?_, fun g0 => (qn _ (by rw [g0]; rfl)).ex e1⟩
    rw [g0, if_pos rfl, dueL_cons] at qn qy
    have e12 := e1.trans e2
    refine ⟨_, rfl, 1, vals 1, rfl, by decide, (hv 1 (by decide)).ex e12, fun g1 H3 e3 => ?_, fun g1 => (qn _ (by rw [g1]; rfl)).ex e12⟩
    rw [g1, if_pos rfl, dueL_cons] at qn qy
    have e13 := e12.trans e3
    refine ⟨_, rfl, 2, vals 2, rfl, by decide, (hv 2 (by decide)).ex e13, fun g2 H4 e4 => ?_, fun g2 => (qn _ (by rw [g2]; rfl)).ex e13⟩
    rw [g2, if_pos rfl, dueL_cons] at qn qy
    have e14 := e13.trans e4
    refine ⟨_, rfl, 3, vals 3, rfl, by decide, (hv 3 (by decide)).ex e14, fun g3 H5 e5 => ?_, fun g3 => (qn _ (by rw [g3]; rfl)).ex e14⟩
    rw [g3, if_pos rfl] at qy
    have A1 := A0.same (e14.trans e5)
    refine q_fldN A1 rfl (el_listL (ev_var rfl) (ex_l A1.ex hb)) T.k_Rule T.a_Rule__begins (by decide) fun bl G1 K1 nb g1' hbl A2 => ?_
    have lg := fun (f : Str) (v : V) (fs : List (Str × V)) => length_putF f v fs
    have z1 := lg "_begins" (.ref bl) []
    simp only [List.length_nil] at z1
    refine q_fldN A2 rfl (el_listL (ev_var rfl) (ex_l (g1'.trans A2.ex) he)) T.k_Rule T.a_Rule__ends (by omega) fun el G2 K2 ne g2' hel A3 => ?_
    have z2 := lg "_ends" (.ref el) (putF "_begins" (.ref bl) [])
    refine q_fldA A3 rfl (ev_var rfl) T.k_Rule T.a_Rule__most (by omega) fun K3 A4 => ?_
    have z3 := lg "_most" (vals 0) (putF "_ends" (.ref el) (putF "_begins" (.ref bl) []))
    refine q_fldA A4 rfl (ev_var rfl) T.k_Rule T.a_Rule__alone (by omega) fun K4 A5 => ?_
    have z4 := lg "_alone" (vals 1) (putF "_most" (vals 0) (putF "_ends" (.ref el) (putF "_begins" (.ref bl) [])))
    refine q_fldA A5 rfl (ev_var rfl) T.k_Rule T.a_Rule__tags (by omega) fun K5 A6 => ?_
    have z5 := lg "_tags" (vals 2) (putF "_alone" (vals 1) (putF "_most" (vals 0) (putF "_ends" (.ref el) (putF "_begins" (.ref bl) []))))
    refine s_fldA A6 rfl (ev_var rfl) T.k_Rule T.a_Rule__quiet (by omega) fun K6 A7 => ?_
    have z6 := lg "_quiet" (vals 3) (putF "_tags" (vals 2) (putF "_alone" (vals 1) (putF "_most" (vals 0) (putF "_ends" (.ref el) (putF "_begins" (.ref bl) [])))))
    have nbe : bl ≠ el := fun z => by
      rw [← z, hbl] at ne
      cases ne
    refine qy rfl bl el K6 nb (fresh_back g1' ne) nbe ((g1'.trans g2').trans A7.ex) (A7.ex _ _ (g2' _ _ hbl)) (A7.ex _ _ hel) ⟨dx, _, A7.at_, by omega, ?_, ?_, fun k hk => ?_, fun f hf => ?_⟩
    · (repeat (first | rw [lookup_putF, if_neg (by decide +kernel)] | rw [lookup_putF, if_pos rfl]))
    · (repeat (first | rw [lookup_putF, if_neg (by decide +kernel)] | rw [lookup_putF, if_pos rfl]))
    · match k, hk with
      | 0, _ => show List.lookup ("_most" : Str) _ = _; (repeat (first | rw [lookup_putF, if_neg (by decide +kernel)] | rw [lookup_putF, if_pos rfl]))
      | 1, _ => show List.lookup ("_alone" : Str) _ = _; (repeat (first | rw [lookup_putF, if_neg (by decide +kernel)] | rw [lookup_putF, if_pos rfl]))
      | 2, _ => show List.lookup ("_tags" : Str) _ = _; (repeat (first | rw [lookup_putF, if_neg (by decide +kernel)] | rw [lookup_putF, if_pos rfl]))
      | 3, _ => show List.lookup ("_quiet" : Str) _ = _; (repeat (first | rw [lookup_putF, if_neg (by decide +kernel)] | rw [lookup_putF, if_pos rfl]))
      | k + 4, h => omega
    · have hn : ∀ g ∈ keys6, ¬ f = g := fun g hg z => hf (z ▸ hg)
      unfold keys6 at hn
      rw [lookup_putF, if_neg (hn _ (by simp)), lookup_putF, if_neg (hn _ (by simp)), lookup_putF, if_neg (hn _ (by simp)), lookup_putF, if_neg (hn _ (by simp)), lookup_putF, if_neg (hn _ (by simp)), lookup_putF, if_neg (hn _ (by simp))]
      rfl

/-! ### change, refusing -/
def fieldsS : List Str := ["most", "alone", "tags", "quiet"]
theorem fields_at : ∀ k, k < 4 → fieldsS[k]? = some (fieldS k) := by decide +kernel
theorem fieldS_inj : ∀ j, j < 4 → ∀ k, k < 4 → fieldS j = fieldS k → j = k := by decide +kernel
theorem fieldS_mem {z : Str} (h : z ∈ fieldsS) : ∃ k, k < 4 ∧ z = fieldS k := by
  unfold fieldsS at h
  simp only [List.mem_cons, List.not_mem_nil, or_false] at h
  rcases h with rfl | rfl | rfl | rfl
  · exact ⟨0, by decide, rfl⟩
  · exact ⟨1, by decide, rfl⟩
  · exact ⟨2, by decide, rfl⟩
  · exact ⟨3, by decide, rfl⟩
theorem inV_fields {z : Str} : inV (.str z) (fieldsS.map V.str) = decide (z ∈ fieldsS) := by
  have e : ∀ zs : List Str, inV (.str z) (zs.map V.str) = decide (z ∈ zs) := fun zs => by
    induction zs with
    | nil => rfl
    | cons x zs ih =>
      show (eqV (.str x) (.str z) || inV (.str z) (zs.map V.str)) = _
      rw [ih]
      have e1 : eqV (.str x) (.str z) = decide (z = x) := by
        show (x == z) = _
        by_cases c : z = x
        · subst c
          simp
        · rw [decide_eq_false c]
          exact beq_eq_false_iff_ne.mpr fun y => c y.symm
      rw [e1, ← Bool.decide_or]
      congr 1
      simp [List.mem_cons]
  exact e _
/-- the settings looked at, field by field -/
def setK (kv : List (Key × V)) (vals : Nat → V) : Nat → V := fun k => (valV kv (.inr (fieldS k))).getD (vals k)
def dueC (kv : List (Key × V)) (ks : List Nat) : Option Str := (ks.find? fun k => match valV kv (.inr (fieldS k)) with | some v => !goodV k v | none => false).map fieldS
theorem dueC_cons {kv : List (Key × V)} {k : Nat} {ks : List Nat} : dueC kv (k :: ks) = (match valV kv (.inr (fieldS k)) with | some v => if goodV k v = true then dueC kv ks else some (fieldS k) | none => dueC kv ks) := by
  unfold dueC
  rw [List.find?_cons]
  cases h : valV kv (.inr (fieldS k)) with
  | none => rfl
  | some v =>
    dsimp only
    cases h2 : goodV k v <;> simp
def namesIn (kv : List (Key × V)) : Prop := ∀ p ∈ kv, ∃ z, p.1 = .inr z ∧ z ∈ fieldsS
def spChgX (CR CN : Addr) : Sp := fun vs H Q X => ∃ (r d b e : Addr) (vals : Nat → V) (kv : List (Key × V)), vs = [.ref r, .ref d] ∧ r ≠ d ∧ RuleL CR H r b e vals ∧ H d = some (.dK kv) ∧ (∀ p ∈ kv, ∃ z, p.1 = .inr z) ∧ (∀ k, k < 4 → ∀ v, valV kv (.inr (fieldS k)) = some v → AnyV v H) ∧
  (¬ namesIn kv → RaiseF CN "name" (hide d H) X) ∧
  (namesIn kv → ∀ z, dueC kv [0, 1, 2, 3] = some z → RaiseF CN z (hide d H) X) ∧
  (namesIn kv → dueC kv [0, 1, 2, 3] = none → ∀ H', Ex (hide r H) H' → RuleL CR H' r b e (setK kv vals) → Q .non H')
def ksAll : List (List Str) := [["most"], ["alone"], ["tags"], ["quiet"], ["tags", "most"], ["quiet", "alone"], [], ["quiet", "tags", "alone", "most"], ["most", "speed"]]
theorem okx_Rule_change {f : Addr} {fd : FuncData} (F : Fun K "change" "Rule.change" s_Rule_change f fd) (T : Txt K mg a_FIELDS a_OPEN_PARTS C_Form C_GlueError C_NoRule C_Rule) (D__check : DfR P w K mg base "_check" ["field", "value"] 3 (spCheckX C_NoRule)) (D_NoRule___init__ : DfX P w K mg base "NoRule" C_NoRule ["self", "field"] 1 (spXI C_NoRule "field")) :
    FnW P w K mg base (L2.CX P w) 5 f (fun ks zs vs H Q E => ks ∈ ksAll ∧ spW (spChgX C_Rule C_NoRule) ks zs vs H Q E) := by
  obtain ⟨oc, od, kw, doc, pm, an, cdv, ct, osl, rfl, lk, hcd⟩ := F.ex
  refine fn_more (p1 := "self") (pd := "settings") lk hcd sc_Rule_change cxUp (fun ks => ks ∈ ksAll) (fun u ks ws hC hl => ?_) (fun A outer s0 H vs Q E hr h => ?_)
  · unfold ksAll at hC
    simp only [List.mem_cons, List.not_mem_nil, or_false] at hC
    rcases hC with rfl | rfl | rfl | rfl | rfl | rfl | rfl | rfl | rfl
    · match ws, hl with | [_], _ => rfl
    · match ws, hl with | [_], _ => rfl
    · match ws, hl with | [_], _ => rfl
    · match ws, hl with | [_], _ => rfl
    · match ws, hl with | [_, _], _ => rfl
    · match ws, hl with | [_, _], _ => rfl
    · match ws, hl with | [], _ => rfl
    · match ws, hl with | [_, _, _, _], _ => rfl
    · match ws, hl with | [_, _], _ => rfl
  obtain ⟨r, d, b, e, vals, kv, rfl, nrd, ⟨dx, fs, hrr, hf⟩, hd, hkz, hav, qn1, qn2, qy⟩ := h
  refine ⟨_, (pss_cons (ps_lock (ps_for (passes_of rfl) rfl (pi_keys (pv 1)) (pg_name (i := 2) sc_Rule_change.nd rfl (Or.inl rfl))
      (pss_one (ps_if (pt_cmpR op_notIn_seq (pv 2) (pe_cst T.c_FIELDS (by rfl)) (by rfl))
      (pss_one (ps_raiseX D_NoRule___init__ (hr.mono (by decide)) (by rfl) rfl (takes_of rfl rfl rfl rfl) (pa_cons pe_str pa_nil)))
      pss_nil))))
      (pss_cons (ps_for (passes_of rfl) rfl (pi_tup (pe_cst T.c_FIELDS (by rfl))) (pg_name (i := 3) sc_Rule_change.nd rfl (Or.inl rfl))
      (pss_one (ps_if (pt_cmp (pc_din (hu_of hr) (pv 3) (pv 1)))
      (pss_one (ps_expr (pe_dfR D__check (hr.mono (by decide)) (by rfl) (takes_of rfl rfl rfl rfl) (pa_cons (pv 3) (pa_cons (pe_dget (hu_of hr) (pv 1) (pv 3) (fun _ _ => rfl)) pa_nil)))))
      pss_nil)))
      (pss_cons (ps_fld (pv 0) (pe_dget2 (hu_of hr) (pv 1) pe_str (pe_fld (pv 0) rfl) ⟨rfl, rfl, rfl, rfl⟩) rfl)
      (pss_cons (ps_fld (pv 0) (pe_dget2 (hu_of hr) (pv 1) pe_str (pe_fld (pv 0) rfl) ⟨rfl, rfl, rfl, rfl⟩) rfl)
      (pss_cons (ps_fld (pv 0) (pe_dget2 (hu_of hr) (pv 1) pe_str (pe_fld (pv 0) rfl) ⟨rfl, rfl, rfl, rfl⟩) rfl)
      (pss_one (ps_fld (pv 0) (pe_dget2 (hu_of hr) (pv 1) pe_str (pe_fld (pv 0) rfl) ⟨rfl, rfl, rfl, rfl⟩) rfl))))))), ?_⟩
  -- the names
  refine ⟨d, _, hd, trivial, fun od2 => ?_⟩
  refine ⟨_, rfl, d, od2, rfl, .inl ⟨kv, upd_same, ?_⟩⟩
  refine for_it walk_keys (fun i σ' H' => (∃ y, σ' = [some (.ref r), some (.ref d), y, none]) ∧ Ex (upd H d (.frz od2 (.dK kv))) H' ∧ ∀ p ∈ kv.take i, ∃ z, p.1 = .inr z ∧ z ∈ fieldsS) ⟨⟨none, rfl⟩, Ex.refl _, fun p hp => by cases hp⟩ (fun i σ' H' _ h => h.2.1 _ _ upd_same) (fun i x σ' H' H'' hi h y => ?_) (fun σ' H2 h => ?_)
  · obtain ⟨⟨y1, rfl⟩, e1, hin⟩ := h
    obtain ⟨rfl, k, v, hk, rfl⟩ := y
    obtain ⟨z, hz⟩ := hkz _ (List.mem_of_getElem? hk)
    have hz : k = .inr z := hz
    subst hz
    dsimp only [gName]
    show tIfS _ _ _ _ (List.set _ 2 (some (V.str z))) _
    refine s_when (b := !decide (z ∈ fieldsS)) (et_is (et_test (ev_op (ev_var rfl) (by first | exact ev_c | exact T.c_FIELDS) (rv_niT T.o_FIELDS.at_ rfl rfl))) (congrArg (!·) inV_fields)) (fun hb H2 e2 => ?_) (fun hb H2 e2 => ⟨⟨_, rfl⟩, e1.trans e2, fun p hp => ?_⟩)
    · have hno : ¬ namesIn kv := fun hn => by
        obtain ⟨z2, e3, h3⟩ := hn _ (List.mem_of_getElem? hk)
        cases e3
        rw [decide_eq_true h3] at hb
        cases hb
      refine mkX (C := C_NoRule) (f := "field") ev_c fun d2 H4 hd2 e4 h4 => qn1 hno d2 H4 (fun x o hx => ?_) h4
      obtain ⟨nx, hx⟩ := hide_some hx
      exact e4 _ _ (e2 _ _ (e1 _ _ (by rw [upd_ne nx]; exact hx)))
    · rw [List.take_add_one, hk] at hp
      rcases List.mem_append.mp hp with m | m
      · exact hin p m
      · obtain rfl : p = (.inr z, v) := by simpa using m
        exact ⟨z, rfl, by simpa using hb⟩
  obtain ⟨⟨y2, rfl⟩, e1, hin⟩ := h
  rw [List.take_length] at hin
  have hnm : namesIn kv := hin
  refine ⟨e1 _ _ upd_same, ?_⟩
  have e2 : Ex H (upd H2 d (.dK kv)) := fun x o hx => by
    by_cases z : x = d
    · rw [z, upd_same, ← hd, ← z, hx]
    · rw [upd_ne z]
      exact e1 _ _ (by rw [upd_ne z]; exact hx)
  generalize upd H2 d (.dK kv) = H3 at e2
  clear e1 H2
  have qn := qn2 hnm
  have qyy := qy hnm
  -- the settings looked at
  have chk : ∀ {H1 : Hp} {k : Nat} {ks : List Nat} {D : Ends}, Ex H H1 → k < 4 → (∀ z, dueC kv (k :: ks) = some z → RaiseF C_NoRule z (hide d H) E) → (∀ H2, Ex H H2 → (∀ v, valV kv (.inr (fieldS k)) = some v → goodV k v = true) → D.nx [some (.ref r), some (.ref d), y2, some (.str (fieldS k))] H2) →
      tIfS (tB (tDIn (tVar 3) (tVar 1))) (tDrop (tCallS (spCheckX C_NoRule) (WE (fun cls d _ H' => E cls d H')) (tCons (tVar 3) (tCons (tDGet (tVar 1) (tVar 3)) tNil)))) tNext D [some (.ref r), some (.ref d), y2, some (.str (fieldS k))] H1 := fun {H1 k ks D} e1 hk qx kc => by
    refine s_if (b := (valV kv (.inr (fieldS k))).isSome) (et_B fun H4 e4 Q q => ⟨_, rfl, _, rfl, d, _, rfl, DGet.k (k := .inr (fieldS k)) (e4 _ _ (e1 _ _ hd)), q H4 (Ex.refl _)⟩) (fun hb H4 e4 => ?_) (fun hb H4 e4 => kc H4 (e1.trans e4) fun v hv => ?_)
    · cases hv : valV kv (.inr (fieldS k)) with
      | none =>
        rw [hv] at hb
        cases hb
      | some v =>
        refine ⟨_, rfl, _, rfl, _, rfl, d, v, rfl, ?_, k, v, rfl, hk, (hav k hk v hv).ex (e1.trans e4), fun hg H6 e6 => kc H6 ((e1.trans e4).trans e6) fun v2 hv2 => ?_, fun hg => ?_⟩
        · rw [← hv]
          exact DGet.k (k := .inr (fieldS k)) (e4 _ _ (e1 _ _ hd))
        · rw [hv] at hv2
          cases hv2
          exact hg
        · refine (qx (fieldS k) ?_).ex (hide_le.trans (e1.trans e4))
          rw [dueC_cons, hv]
          dsimp only
          rw [hg]
          rfl
    · rw [hv] at hb
      cases hb
  have skip : ∀ {k : Nat} {ks : List Nat}, (∀ v, valV kv (.inr (fieldS k)) = some v → goodV k v = true) → dueC kv (k :: ks) = dueC kv ks := fun {k ks} hg => by
    rw [dueC_cons]
    cases hv : valV kv (.inr (fieldS k)) with
    | none => rfl
    | some v =>
      dsimp only
      rw [hg v hv, if_pos rfl]
  refine q_forT (by first | exact ev_c | exact T.c_FIELDS) T.o_FIELDS.at_ (fun i σ' H' => (∃ y3, σ' = [some (.ref r), some (.ref d), y2, y3]) ∧ Ex H H' ∧ dueC kv [0, 1, 2, 3] = dueC kv ([0, 1, 2, 3].drop i)) (fun H4 e4 => ⟨⟨none, rfl⟩, e2.trans e4, rfl⟩) (fun _ _ _ _ _ => T.o_FIELDS.at_) (fun i x σ' H4 hx h => ?_) (fun σ' H4 h => ?_)
  · obtain ⟨⟨y3, rfl⟩, e4, hdu⟩ := h
    have hx2 : (fieldsS.map V.str)[i]? = some x := hx
    have hi : i < 4 := (List.getElem?_eq_some_iff.mp hx2).1
    rw [List.getElem?_map, fields_at i hi] at hx2
    obtain rfl : V.str (fieldS i) = x := Option.some.inj hx2
    have hdr : ∃ ks, [0, 1, 2, 3].drop i = i :: ks ∧ [0, 1, 2, 3].drop (i + 1) = ks := by
      match i, hi with
      | 0, _ => exact ⟨_, rfl, rfl⟩
      | 1, _ => exact ⟨_, rfl, rfl⟩
      | 2, _ => exact ⟨_, rfl, rfl⟩
      | 3, _ => exact ⟨_, rfl, rfl⟩
      | i + 4, h => omega
    obtain ⟨ks, d1, d2⟩ := hdr
    rw [d1] at hdu
    refine chk (k := i) (ks := ks) e4 hi (fun z hz => qn z (by rw [hdu]; exact hz)) fun H5 e5 hg => ⟨⟨_, rfl⟩, e5, ?_⟩
    rw [d2, hdu, skip hg]
  obtain ⟨⟨y3, rfl⟩, e4, hdu⟩ := h
  have hnone : dueC kv [0, 1, 2, 3] = none := hdu
  have qz := qyy hnone
  have A0 : At0 (hide r H) r (.ins C_Rule dx fs) H4 := ⟨hide_le.trans e4, e4 _ _ hrr, hide_at⟩
  have get2 : ∀ {σ : L2.St} {H1 : Hp} {f : Str} {k : Nat} {z : V} {fs : List (Str × V)}, At0 (hide r H) r (.ins C_Rule dx fs) H1 → σ[0]? = some (some (.ref r)) → σ[1]? = some (some (.ref d)) → NoAttr K C_Rule f → fs.lookup f = some z → Ev (tDGet2 (tVar 1) (tC (.str (fieldS k))) (tFld K (tVar 0) f)) σ H1 ((valV kv (.inr (fieldS k))).getD z) := fun {σ H1 f k z fs} A h0 h1 na hl H5 e5 Q q => by
    have hH : H1 d = some (.dK kv) := A.ex _ _ (by rw [hide_ne nrd.symm]; exact hd)
    exact ⟨_, h1, d, rfl, .inl ⟨_, .inl (e5 _ _ hH)⟩, (tFld_ev h0 A.at_ T.k_Rule na hl) H5 e5 _ fun H6 e6 => ⟨_, DGet.k (k := .inr (fieldS k)) (e6 _ _ (e5 _ _ hH)), q H6 e6⟩⟩
  have l6 := hf.len
  refine q_fldA A0 rfl (get2 (k := 0) A0 rfl rfl T.a_Rule__most (hf.val 0 (by decide))) T.k_Rule T.a_Rule__most (by omega) fun H5 A1 => ?_
  have f1 := hf.put (k := 0) (by decide) ((valV kv (.inr (fieldS 0))).getD (vals 0))
  have l1 := f1.len
  refine q_fldA A1 rfl (get2 (k := 1) A1 rfl rfl T.a_Rule__alone (f1.val 1 (by decide))) T.k_Rule T.a_Rule__alone (Nat.lt_of_le_of_lt l1 (by decide)) fun H6 A2 => ?_
  have f2 := f1.put (k := 1) (by decide) ((valV kv (.inr (fieldS 1))).getD (vals 1))
  refine q_fldA A2 rfl (get2 (k := 2) A2 rfl rfl T.a_Rule__tags (f2.val 2 (by decide))) T.k_Rule T.a_Rule__tags (Nat.lt_of_le_of_lt f2.len (by decide)) fun H7 A3 => ?_
  have f3 := f2.put (k := 2) (by decide) ((valV kv (.inr (fieldS 2))).getD (vals 2))
  refine s_fldA A3 rfl (get2 (k := 3) A3 rfl rfl T.a_Rule__quiet (f3.val 3 (by decide))) T.k_Rule T.a_Rule__quiet (Nat.lt_of_le_of_lt f3.len (by decide)) fun H8 A4 => ?_
  have f4 := f3.put (k := 3) (by decide) ((valV kv (.inr (fieldS 3))).getD (vals 3))
  refine qz H8 A4.ex ⟨dx, _, A4.at_, f4.len, f4.bg, f4.en, fun k hk => ?_, f4.no⟩
  refine (f4.val k hk).trans ?_
  match k, hk with
  | 0, _ => rfl
  | 1, _ => rfl
  | 2, _ => rfl
  | 3, _ => rfl
  | k + 4, h => omega
/-! ### assign -/
def spAsgX (CR CN : Addr) : Sp := fun vs H Q X => ∃ (r : Addr) (z : Str) (v : V) (b e : Addr) (vals : Nat → V), vs = [.ref r, .str z, v] ∧ AnyV v H ∧ RuleL CR H r b e vals ∧
  (∀ k, k < 4 → z = fieldS k → goodV k v = true → ∀ H', Ex (hide r H) H' → RuleL CR H' r b e (setV vals k v) → Q .non H') ∧ (∀ k, k < 4 → z = fieldS k → goodV k v = false → RaiseF CN (fieldS k) H X) ∧ (z ∉ fieldsS → RaiseF CN "name" H X)
theorem okx_assign {f : Addr} {fd : FuncData} (F : Fun K "assign" "assign" s_assign f fd) (T : Txt K mg a_FIELDS a_OPEN_PARTS C_Form C_GlueError C_NoRule C_Rule) (D_Rule_most__set : DfPS P w K mg base C_Rule "most" 4 (spSetX C_Rule C_NoRule 0)) (D_Rule_alone__set : DfPS P w K mg base C_Rule "alone" 4 (spSetX C_Rule C_NoRule 1)) (D_Rule_tags__set : DfPS P w K mg base C_Rule "tags" 4 (spSetX C_Rule C_NoRule 2)) (D_Rule_quiet__set : DfPS P w K mg base C_Rule "quiet" 4 (spSetX C_Rule C_NoRule 3))
    (D_NoRule___init__ : DfX P w K mg base "NoRule" C_NoRule ["self", "field"] 1 (spXI C_NoRule "field")) : FnOk P w K mg base (L2.CX P w) 7 f fd ["rule", "field", "value"] (spAsgX C_Rule C_NoRule) := by
  refine F.okX sc_assign (fun vs H Q E h => ?_) (fun cdv A outer s0 H vs Q E hr h => ?_)
  · obtain ⟨r, z, v, b, e, vals, rfl, _⟩ := h
    rfl
  · obtain ⟨r, z, v, b, e, vals, rfl, hv, ⟨dx, fs, hrr, hf⟩, qy, qn, qx⟩ := h
    refine ⟨_, (pss_one (ps_if (pt_cmpR op_eq (pv 1) pe_str (nomark _))
      (pss_one (ps_asg (pv 2) (pg_propS T.k_Rule D_Rule_most__set (hr.mono (by decide)) (takes_of rfl rfl rfl rfl) (pv 0))))
      (pss_one (ps_if (pt_cmpR op_eq (pv 1) pe_str (nomark _))
      (pss_one (ps_asg (pv 2) (pg_propS T.k_Rule D_Rule_alone__set (hr.mono (by decide)) (takes_of rfl rfl rfl rfl) (pv 0))))
      (pss_one (ps_if (pt_cmpR op_eq (pv 1) pe_str (nomark _))
      (pss_one (ps_asg (pv 2) (pg_propS T.k_Rule D_Rule_tags__set (hr.mono (by decide)) (takes_of rfl rfl rfl rfl) (pv 0))))
      (pss_one (ps_if (pt_cmpR op_eq (pv 1) pe_str (nomark _))
      (pss_one (ps_asg (pv 2) (pg_propS T.k_Rule D_Rule_quiet__set (hr.mono (by decide)) (takes_of rfl rfl rfl rfl) (pv 0))))
      (pss_one (ps_raiseX D_NoRule___init__ (hr.mono (by decide)) (by rfl) rfl (takes_of rfl rfl rfl rfl) (pa_cons pe_str pa_nil))))))))))), ?_⟩
    have one : ∀ {k : Nat} {H1 : Hp}, k < 4 → z = fieldS k → Ex H H1 → tAsg (tVar 2) (gPropS C_Rule (spSetX C_Rule C_NoRule k) (fun cls d _ H' => E cls d H') (tVar 0)) { nx := fun _ H' => Q .non H', rt := Q } [some (.ref r), some (.str z), some v] H1 := fun {k H1} hk hz e1 =>
      ⟨_, rfl, _, rfl, r, dx, fs, rfl, e1 _ _ hrr, r, v, b, e, vals, rfl, hv.ex e1, ⟨dx, fs, e1 _ _ hrr, hf⟩, fun hg H2 e2 hR => qy k hk hz hg H2 ((ex_hide e1).trans e2) hR, fun hg => (qn k hk hz hg).ex e1⟩
    refine s_if (b := decide (z = "most")) (et_test (ev_op (ev_var rfl) ev_c rv_eqS)) (fun hb H1 e1 => one (by decide) (of_decide_eq_true hb) e1) (fun hb0 H1 e1 => ?_)
    refine s_if (b := decide (z = "alone")) (et_test (ev_op (ev_var rfl) ev_c rv_eqS)) (fun hb H2 e2 => one (by decide) (of_decide_eq_true hb) (e1.trans e2)) (fun hb1 H2 e2 => ?_)
    refine s_if (b := decide (z = "tags")) (et_test (ev_op (ev_var rfl) ev_c rv_eqS)) (fun hb H3 e3 => one (by decide) (of_decide_eq_true hb) ((e1.trans e2).trans e3)) (fun hb2 H3 e3 => ?_)
    refine s_if (b := decide (z = "quiet")) (et_test (ev_op (ev_var rfl) ev_c rv_eqS)) (fun hb H4 e4 => one (by decide) (of_decide_eq_true hb) (((e1.trans e2).trans e3).trans e4)) (fun hb3 H4 e4 => ?_)
    have nf : z ∉ fieldsS := fun hm => by
      unfold fieldsS at hm
      simp only [List.mem_cons, List.not_mem_nil, or_false] at hm
      rcases hm with h | h | h | h
      · exact of_decide_eq_false hb0 h
      · exact of_decide_eq_false hb1 h
      · exact of_decide_eq_false hb2 h
      · exact of_decide_eq_false hb3 h
    exact mkX (C := C_NoRule) (f := "field") ev_c fun d H5 hd e5 h5 => qx nf d H5 ((((e1.trans e2).trans e3).trans e4).trans e5) h5

/-! ### _law_value, _law_good, _law_fields, _law_due -/
theorem in13 {k : Nat} : inV (.int (k : Int)) [.int 1, .int 3] = decide (k = 1 ∨ k = 3) := by
  show ((1 : Int) == (k : Int) || ((3 : Int) == (k : Int) || false)) = _
  by_cases c1 : k = 1
  · subst c1
    rfl
  · by_cases c3 : k = 3
    · subst c3
      rfl
    · rw [decide_eq_false (by omega : ¬ (k = 1 ∨ k = 3)), beq_eq_false_iff_ne.mpr (by omega : (1 : Int) ≠ (k : Int)), beq_eq_false_iff_ne.mpr (by omega : (3 : Int) ≠ (k : Int))]
      rfl
theorem et_in13 {σ : L2.St} {H : Hp} {i k : Nat} (hi : σ[i]? = some (some (.int (k : Int)))) : EvT (tTest (tOp (rIn K false) (tVar i) (tTup (tCons (tC (.int 1)) (tCons (tC (.int 3)) tNil))))) σ H (decide (k = 1 ∨ k = 3)) :=
  et_test fun H1 e Q q => ⟨_, hi, sz_of (by simp), fun t ht => ⟨t, _, rfl, .inr (st_of upd_same), rfl, rfl, by
    show Q (.bl (inV (.int (k : Int)) [.int 1, .int 3])) _
    rw [in13]
    exact q _ (Ex.new ht)⟩⟩
def spVal : Sp := fun vs H Q _ => ∃ (p : Addr) (s : Int × Int) (k : Nat), vs = [.ref p, .int (k : Int)] ∧ H p = some (pl s) ∧ Pk s ∧ ∀ v s' H', AnyV v H' → (∀ t, v = .ref t → t ≠ p) → Pk s' → Ex (hide p H) H' → H' p = some (pl s') → Q v H'
theorem ok__law_value {f : Addr} {fd : FuncData} (F : Fun K "_law_value" "_law_value" s__law_value f fd) (T : Txt K mg a_FIELDS a_OPEN_PARTS C_Form C_GlueError C_NoRule C_Rule) (D__law_take : Df P w K mg base "_law_take" ["pool", "many"] 1 spTake) : FnOk P w K mg base CX0 2 f fd ["pool", "k"] spVal := by
  refine F.ok sc__law_value (fun vs H Q E h => ?_) (fun cdv A outer s0 H vs Q E hr h => ?_)
  · obtain ⟨p, s, k, rfl, _⟩ := h
    rfl
  · obtain ⟨p, s, k, rfl, hp, hk, q⟩ := h
    refine ⟨_, (pss_cons (ps_set (i := 2) sc__law_value.nd rfl (Or.inl rfl) (pe_df D__law_take (hr.mono (by decide)) (by rfl) (pa_cons (pv 0) (pa_cons pe_int pa_nil))))
      (pss_cons (ps_if (pt_cmpR op_eq (pv 2) pe_int (nomark _))
      (pss_one (ps_ret (pe_ix ix_list (pe_lst (pa_cons pe_non (pa_cons pe_bl (pa_cons pe_bl (pa_cons pe_str (pa_cons pe_str (pa_cons (pe_tup pa_nil) pa_nil))))))) (pe_df D__law_take (hr.mono (by decide)) (by rfl) (pa_cons (pv 0) (pa_cons pe_int pa_nil))) (fun _ _ => rfl))))
      pss_nil)
      (pss_cons (ps_if (pt_cmpR op_in_seq (pv 1) (pe_tup (pa_cons pe_int (pa_cons pe_int pa_nil))) (by rfl))
      (pss_cons (ps_if (pt_cmpR op_eq (pv 2) pe_int (nomark _))
      (pss_one (ps_ret (pe_df D__law_take (hr.mono (by decide)) (by rfl) (pa_cons (pv 0) (pa_cons pe_int pa_nil)))))
      pss_nil)
      (pss_one (ps_ret (pe_cmpR op_eq (pe_op op_mod (pv 2) pe_int) pe_int (nomark _)))))
      pss_nil)
      (pss_cons (ps_if (pt_cmpR op_eq (pv 2) pe_int (nomark _))
      (pss_one (ps_ret (pe_op op_sub (pe_df D__law_take (hr.mono (by decide)) (by rfl) (pa_cons (pv 0) (pa_cons pe_int pa_nil))) pe_int)))
      pss_nil)
      (pss_cons (ps_if (pt_cmpR op_eq (pv 2) pe_int (nomark _))
      (pss_one (ps_ret pe_non))
      pss_nil)
      (pss_one (ps_ret (pe_op op_add pe_int (pe_df D__law_take (hr.mono (by decide)) (by rfl) (pa_cons (pv 0) (pa_cons pe_int pa_nil))))))))))), ?_⟩
    have K0 := Kn.here hp
    have t6 := take_lt (s := s) (n := 6) (by decide)
    have hk1 : Pk (take s 6).2 := take_pk hk
    refine qp_asg K0 (evp_take rfl hk (by decide) (by decide)) fun H1 K1 e1 => ?_
    obtain ⟨c, hc⟩ : ∃ c, c = (take s 6).1 := ⟨_, rfl⟩
    rw [← hc] at t6 ⊢
    generalize (take s 6).2 = s1 at K1 hk1
    have fin : ∀ {v : V} {s' : Int × Int} {H' : Hp}, AnyV v H' → (∀ t, v = .ref t → t ≠ p) → Pk s' → Ex (hide p H) H' → H' p = some (pl s') → Q v H' := fun a n h e g => q _ _ _ a n h e g
    refine q_when (b := decide (c = 0)) (et_test (ev_op (ev_var rfl) ev_c rv_eqI)) (fun hb H2 e2 => ?_) (fun hb0 H2 e2 => ?_)
    · have K2 := K1.same e2
      have x2 := e1.trans e2
      -- one of six
      refine ⟨sz_of (by simp), fun t ht => ⟨sz_of (by simp), fun l hl => ?_⟩⟩
      have e3 : Ex H2 (upd (upd H2 t (.tup [])) l (.lst [.non, .bl true, .bl false, .str "", .str "2", .ref t])) := (Ex.new ht).trans (Ex.new hl)
      have ntp : t ≠ p := fun z => by
        rw [z, K2.at_] at ht
        cases ht
      have nlp : l ≠ p := fun z => by
        rw [z, Ex.new ht _ _ K2.at_] at hl
        cases hl
      have hT : (upd (upd H2 t (.tup [])) l (.lst [.non, .bl true, .bl false, .str "", .str "2", .ref t])) t = some (.tup []) := Ex.new hl _ _ upd_same
      have hL : (upd (upd H2 t (.tup [])) l (.lst [.non, .bl true, .bl false, .str "", .str "2", .ref t])) l = some (.lst [.non, .bl true, .bl false, .str "", .str "2", .ref t]) := upd_same
      have K3 := K2.same e3
      generalize upd (upd H2 t (.tup [])) l (.lst [.non, .bl true, .bl false, .str "", .str "2", .ref t]) = H3 at e3 hT hL K3
      have t6b := take_lt (s := s1) (n := 6) (by decide)
      refine (evp_take rfl hk1 (by decide) (by decide)) H3 (Kn.here K3.at_) _ fun H4 e4 g4 => ?_
      have hL4 : H4 l = some (.lst [.non, .bl true, .bl false, .str "", .str "2", .ref t]) := e4 _ _ (by rw [hide_ne nlp]; exact hL)
      have hT4 : H4 t = some (.tup []) := e4 _ _ (by rw [hide_ne ntp]; exact hT)
      have out : Ex (hide p H) H4 := hx_trans (x2.trans e3) e4
      obtain ⟨j, hj⟩ : ∃ j : Nat, (take s1 6).1 = (j : Int) := ⟨(take s1 6).1.toNat, by omega⟩
      rw [hj] at t6b ⊢
      have j6 : j < 6 := by omega
      have hk2 := take_pk (n := 6) hk1
      have ret : ∀ {v : V}, ([.non, .bl true, .bl false, .str "", .str "2", .ref t] : List V)[j]? = some v → AnyV v H4 → (∀ t2, v = .ref t2 → t2 ≠ p) → rIxL K (.ref l) (.int (j : Int)) H4 Q := fun {v} hv a n => ⟨l, _, (j : Int), v, rfl, rfl, sq_of hL4, atI_nat hv, fin a n hk2 out g4⟩
      match j, j6 with
      | 0, _ => exact ret rfl (.inl rfl) fun t2 z => by cases z
      | 1, _ => exact ret rfl (.inr (.inl ⟨_, rfl⟩)) fun t2 z => by cases z
      | 2, _ => exact ret rfl (.inr (.inl ⟨_, rfl⟩)) fun t2 z => by cases z
      | 3, _ => exact ret rfl (.inr (.inr (.inr (.inl ⟨_, rfl, .inl rfl⟩)))) fun t2 z => by cases z
      | 4, _ => exact ret rfl (.inr (.inr (.inr (.inl ⟨_, rfl, .inr rfl⟩)))) fun t2 z => by cases z
      | 5, _ => exact ret rfl (.inr (.inr (.inr (.inr ⟨t, rfl, hT4⟩)))) fun t2 z => by cases z; exact ntp
      | j + 6, h => omega
    have K2 := K1.same e2
    have x2 := e1.trans e2
    have draw : ∀ {n : Int} {H3 : Hp} {te : TE} {z : Int → Int}, Kn (hide p H) p s1 H3 → Ex (hide p H) H3 → 0 < n → n ≤ 50 → EvP te [some (.ref p), some (.int (k : Int)), some (.int c)] (hide p H) p s1 (.int (z (take s1 n).1)) (take s1 n).2 → (∀ i, 0 ≤ i → i < n → -100 ≤ z i ∧ z i ≤ 100) → tRet te { nx := fun x H' => Q V.non H', rt := Q } [some (.ref p), some (.int (k : Int)), some (.int c)] H3 := fun {n H3 te z} K3 x3 n0 n50 he hz =>
      sp_ret K3 he fun H4 K4 e4 => by
        have tn := take_lt (s := s1) (n := n) n0
        exact fin (.inr (.inr (.inl ⟨_, rfl, hz _ tn.1 tn.2⟩))) (fun t z => by cases z) (take_pk hk1) (hx_trans x3 e4) K4.at_
    refine q_when (b := decide (k = 1 ∨ k = 3)) (et_in13 rfl) (fun hb H3 e3 => ?_) (fun hb H3 e3 => ?_)
    · have K3 := K2.same e3
      have x3 := x2.trans e3
      refine q_when (b := decide (c = 1)) (et_test (ev_op (ev_var rfl) ev_c rv_eqI)) (fun hb1 H4 e4 => ?_) (fun hb1 H4 e4 => ?_)
      · exact draw (n := 2) (z := fun i => i) (K3.same e4) (x3.trans e4) (by decide) (by decide) (evp_take rfl hk1 (by decide) (by decide)) fun i h0 h1 => ⟨by omega, by omega⟩
      · exact s_ret (v := .bl (decide (c % 2 = 0))) (ev_op (ev_op (ev_var rfl) ev_c (rv_mod (by decide))) ev_c rv_eqI) fun H5 e5 => fin (.inr (.inl ⟨_, rfl⟩)) (fun t z => by cases z) hk1 ((x3.trans e4).trans e5) ((K3.same e4).same e5).at_
    have K3 := K2.same e3
    have x3 := x2.trans e3
    refine q_when (b := decide (c = 1)) (et_test (ev_op (ev_var rfl) ev_c rv_eqI)) (fun hb1 H4 e4 => ?_) (fun hb1 H4 e4 => ?_)
    · exact draw (n := 23) (z := fun i => i - 1) (K3.same e4) (x3.trans e4) (by decide) (by decide) (evp_op (evp_take rfl hk1 (by decide) (by decide)) (EvP.of ev_c) rv_I0) fun i h0 h1 => ⟨by omega, by omega⟩
    have K4 := K3.same e4
    have x4 := x3.trans e4
    refine q_when (b := decide (c = 2)) (et_test (ev_op (ev_var rfl) ev_c rv_eqI)) (fun hb2 H5 e5 => ?_) (fun hb2 H5 e5 => ?_)
    · exact s_ret ev_c fun H6 e6 => fin (.inl rfl) (fun t z => by cases z) hk1 ((x4.trans e5).trans e6) ((K4.same e5).same e6).at_
    · exact draw (n := 9) (z := fun i => 1 + i) (K4.same e5) (x4.trans e5) (by decide) (by decide) (evp_op (EvP.of ev_c) (evp_take rfl hk1 (by decide) (by decide)) rv_add) fun i h0 h1 => ⟨by omega, by omega⟩
def spGood : Sp := fun vs H Q _ => ∃ (k : Nat) (v : V), vs = [.int (k : Int), v] ∧ k < 4 ∧ AnyV v H ∧ RetV (.bl (goodV k v)) H Q
theorem ok__law_good {f : Addr} {fd : FuncData} (F : Fun K "_law_good" "_law_good" s__law_good f fd) (T : Txt K mg a_FIELDS a_OPEN_PARTS C_Form C_GlueError C_NoRule C_Rule) : FnOk P w K mg base CX0 1 f fd ["k", "value"] spGood := by
  refine F.ok sc__law_good (fun vs H Q E h => ?_) (fun cdv A outer s0 H vs Q E hr h => ?_)
  · obtain ⟨k, v, rfl, _⟩ := h
    rfl
  · obtain ⟨k, v, rfl, k4, hv, q⟩ := h
    refine ⟨_, (pss_cons (ps_if (pt_cmpR op_in_seq (pv 0) (pe_tup (pa_cons pe_int (pa_cons pe_int pa_nil))) (by rfl))
      (pss_one (ps_ret (pe_callB call_isi (by rfl) T.n_isinstance (by decide +kernel) (pa_cons (pv 1) (pa_cons (pe_bltn (v := .ty "bool") (by rfl) T.n_bool (by decide +kernel) rfl) pa_nil)))))
      pss_nil)
      (pss_cons (ps_if (pt_cmpR op_isN (pv 1) pe_non (nomark _))
      (pss_one (ps_ret pe_bl))
      pss_nil)
      (pss_cons (ps_if (PW.pt (pw_or (pt_not (pt_val (pe_callB call_isi (by rfl) T.n_isinstance (by decide +kernel) (pa_cons (pv 1) (pa_cons (pe_bltn (v := .ty "int") (by rfl) T.n_int (by decide +kernel) rfl) pa_nil))))) (pw_or1 (pt_val (pe_callB call_isi (by rfl) T.n_isinstance (by decide +kernel) (pa_cons (pv 1) (pa_cons (pe_bltn (v := .ty "bool") (by rfl) T.n_bool (by decide +kernel) rfl) pa_nil)))))))
      (pss_one (ps_ret pe_bl))
      pss_nil)
      (pss_one (ps_ret (pe_ifExp (pt_cmpR op_eq (pv 0) pe_int (nomark _)) (pe_chain op_le op_le pe_int (pv 1) pe_int) (pe_chain op_le op_le pe_int (pv 1) pe_int))))))), ?_⟩
    unfold goodV at q
    refine q_when (b := decide (k = 1 ∨ k = 3)) (et_in13 rfl) (fun hb H1 e1 => ?_) (fun hb H1 e1 => ?_)
    · rw [if_pos (of_decide_eq_true hb)] at q
      exact s_ret (ev_isBool (ev_var rfl) (hv.ex e1)) fun H2 e2 => q H2 (e1.trans e2)
    rw [if_neg (of_decide_eq_false hb)] at q
    refine q_when (b := decide (v = .non)) (et_test (ev_op (ev_var rfl) ev_c rv_isN)) (fun hn H2 e2 => ?_) (fun hn H2 e2 => ?_)
    · rw [hn] at q
      exact s_ret ev_c fun H3 e3 => q H3 ((e1.trans e2).trans e3)
    rw [hn, Bool.false_or] at q
    have e12 := e1.trans e2
    have nn := of_decide_eq_false hn
    refine q_when (b := !isI v || isBl v) (et_or (et_not (et_B (ev_isInt (ev_var rfl) (hv.ex e12)))) fun _ => et_B (ev_isBool (ev_var rfl) (hv.ex e12))) (fun hb2 H3 e3 => ?_) (fun hb2 H3 e3 => ?_)
    · have hf : (if k = 0 then numB 1 20 v else numB 0 9 v) = false := by
        cases v with
        | int i => cases hb2
        | _ => split <;> rfl
      rw [hf] at q
      exact s_ret ev_c fun H4 e4 => q H4 ((e12.trans e3).trans e4)
    · cases v with
      | int i =>
        refine s_ret (v := .bl (if k = 0 then numB 1 20 (.int i) else numB 0 9 (.int i))) (fun H4 e4 Q' q' => ?_) fun H4 e4 => q H4 ((e12.trans e3).trans e4)
        refine (et_is (b := decide (k = 0)) (et_test (ev_op (ev_var rfl) ev_c rv_eqI)) (by
          by_cases z : k = 0
          · rw [decide_eq_true z]
            exact decide_eq_true (by omega)
          · rw [decide_eq_false z]
            exact decide_eq_false (by omega))) H4 (Ex.refl _) _ fun H5 e5 => ?_
        by_cases z : k = 0
        · rw [decide_eq_true z, if_pos rfl]
          rw [if_pos z] at q'
          exact (ev_chainR (H := H5) ev_c (ev_var rfl) ev_c rv_I0 rv_I0) H5 (Ex.refl _) Q' fun H6 e6 => q' H6 (e5.trans e6)
        · rw [decide_eq_false z, if_neg Bool.false_ne_true]
          rw [if_neg z] at q'
          exact (ev_chainR (H := H5) ev_c (ev_var rfl) ev_c rv_I0 rv_I0) H5 (Ex.refl _) Q' fun H6 e6 => q' H6 (e5.trans e6)
      | non => exact absurd rfl nn
      | bl b => cases hb2
      | _ => cases hb2
def spFields : Sp := fun vs H Q _ => vs = [] ∧ ∀ l H', H l = none → Ex H H' → H' l = some (.lst (fieldsS.map V.str)) → Q (.ref l) H'
theorem ok__law_fields {f : Addr} {fd : FuncData} (F : Fun K "_law_fields" "_law_fields" s__law_fields f fd) (T : Txt K mg a_FIELDS a_OPEN_PARTS C_Form C_GlueError C_NoRule C_Rule) : FnOk P w K mg base CX0 1 f fd [] spFields := by
  refine F.ok sc__law_fields (fun vs H Q E h => ?_) (fun cdv A outer s0 H vs Q E hr h => ?_)
  · obtain ⟨rfl, _⟩ := h
    rfl
  · obtain ⟨rfl, q⟩ := h
    refine ⟨_, (pss_one (ps_ret (pe_lst (pa_cons pe_str (pa_cons pe_str (pa_cons pe_str (pa_cons pe_str pa_nil))))))), ?_⟩
    exact s_retL (el_lst (ea_cons ev_c (ea_cons ev_c (ea_cons ev_c (ea_cons ev_c ea_nil)))) (by simp)) fun l H1 hl e1 h1 => q l H1 hl e1 h1
def oS : Option Str → V
  | none => .non
  | some z => .str z
/-- four values in a list -/
def ValsAt (H : Hp) (a : Addr) (vals : Nat → V) : Prop := H a = some (.lst [vals 0, vals 1, vals 2, vals 3]) ∧ ∀ k, k < 4 → AnyV (vals k) H
theorem ValsAt.ex {H H' : Hp} {a : Addr} {vals : Nat → V} (h : ValsAt H a vals) (e : Ex H H') : ValsAt H' a vals := ⟨e _ _ h.1, fun k hk => (h.2 k hk).ex e⟩
theorem vals_at {vals : Nat → V} {k : Nat} (hk : k < 4) : ([vals 0, vals 1, vals 2, vals 3] : List V)[k]? = some (vals k) := by
  match k, hk with
  | 0, _ => rfl
  | 1, _ => rfl
  | 2, _ => rfl
  | 3, _ => rfl
  | k + 4, h => omega
theorem ev_valAt {σ : L2.St} {H : Hp} {a : Addr} {vals : Nat → V} {ta tb : TE} {k : Nat} (ha : Ev ta σ H (.ref a)) (hb : Ev tb σ H (.int (k : Int))) (h : ValsAt H a vals) (hk : k < 4) : Ev (tOp (rIxL K) ta tb) σ H (vals k) := ev_op ha hb (rv_ixL (sq_of h.1) (atI_nat (vals_at hk)))
theorem ev_fieldAt {σ : L2.St} {H : Hp} {te : TE} {k : Nat} (h : ∀ {H1 : Hp}, Ex H H1 → Ev te σ H1 (.int (k : Int))) (hk : k < 4) : Ev (tOp (rIxL K) (tCall spFields [] E0 tNil) te) σ H (.str (fieldS k)) := fun H1 e1 Q q =>
  ⟨rfl, fun l H2 hl e2 h2 => (h (e1.trans e2)) H2 (Ex.refl _) _ fun H3 e3 => ⟨l, _, (k : Int), _, rfl, rfl, sq_of (e3 _ _ h2), atI_nat (by rw [List.getElem?_map, fields_at k hk]; rfl), q H3 (e2.trans e3)⟩⟩
def spDue26 : Sp := fun vs H Q _ => ∃ (a b : Addr) (vals : Nat → V) (ks : List Nat), vs = [.ref a, .ref b] ∧ ValsAt H a vals ∧ H b = some (.lst (ks.map vN)) ∧ (∀ k ∈ ks, k < 4) ∧ RetV (oS (dueL vals ks)) H Q
theorem ok__law_due {f : Addr} {fd : FuncData} (F : Fun K "_law_due" "_law_due" s__law_due f fd) (T : Txt K mg a_FIELDS a_OPEN_PARTS C_Form C_GlueError C_NoRule C_Rule) (D__law_good : Df P w K mg base "_law_good" ["k", "value"] 1 spGood) (D__law_fields : Df P w K mg base "_law_fields" [] 1 spFields) : FnOk P w K mg base CX0 2 f fd ["values", "asked"] spDue26 := by
  refine F.ok sc__law_due (fun vs H Q E h => ?_) (fun cdv A outer s0 H vs Q E hr h => ?_)
  · obtain ⟨a, b, vals, ks, rfl, _⟩ := h
    rfl
  · obtain ⟨a, b, vals, ks, rfl, hA, hB, hk4, q⟩ := h
    refine ⟨_, (pss_cons (ps_for PassesOwn.never rfl (pi_list (pv 1)) (pg_name (i := 2) sc__law_due.nd rfl (Or.inl rfl))
      (pss_one (ps_if (pt_not (pt_val (pe_df D__law_good (hr.mono (by decide)) (by rfl) (pa_cons (pv 2) (pa_cons (pe_ix ix_list (pv 0) (pv 2) (fun _ _ => rfl)) pa_nil)))))
      (pss_one (ps_ret (pe_ix ix_list (pe_df0 D__law_fields (hr.mono (by decide)) (by rfl)) (pv 2) (fun _ _ => rfl))))
      pss_nil)))
      (pss_one (ps_ret pe_non))), ?_⟩
    refine q_forL (ev_var rfl) (sq_of hB) (fun i σ' H' => (∃ y, σ' = [some (.ref a), some (.ref b), y]) ∧ Ex H H' ∧ dueL vals ks = dueL vals (ks.drop i)) (fun H1 e1 => ⟨⟨none, rfl⟩, e1, rfl⟩) (fun i σ' H' _ h => sq_of (h.2.1 _ _ hB)) ?_ ?_
    · rintro i x σ' H1 hx ⟨⟨y, rfl⟩, e1, hd⟩
      obtain ⟨k, hk, rfl⟩ := mem_vN hx
      have k4 := hk4 k (List.mem_of_getElem? hk)
      have hdr : ks.drop i = k :: ks.drop (i + 1) := by
        have hi := (List.getElem?_eq_some_iff.mp hk).1
        rw [List.drop_eq_getElem_cons hi]
        congr 1
        exact (List.getElem?_eq_some_iff.mp hk).2
      rw [hdr, dueL_cons] at hd
      refine s_when (b := !goodV k (vals k)) (et_not (et_B (ev_call (ea_cons (ev_var rfl) (ea_cons (ev_valAt (ev_var rfl) (ev_var rfl) (hA.ex e1) k4) ea_nil)) fun H2 e2 Q' q' E' => ⟨k, vals k, rfl, k4, (hA.2 k k4).ex (e1.trans e2), q'⟩))) (fun hb H2 e2 => ?_) (fun hb H2 e2 => ⟨⟨_, rfl⟩, e1.trans e2, ?_⟩)
      · have hg : goodV k (vals k) = false := by simpa using hb
        rw [hd, hg] at q
        exact s_ret (v := .str (fieldS k)) (ev_fieldAt (fun _ => ev_var rfl) k4) fun H3 e3 => q H3 ((e1.trans e2).trans e3)
      · have hg : goodV k (vals k) = true := by simpa using hb
        rw [hd, hg]
        rfl
    · rintro σ' H1 ⟨⟨y, rfl⟩, e1, hd⟩
      rw [List.drop_eq_nil_of_le (by rw [List.length_map]; exact Nat.le_refl _)] at hd
      rw [hd] at q
      exact s_ret ev_c fun H2 e2 => q H2 (e1.trans e2)
/-! ### _law_same, _law_tells -/
def spSame : Sp := fun vs H Q _ => ∃ v : V, vs = [v, v] ∧ AnyV v H ∧ (∀ t, v ≠ .ref t) ∧ RetV (.bl true) H Q
theorem ok__law_same {f : Addr} {fd : FuncData} (F : Fun K "_law_same" "_law_same" s__law_same f fd) (T : Txt K mg a_FIELDS a_OPEN_PARTS C_Form C_GlueError C_NoRule C_Rule) : FnOk P w K mg base CX0 1 f fd ["one", "other"] spSame := by
  refine F.ok sc__law_same (fun vs H Q E h => ?_) (fun cdv A outer s0 H vs Q E hr h => ?_)
  · obtain ⟨v, rfl, _⟩ := h
    rfl
  · obtain ⟨v, rfl, hv, nr, q⟩ := h
    refine ⟨_, (pss_one (ps_ret (pe_and (pe_cmpR op_eq (pe_callB call_isi (by rfl) T.n_isinstance (by decide +kernel) (pa_cons (pv 0) (pa_cons (pe_bltn (v := .ty "bool") (by rfl) T.n_bool (by decide +kernel) rfl) pa_nil))) (pe_callB call_isi (by rfl) T.n_isinstance (by decide +kernel) (pa_cons (pv 1) (pa_cons (pe_bltn (v := .ty "bool") (by rfl) T.n_bool (by decide +kernel) rfl) pa_nil))) (nomark _)) (pe_one (pe_cmpR op_eq (pv 0) (pv 1) (nomark _)))))), ?_⟩
    have sc : scal v v = true := by
      rcases hv with rfl | ⟨b, rfl⟩ | ⟨i, rfl, _⟩ | ⟨z, rfl, _⟩ | ⟨t, rfl, _⟩
      · rfl
      · rfl
      · rfl
      · rfl
      · exact absurd rfl (nr t)
    exact s_ret (v := .bl true) (ev_is (ev_andV (a := true) (b := true) (ev_is (ev_op (ev_isBool (ev_var rfl) hv) (ev_isBool (ev_var rfl) hv) rv_eqB) (by rw [decide_eq_true rfl])) fun _ => ev_is (ev_op (ev_var rfl) (ev_var rfl) (rv_eq sc)) (by rw [decide_eq_true rfl])) rfl) q
theorem good_nr {k : Nat} {v : V} (h : goodV k v = true) : ∀ t, v ≠ .ref t := fun t e => by
  subst e
  unfold goodV at h
  split at h
  · cases h
  · split at h <;> cases h

theorem el_names {σ : L2.St} {H : Hp} {CF : Addr} {tl : TE} {us : List V} {ps : List (List Str)} {j : Nat} {ws : List Nat} (h : EvL tl σ H us) (r : Rs (FormR CF) H us ps) (hn : ps.length ≤ 1000) (hw : ∀ x, wipe ((wipe σ ws).set j (some x)) ws = wipe σ ws) (hj : ∀ x : V, ((wipe σ ws).set j (some x))[j]? = some (some x)) :
    EvL (tLc (iList K tl) (gName j) tYes (tCB (rStrOwn CF (spStrF CF) E0) (tCons (tVar j) tNil)) ws) σ H ((ps.map nameF).map V.str) := by
  intro H0 e0 Q q
  refine h H0 e0 _ fun a H1 ha e1 h1 => ?_
  have r1 := r.ex upF (e0.trans e1)
  have l1 := r1.len
  have z := elv_lc (K := K) (σ := σ) (H := H1) (te := tCB (rStrOwn CF (spStrF CF) E0) (tCons (tVar j) tNil)) (tl := tC (.ref a)) (us := us) (xs := (ps.map nameF).map V.str) (j := j) (ws := ws) ev_c (sq_of h1) (by omega) (by rw [List.length_map, List.length_map]; omega) hw fun i u y H2 e2 hu hy => by
    obtain ⟨p, t, rfl, ht, hp⟩ := r1.get hu
    rw [List.getElem?_map, List.getElem?_map, ht] at hy
    obtain rfl := Option.some.inj hy
    intro H3 e3 Q' q'
    have hF := upF _ _ _ _ (e2.trans e3) hp
    obtain ⟨⟨dx, tp, c, f1, f2, f3⟩, g⟩ := id hF
    exact ⟨_, hj _, p, dx, _, rfl, f1, p, t, rfl, hF, fun H4 e4 => ⟨_, rfl, q' H4 e4⟩⟩
  exact z H1 (Ex.refl _) Q fun l H2 hl e2 h2 => q l H2 (fresh_back e1 hl) (e1.trans e2) h2
/-- whether all four values may be -/
def allG (vals : Nat → V) : Prop := ∀ k, k < 4 → goodV k (vals k) = true
def spTells (CR CF : Addr) : Sp := fun vs H Q _ => ∃ (r va ba ea b e : Addr) (vals : Nat → V) (ub ue : List V) (pb pe : List (List Str)), vs = [.ref r, .ref va, .ref ba, .ref ea] ∧ RuleL CR H r b e vals ∧ ValsAt H va vals ∧ allG vals ∧ H b = some (.lst ub) ∧ Rs (FormR CF) H ub pb ∧ H e = some (.lst ue) ∧ Rs (FormR CF) H ue pe ∧ pb.length ≤ 100 ∧ pe.length ≤ 100 ∧ H ba = some (.lst ((pb.map nameF).map V.str)) ∧ H ea = some (.lst ((pe.map nameF).map V.str)) ∧ RetV (.bl true) H Q
theorem okN_names {ps : List (List Str)} {H : Hp} {CF : Addr} {us : List V} (r : Rs (FormR CF) H us ps) : ∀ v ∈ (ps.map nameF).map V.str, okV v = true := fun v hv => by
  obtain ⟨z, hz, rfl⟩ := List.mem_map.mp hv
  obtain ⟨p, hp, rfl⟩ := List.mem_map.mp hz
  obtain ⟨i, hi⟩ := List.getElem?_of_mem hp
  obtain ⟨a, _, hF⟩ := r.at hi
  exact join_ok hF.2.1
theorem ok__law_tells {f : Addr} {fd : FuncData} (F : Fun K "_law_tells" "_law_tells" s__law_tells f fd) (T : Txt K mg a_FIELDS a_OPEN_PARTS C_Form C_GlueError C_NoRule C_Rule) (D_Rule_most : DfP P w K mg base C_Rule "most" 1 (getSp C_Rule "_most")) (D_Rule_alone : DfP P w K mg base C_Rule "alone" 1 (getSp C_Rule "_alone")) (D_Rule_tags : DfP P w K mg base C_Rule "tags" 1 (getSp C_Rule "_tags")) (D_Rule_quiet : DfP P w K mg base C_Rule "quiet" 1 (getSp C_Rule "_quiet"))
    (D__law_same : Df P w K mg base "_law_same" ["one", "other"] 1 spSame) (D_Rule_begins : DfM P w K mg base C_Rule "begins" ["self"] 1 (spMarks C_Rule true)) (D_Rule_ends : DfM P w K mg base C_Rule "ends" ["self"] 1 (spMarks C_Rule false)) (D_Form___str__ : DfSt P w K mg base C_Form ["self"] 1 (spStrF C_Form)) :
    FnOk P w K mg base CX0 4 f fd ["rule", "values", "begins", "ends"] (spTells C_Rule C_Form) := by
  refine F.ok sc__law_tells (fun vs H Q E h => ?_) (fun cdv A outer s0 H vs Q E hr h => ?_)
  · obtain ⟨r, va, ba, ea, b, e, vals, ub, ue, pb, pe, rfl, _⟩ := h
    rfl
  · obtain ⟨r, va, ba, ea, b, e, vals, ub, ue, pb, pe, rfl, hR, hV, hG, hb, rb, he, re, nb, ne, hba, hea, q⟩ := h
    refine ⟨_, (pss_cons (ps_set (i := 4) sc__law_tells.nd rfl (Or.inl rfl) (pe_lst (pa_cons (pe_propD T.k_Rule D_Rule_most (hr.mono (by decide)) (pv 0)) (pa_cons (pe_propD T.k_Rule D_Rule_alone (hr.mono (by decide)) (pv 0)) (pa_cons (pe_propD T.k_Rule D_Rule_tags (hr.mono (by decide)) (pv 0)) (pa_cons (pe_propD T.k_Rule D_Rule_quiet (hr.mono (by decide)) (pv 0)) pa_nil))))))
      (pss_cons (ps_for PassesOwn.never rfl (pi_range1 (by rfl) T.n_range (pa_cons pe_int pa_nil)) (pg_name (i := 5) sc__law_tells.nd rfl (Or.inl rfl))
      (pss_one (ps_if (PW.pt (pw_or (pt_not (pt_val (pe_df D__law_same (hr.mono (by decide)) (by rfl) (pa_cons (pe_ix ix_list (pv 4) (pv 5) (fun _ _ => rfl)) (pa_cons (pe_ix ix_list (pv 1) (pv 5) (fun _ _ => rfl)) pa_nil))))) (pw_or1 (pt_cmpR op_ne (pe_cmpR op_isN (pe_ix ix_list (pv 4) (pv 5) (fun _ _ => rfl)) pe_non (nomark _)) (pe_cmpR op_isN (pe_ix ix_list (pv 1) (pv 5) (fun _ _ => rfl)) pe_non (nomark _)) (nomark _)))))
      (pss_one (ps_ret pe_bl))
      pss_nil)))
      (pss_cons (ps_if (pt_cmpR (op_neD hr.units) (pe_lc (own := [("mark", 6)]) (g := gName 6) rfl sc__law_tells.nd (pi_list (pe_mth0 T.k_Rule D_Rule_begins (hr.mono (by decide)) (pv 0))) (blkOk_by (own := [("mark", 6)]) (N := ["rule", "values", "begins", "ends", "actual", "k", "mark"]) (sc := defScope s__law_tells) (by decide +kernel)) (fun _ _ _ _ _ => pg_name (i := 6) sc__law_tells.nd rfl (Or.inl rfl)) (fun _ _ _ _ _ => pts_nil) (fun _ _ _ _ _ => (pe_callTy (call_str_df (k := 1) D_Form___str__ (hr.mono (j := 3) (by decide))) (by rfl) T.n_str (by decide +kernel) (pa_cons (pv 6) pa_nil)))) (pv 2) (nomark _))
      (pss_one (ps_ret pe_bl))
      pss_nil)
      (pss_one (ps_ret (pe_cmpR (op_eqD hr.units) (pe_lc (own := [("mark", 6)]) (g := gName 6) rfl sc__law_tells.nd (pi_list (pe_mth0 T.k_Rule D_Rule_ends (hr.mono (by decide)) (pv 0))) (blkOk_by (own := [("mark", 6)]) (N := ["rule", "values", "begins", "ends", "actual", "k", "mark"]) (sc := defScope s__law_tells) (by decide +kernel)) (fun _ _ _ _ _ => pg_name (i := 6) sc__law_tells.nd rfl (Or.inl rfl)) (fun _ _ _ _ _ => pts_nil) (fun _ _ _ _ _ => (pe_callTy (call_str_df (k := 1) D_Form___str__ (hr.mono (j := 3) (by decide))) (by rfl) T.n_str (by decide +kernel) (pa_cons (pv 6) pa_nil)))) (pv 3) (nomark _))))))), ?_⟩
    obtain ⟨dx, fs, hrr, hf⟩ := id hR
    refine q_asgL (xs := [vals 0, vals 1, vals 2, vals 3]) (el_lst (ea_cons (ev_prop (ev_var rfl) hrr (hf.val 0 (by decide))) (ea_cons (ev_prop (ev_var rfl) hrr (hf.val 1 (by decide))) (ea_cons (ev_prop (ev_var rfl) hrr (hf.val 2 (by decide))) (ea_cons (ev_prop (ev_var rfl) hrr (hf.val 3 (by decide))) ea_nil)))) (by simp)) fun la H1 hla e1 h1 => ?_
    have vA : ValsAt H1 la vals := ⟨h1, fun k hk => (hV.2 k hk).ex e1⟩
    have vB := hV.ex e1
    refine q_forR1 (n := 4) (ea_cons ev_c ea_nil) (by decide) (fun i σ' H' => (∃ y, σ' = [some (.ref r), some (.ref va), some (.ref ba), some (.ref ea), some (.ref la), y, none]) ∧ Ex H1 H') (fun H2 e2 => ⟨⟨none, rfl⟩, e2⟩) ?_ ?_
    · rintro i σ' H2 hi ⟨⟨y, rfl⟩, e2⟩
      have i4 : i < 4 := by omega
      have nr := good_nr (hG i i4)
      refine s_when (b := false) (et_is (et_or (et_not (a := true) (et_B (ev_call (ea_cons (ev_valAt (ev_var rfl) (ev_var rfl) (vA.ex e2) i4) (ea_cons (ev_valAt (ev_var rfl) (ev_var rfl) (vB.ex e2) i4) ea_nil)) fun H3 e3 Q' q' E' => ⟨vals i, rfl, (vA.2 i i4).ex (e2.trans e3), nr, q'⟩))) fun _ => et_is (b := false) (et_test (ev_op (ev_op (ev_valAt (ev_var rfl) (ev_var rfl) (vA.ex e2) i4) ev_c rv_isN) (ev_op (ev_valAt (ev_var rfl) (ev_var rfl) (vB.ex e2) i4) ev_c rv_isN) rv_neB)) (by rw [decide_eq_true rfl]; rfl)) rfl) (fun z => by cases z) (fun _ H3 e3 => ⟨⟨_, rfl⟩, e2.trans e3⟩)
    · rintro σ' H2 ⟨⟨y, rfl⟩, e2⟩
      have e02 := e1.trans e2
      have marks : ∀ {beg : Bool} {m : Str} {σ : L2.St} {H3 : Hp} {us : List V}, Ex H H3 → σ[0]? = some (some (.ref r)) → fs.lookup m = none → H (if beg = true then b else e) = some (.lst us) → EvL (tMeth C_Rule m (spMarks C_Rule beg) [] E0 (tVar 0) tNil) σ H3 us := fun {beg m σ H3 us} e3 h0 hm hl H4 e4 Q' q' =>
        ⟨_, h0, r, dx, fs, rfl, (e3.trans e4) _ _ hrr, hm, r, b, e, vals, us, rfl, hR.ex (e3.trans e4), (e3.trans e4) _ _ hl, fun l H5 hl5 e5 h5 => q' l H5 hl5 e5 h5⟩
      refine q_when (b := false) (et_is (et_test (ev_opL1 (el_names (marks (beg := true) (m := "begins") e02 rfl (hf.no _ (by decide +kernel)) hb) (rb.ex upF e02) (by omega) wipe1 fun _ => rfl) (fun _ _ => ev_var rfl) fun p H3 h3 e3 => rv_neL (sq_of h3) (sq_of (e3 _ _ (e02 _ _ hba))) (okN_names rb) (okN_names rb))) (by rw [eqF_strs]; simp)) (fun z => by cases z) (fun _ H3 e3 => ?_)
      have e03 := e02.trans e3
      refine s_ret (v := .bl true) (ev_is (ev_opL1 (el_names (marks (beg := false) (m := "ends") e03 rfl (hf.no _ (by decide +kernel)) he) (re.ex upF e03) (by omega) wipe1 fun _ => rfl) (fun _ _ => ev_var rfl) fun p H4 h4 e4 => rv_eqL (sq_of h4) (sq_of (e4 _ _ (e03 _ _ hea))) (okN_names re) (okN_names re)) (by rw [eqF_strs]; simp)) fun H4 e4 => q H4 (e03.trans e4)
/-! ### a Rule tried; a change tried; an assignment tried -/
/-- Rule(b, e, ..) tried: refused, or made -/
theorem rule_try {CR CN : Addr} {H : Hp} {b0 e0 : Addr} {us ws : List V} {vals : Nat → V} {Rr : Addr → Hp → Prop} {X : XK} (hb : H b0 = some (.lst us)) (he : H e0 = some (.lst ws)) (hv : ∀ k, k < 4 → AnyV (vals k) H) (l1 : us.length ≤ 100) (l2 : ws.length ≤ 100)
    (hx : ∀ z, dueR (us.length + ws.length) vals = some z → ∀ d H', Ex H H' → H' d = some (.xd [(("field" : Str), .str z)]) → X (.ref CN) (some d) H') (hn : dueR (us.length + ws.length) vals = none → ∀ x b e H', H x = none → H b = none → H e = none → b ≠ e → b ≠ x → e ≠ x → Ex H H' → H' b = some (.lst us) → H' e = some (.lst ws) → RuleL CR H' x b e vals → Rr x H') :
    ∀ x dx, H x = none → H dx = none → dx ≠ x → spRuleX CR CN K [.ref x, .ref b0, .ref e0, vals 0, vals 1, vals 2, vals 3] (upd (upd H dx (.own x)) x (.ins CR dx [])) (fun v H2 => v = .non ∧ Rr x H2) X := fun x dx h0 hdx ne => by
  have y0 : Ex H (upd (upd H dx (.own x)) x (.ins CR dx [])) := fun p o hb => by
    rw [upd_ne (ne_of_none hb h0), upd_ne (ne_of_none hb hdx)]
    exact hb
  have y : Ex H (hide x (upd (upd H dx (.own x)) x (.ins CR dx []))) := fun p o hb => by
    rw [hide_ne (ne_of_none hb h0)]
    exact y0 p o hb
  refine ⟨x, b0, e0, dx, us, ws, vals, rfl, upd_same, sq_of (y _ _ hb), sq_of (y _ _ he), fun k hk => (hv k hk).ex y0, l1, l2, fun z hz d H' e' hd => hx z hz d H' (y0.trans e') hd, fun hz b e H' nb nee nbe e' hb2 he2 hR => ⟨rfl, ?_⟩⟩
  have nx : ∀ {q : Addr}, H' q = some (.lst us) ∨ H' q = some (.lst ws) → q ≠ x := fun h z => by
    obtain ⟨dx2, fs, h1, _⟩ := hR
    rw [z, h1] at h
    rcases h with h | h <;> cases h
  exact hn hz x b e H' h0 (fresh_back y nb) (fresh_back y nee) nbe (nx (.inl hb2)) (nx (.inr he2)) (y.trans e') hb2 he2 hR
def spRef26 : Sp := fun vs H Q _ => ∃ (b0 e0 va : Addr) (us ws : List V) (vals : Nat → V), vs = [.ref b0, .ref e0, .ref va] ∧ H b0 = some (.lst us) ∧ H e0 = some (.lst ws) ∧ ValsAt H va vals ∧ us.length ≤ 100 ∧ ws.length ≤ 100 ∧ RetV (oS (dueR (us.length + ws.length) vals)) H Q
def ks4 : List Str := ["most", "alone", "tags", "quiet"]
abbrev spRuleW (CR CN : Addr) (K : PySem.W.Frag) : List Str → List V → Sp := spKwo (spRuleX CR CN K) 3 ks4 [.non, .bl true, .non, .bl false]
theorem ok__law_refused {f : Addr} {fd : FuncData} (F : Fun K "_law_refused" "_law_refused" s__law_refused f fd) (T : Txt K mg a_FIELDS a_OPEN_PARTS C_Form C_GlueError C_NoRule C_Rule) (D_Rule___init__ : DfIWX P w K mg base "Rule" C_Rule 4 (spRuleW C_Rule C_NoRule K)) : FnOk P w K mg base CX0 7 f fd ["begins", "ends", "values"] spRef26 := by
  refine F.ok sc__law_refused (fun vs H Q E h => ?_) (fun cdv A outer s0 H vs Q E hr h => ?_)
  · obtain ⟨b0, e0, va, us, ws, vals, rfl, _⟩ := h
    rfl
  · obtain ⟨b0, e0, va, us, ws, vals, rfl, hb, he, hV, l1, l2, q⟩ := h
    refine ⟨_, (pss_cons (ps_try_as (x := "NoRule") (c := .ref C_NoRule) (i := 3) rfl rfl sc__law_refused.nd rfl rfl ⟨rfl, by decide, .inl T.m_NoRule⟩ takes0 (fun W pn xe tk _ => (pss_one (ps_expr (pe_mkWS (ks := ["most", "alone", "tags", "quiet"]) D_Rule___init__ (hr.mono (by decide)) (by rfl) tk (pa_cons (pv 0) (pa_cons (pv 1) pa_nil)) (pk_cons (pe_ix (ix_listK K rfl) (pv 2) pe_int (fun _ _ => rfl)) (pk_cons (pe_ix (ix_listK K rfl) (pv 2) pe_int (fun _ _ => rfl)) (pk_cons (pe_ix (ix_listK K rfl) (pv 2) pe_int (fun _ _ => rfl)) (pk_cons (pe_ix (ix_listK K rfl) (pv 2) pe_int (fun _ _ => rfl)) pk_nil)))))))) (fun a oe cls d pn hz hf => (pss_one (ps_ret (pe_xf T.x_NoRule.x T.f_NoRule_field hz hf (pv 3))))))
      (pss_one (ps_ret pe_non))), ?_⟩
    have ix : ∀ {H1 : Hp} (k : Nat), Ex H H1 → k < 4 → Ev (tOp (rIxL K) (tVar 2) (tC (.int (k : Int)))) [some (.ref b0), some (.ref e0), some (.ref va), none] H1 (vals k) := fun k e1 hk => ev_valAt (ev_var rfl) ev_c (hV.ex e1) hk
    refine ⟨_, rfl, _, rfl, ?_⟩
    dsimp only [tNil]
    refine (ea_cons (ix 0 (Ex.refl _) (by decide)) (ea_cons (ix 1 (Ex.refl _) (by decide)) (ea_cons (ix 2 (Ex.refl _) (by decide)) (ea_cons (ix 3 (Ex.refl _) (by decide)) ea_nil)))) H (Ex.refl _) _ fun H1 e1 => fun x dx h0 hdx ne => ⟨rfl, .inl ⟨rfl, rfl, ?_⟩⟩
    refine rule_try (CR := C_Rule) (CN := C_NoRule) (Rr := fun _ H' => (tRet (tC V.non) { nx := fun x H' => Q V.non H', rt := Q } [some (.ref b0), some (.ref e0), some (.ref va), none] H' : Prop)) (e1 _ _ hb) (e1 _ _ he) (fun k hk => (hV.2 k hk).ex e1) l1 l2 (fun z hz d H2 e2 hd => ⟨true, T.x_NoRule.s, fun _ a ha => ?_, fun z => nomatch z⟩) (fun hz x b e H2 _ _ _ _ _ _ e2 _ _ _ => ?_) x dx h0 hdx ne
    · rw [hz] at q
      exact s_ret ev_c fun H3 e3 => q H3 ((e1.trans e2).trans e3)
    · rw [hz] at q
      exact s_ret (v := .str z) (ev_xf rfl hd look_field) fun H3 e3 => q H3 ((e1.trans e2).trans e3)
def spBel26 : Sp := fun vs H Q _ => ∃ (b0 e0 va : Addr) (us ws : List V) (vals : Nat → V), vs = [.ref b0, .ref e0, .ref va] ∧ H b0 = some (.lst us) ∧ H e0 = some (.lst ws) ∧ ValsAt H va vals ∧ us.length ≤ 100 ∧ ws.length ≤ 100 ∧ dueR (us.length + ws.length) vals ≠ none ∧ RetV (.bl true) H Q
theorem ok__law_below {f : Addr} {fd : FuncData} (F : Fun K "_law_below" "_law_below" s__law_below f fd) (T : Txt K mg a_FIELDS a_OPEN_PARTS C_Form C_GlueError C_NoRule C_Rule) (D_Rule___init__ : DfIWX P w K mg base "Rule" C_Rule 4 (spRuleW C_Rule C_NoRule K)) : FnOk P w K mg base CX0 7 f fd ["begins", "ends", "values"] spBel26 := by
  refine F.ok sc__law_below (fun vs H Q E h => ?_) (fun cdv A outer s0 H vs Q E hr h => ?_)
  · obtain ⟨b0, e0, va, us, ws, vals, rfl, _⟩ := h
    rfl
  · obtain ⟨b0, e0, va, us, ws, vals, rfl, hb, he, hV, l1, l2, hno, q⟩ := h
    refine ⟨_, (pss_cons (ps_try_as (x := "GlueError") (c := .ref C_GlueError) (i := 3) rfl rfl sc__law_below.nd rfl rfl ⟨rfl, by decide, .inl T.m_GlueError⟩ takes0 (fun W pn xe tk _ => (pss_one (ps_expr (pe_mkWS (ks := ["most", "alone", "tags", "quiet"]) D_Rule___init__ (hr.mono (by decide)) (by rfl) tk (pa_cons (pv 0) (pa_cons (pv 1) pa_nil)) (pk_cons (pe_ix (ix_listK K rfl) (pv 2) pe_int (fun _ _ => rfl)) (pk_cons (pe_ix (ix_listK K rfl) (pv 2) pe_int (fun _ _ => rfl)) (pk_cons (pe_ix (ix_listK K rfl) (pv 2) pe_int (fun _ _ => rfl)) (pk_cons (pe_ix (ix_listK K rfl) (pv 2) pe_int (fun _ _ => rfl)) pk_nil)))))))) (fun a oe cls d pn hz hf => (pss_one (ps_ret (pe_callB (call_isXK (a := a) (oe := oe) (c := cls) (d := d) K rfl List.mem_cons_self hz hf) (by rfl) T.n_isinstance (by decide +kernel) (pa_cons (pv 3) (pa_cons (pe_cst T.c_NoRule (by rfl)) pa_nil)))))))
      (pss_one (ps_ret pe_bl))), ?_⟩
    have ix : ∀ {H1 : Hp} (k : Nat), Ex H H1 → k < 4 → Ev (tOp (rIxL K) (tVar 2) (tC (.int (k : Int)))) [some (.ref b0), some (.ref e0), some (.ref va), none] H1 (vals k) := fun k e1 hk => ev_valAt (ev_var rfl) ev_c (hV.ex e1) hk
    refine ⟨_, rfl, _, rfl, ?_⟩
    dsimp only [tNil]
    refine (ea_cons (ix 0 (Ex.refl _) (by decide)) (ea_cons (ix 1 (Ex.refl _) (by decide)) (ea_cons (ix 2 (Ex.refl _) (by decide)) (ea_cons (ix 3 (Ex.refl _) (by decide)) ea_nil)))) H (Ex.refl _) _ fun H1 e1 => fun x dx h0 hdx ne => ⟨rfl, .inl ⟨rfl, rfl, ?_⟩⟩
    refine rule_try (CR := C_Rule) (CN := C_NoRule) (Rr := fun _ H' => (tRet (tC (V.bl false)) { nx := fun x H' => Q V.non H', rt := Q } [some (.ref b0), some (.ref e0), some (.ref va), none] H' : Prop)) (e1 _ _ hb) (e1 _ _ he) (fun k hk => (hV.2 k hk).ex e1) l1 l2 (fun z hz d H2 e2 hd => ⟨true, PySem.W.exm_ref T.q_g1 T.q_g2 T.q_g3 T.q_g4, fun _ a ha => ?_, fun z => nomatch z⟩) (fun hz => absurd hz hno) x dx h0 hdx ne
    exact s_ret (v := .bl true) (ev_xo1 T.x_NoRule rfl hd (by first | exact ev_c | exact T.c_NoRule) (.own C_NoRule) T.q_gs) fun H3 e3 => q H3 ((e1.trans e2).trans e3)

/-! ### changes tried -/
theorem RuleL.congr {CR : Addr} {H : Hp} {r b e : Addr} {vals vals' : Nat → V} (h : RuleL CR H r b e vals) (c : ∀ k, k < 4 → vals k = vals' k) : RuleL CR H r b e vals' := by
  obtain ⟨dx, fs, h1, h2⟩ := h
  exact ⟨dx, fs, h1, h2.len, h2.bg, h2.en, fun k hk => by rw [← c k hk]; exact h2.val k hk, h2.no⟩
def argsN : List Nat → TA
  | [] => tNil
  | k :: ks => tCons (tC (.int (k : Int))) (argsN ks)
theorem ea_argsN {σ : L2.St} {H : Hp} : ∀ ks : List Nat, EvA (argsN ks) σ H (ks.map vN)
  | [] => ea_nil
  | _ :: ks => ea_cons ev_c (ea_argsN ks)
theorem eqF_vN : ∀ ks cs : List Nat, eqF (ks.map vN) (cs.map vN) = decide (ks = cs)
  | [], [] => rfl
  | [], _ :: _ => rfl
  | _ :: _, [] => rfl
  | k :: ks, c :: cs => by
    show (PyData.eqv (toD (vN k)) (toD (vN c)) && eqF (ks.map vN) (cs.map vN)) = _
    rw [eqF_vN ks cs]
    have : PyData.eqv (toD (vN k)) (toD (vN c)) = decide (k = c) := by
      show PyData.eqv (.int (k : Int)) (.int (c : Int)) = _
      simp only [PyData.eqv]
      by_cases h : k = c
      · subst h
        simp
      · rw [decide_eq_false h]
        exact beq_eq_false_iff_ne.mpr (by omega)
    rw [this, ← Bool.decide_and]
    congr 1
    simp
theorem okV_vN (ks : List Nat) : ∀ v ∈ ks.map vN, okV v = true := fun v hv => by
  obtain ⟨k, _, rfl⟩ := List.mem_map.mp hv
  rfl
theorem et_eqN {σ : L2.St} {H : Hp} {i : Nat} {a : Addr} {ks cs : List Nat} (hi : σ[i]? = some (some (.ref a))) (h : H a = some (.lst (ks.map vN))) (hc : cs.length ≤ 10) : EvT (tTest (tOp (rEqD K) (tVar i) (tLst (argsN cs)))) σ H (decide (ks = cs)) :=
  et_is (et_test (ev_opL (ev_var hi) (el_lst (ea_argsN cs) (by rw [List.length_map]; omega)) fun q1 H5 hq5 e5 => rv_eqL (sq_of (e5 _ _ h)) (sq_of hq5) (okV_vN ks) (okV_vN cs))) (eqF_vN ks cs)
theorem dueC_L {kv : List (Key × V)} {new : Nat → V} {asked : List Nat} (hk : ∀ k, k < 4 → valV kv (.inr (fieldS k)) = if k ∈ asked then some (new k) else none) : ∀ ks : List Nat, (∀ k ∈ ks, k < 4) → dueC kv ks = dueL new (ks.filter fun k => decide (k ∈ asked))
  | [], _ => rfl
  | k :: ks, h => by
    have ih := dueC_L hk ks fun j hj => h j (List.mem_cons_of_mem _ hj)
    rw [dueC_cons, hk k (h k List.mem_cons_self), List.filter_cons]
    by_cases c : k ∈ asked
    · rw [if_pos c, decide_eq_true c, if_pos rfl, dueL_cons, ih]
    · rw [if_neg c, decide_eq_false c, if_neg Bool.false_ne_true]
      exact ih
abbrev spChgW (CR CN : Addr) : List Str → List V → Sp := fun ks zs vs H Q E => ks ∈ ksAll ∧ spW (spChgX CR CN) ks zs vs H Q E
def newV (vals new : Nat → V) (asked : List Nat) : Nat → V := fun k => if k ∈ asked then new k else vals k
theorem chg_call {CR CN : Addr} {H : Hp} {r b e : Addr} {vals new : Nat → V} {names : List Str} {zs : List V} {asked : List Nat} {Q : VK} {E : XK} (hR : RuleL CR H r b e vals) (hnew : ∀ k, k < 4 → AnyV (new k) H) (hm : names ∈ ksAll) (nd : names.Nodup) (hl : names.length = zs.length) (hf : ∀ z ∈ names, z ∈ fieldsS)
    (hk : ∀ k, k < 4 → valV (kwV names zs) (.inr (fieldS k)) = if k ∈ asked then some (new k) else none) (ha : ([0, 1, 2, 3] : List Nat).filter (fun k => decide (k ∈ asked)) = asked)
    (qx : ∀ z, dueL new asked = some z → ∀ d H', Ex H H' → H' d = some (.xd [(("field" : Str), .str z)]) → E (.ref CN) (some d) H') (qy : dueL new asked = none → ∀ H', Ex (hide r H) H' → RuleL CR H' r b e (newV vals new asked) → Q .non H') : spChgW CR CN names zs [.ref r] H Q E := by
  have l100 : names.length ≤ 100 := by
    unfold ksAll at hm
    simp only [List.mem_cons, List.not_mem_nil, or_false] at hm
    rcases hm with rfl | rfl | rfl | rfl | rfl | rfl | rfl | rfl | rfl <;> decide
  refine ⟨hm, nd, hl, l100, rfl, fun d hd => ?_⟩
  have nrd : r ≠ d := fun z => by
    obtain ⟨dx, fs, h1, _⟩ := hR
    rw [z, hd] at h1
    cases h1
  have e1 : Ex H (upd H d (.dK (kwV names zs))) := Ex.new hd
  have e2 : Ex H (hide d (upd H d (.dK (kwV names zs)))) := fun x o hx => by
    rw [hide_ne (ne_of_none hx hd)]
    exact e1 _ _ hx
  have mem : ∀ p ∈ kwV names zs, ∃ z, p.1 = .inr z ∧ z ∈ fieldsS := fun p hp => by
    obtain ⟨x, hx, rfl⟩ := List.mem_map.mp hp
    exact ⟨x.1, rfl, hf _ (List.of_mem_zip hx).1⟩
  have hd4 : dueC (kwV names zs) [0, 1, 2, 3] = dueL new asked := by
    rw [dueC_L hk [0, 1, 2, 3] (by decide), ha]
  refine ⟨r, d, b, e, vals, kwV names zs, rfl, nrd, hR.ex e1, upd_same, fun p hp => ?_, fun k hk4 v hv => ?_, fun hn => absurd mem hn, fun _ z hz d2 H' e' hd2 => ?_, fun _ hz H' e' hR' => ?_⟩
  · obtain ⟨z, h1, _⟩ := mem p hp
    exact ⟨z, h1⟩
  · rw [hk k hk4] at hv
    split at hv
    · cases hv
      exact (hnew k hk4).ex e1
    · cases hv
  · rw [hd4] at hz
    exact qx z hz d2 H' (e2.trans e') hd2
  · rw [hd4] at hz
    refine qy hz H' (fun x o hx => ?_) (hR'.congr fun k hk4 => ?_)
    · obtain ⟨nx, hx⟩ := hide_some hx
      exact e' _ _ (by rw [hide_ne nx]; exact e1 _ _ hx)
    · unfold setK newV
      rw [hk k hk4]
      split <;> rfl
def asks : List (List Nat) := [[0], [1], [2], [3], [0, 2], [1, 3], [], [0, 1, 2, 3]]
def spChange26 (CR : Addr) : Sp := fun vs H Q _ => ∃ (r va aa b e : Addr) (vals new : Nat → V) (ks : List Nat), vs = [.ref r, .ref va, .ref aa] ∧ RuleL CR H r b e vals ∧ ValsAt H va new ∧ H aa = some (.lst (ks.map vN)) ∧ ks ∈ asks ∧
  (∀ z, dueL new ks = some z → ∀ H', Ex H H' → Q (.str z) H') ∧ (dueL new ks = none → ∀ H', Ex (hide r H) H' → RuleL CR H' r b e (newV vals new ks) → Q .non H')
theorem ok__law_change {f : Addr} {fd : FuncData} (F : Fun K "_law_change" "_law_change" s__law_change f fd) (T : Txt K mg a_FIELDS a_OPEN_PARTS C_Form C_GlueError C_NoRule C_Rule) (D_Rule_change : DfWX P w K mg base C_Rule "change" 5 (spChgW C_Rule C_NoRule)) : FnOk P w K mg base CX0 7 f fd ["rule", "values", "asked"] (spChange26 C_Rule) := by
  refine F.ok sc__law_change (fun vs H Q E h => ?_) (fun cdv A outer s0 H vs Q E hr h => ?_)
  · obtain ⟨r, va, aa, b, e, vals, new, ks, rfl, _⟩ := h
    rfl
  · obtain ⟨r, va, aa, b, e, vals, new, ks, rfl, hR, hV, hA, hks, qx, qy⟩ := h
    refine ⟨_, (pss_cons (ps_try_as (x := "NoRule") (c := .ref C_NoRule) (i := 3) rfl rfl sc__law_change.nd rfl rfl ⟨rfl, by decide, .inl T.m_NoRule⟩ takes0 (fun W pn xe tk _ => (pss_one (ps_if (pt_cmpR (op_eqDK K rfl hr.units) (pv 2) (pe_lst (pa_cons pe_int pa_nil)) (nomark _))
      (pss_one (ps_expr (pe_methWS (ks := ["most"]) (pv 0) T.k_Rule D_Rule_change (hr.mono (by decide)) tk (pk_cons (pe_ix (ix_listK K rfl) (pv 1) pe_int (fun _ _ => rfl)) pk_nil))))
      (pss_one (ps_if (pt_cmpR (op_eqDK K rfl hr.units) (pv 2) (pe_lst (pa_cons pe_int pa_nil)) (nomark _))
      (pss_one (ps_expr (pe_methWS (ks := ["alone"]) (pv 0) T.k_Rule D_Rule_change (hr.mono (by decide)) tk (pk_cons (pe_ix (ix_listK K rfl) (pv 1) pe_int (fun _ _ => rfl)) pk_nil))))
      (pss_one (ps_if (pt_cmpR (op_eqDK K rfl hr.units) (pv 2) (pe_lst (pa_cons pe_int pa_nil)) (nomark _))
      (pss_one (ps_expr (pe_methWS (ks := ["tags"]) (pv 0) T.k_Rule D_Rule_change (hr.mono (by decide)) tk (pk_cons (pe_ix (ix_listK K rfl) (pv 1) pe_int (fun _ _ => rfl)) pk_nil))))
      (pss_one (ps_if (pt_cmpR (op_eqDK K rfl hr.units) (pv 2) (pe_lst (pa_cons pe_int pa_nil)) (nomark _))
      (pss_one (ps_expr (pe_methWS (ks := ["quiet"]) (pv 0) T.k_Rule D_Rule_change (hr.mono (by decide)) tk (pk_cons (pe_ix (ix_listK K rfl) (pv 1) pe_int (fun _ _ => rfl)) pk_nil))))
      (pss_one (ps_if (pt_cmpR (op_eqDK K rfl hr.units) (pv 2) (pe_lst (pa_cons pe_int (pa_cons pe_int pa_nil))) (nomark _))
      (pss_one (ps_expr (pe_methWS (ks := ["tags", "most"]) (pv 0) T.k_Rule D_Rule_change (hr.mono (by decide)) tk (pk_cons (pe_ix (ix_listK K rfl) (pv 1) pe_int (fun _ _ => rfl)) (pk_cons (pe_ix (ix_listK K rfl) (pv 1) pe_int (fun _ _ => rfl)) pk_nil)))))
      (pss_one (ps_if (pt_cmpR (op_eqDK K rfl hr.units) (pv 2) (pe_lst (pa_cons pe_int (pa_cons pe_int pa_nil))) (nomark _))
      (pss_one (ps_expr (pe_methWS (ks := ["quiet", "alone"]) (pv 0) T.k_Rule D_Rule_change (hr.mono (by decide)) tk (pk_cons (pe_ix (ix_listK K rfl) (pv 1) pe_int (fun _ _ => rfl)) (pk_cons (pe_ix (ix_listK K rfl) (pv 1) pe_int (fun _ _ => rfl)) pk_nil)))))
      (pss_one (ps_if (pt_cmpR (op_eqDK K rfl hr.units) (pv 2) (pe_lst pa_nil) (nomark _))
      (pss_one (ps_expr (pe_methWS (ks := []) (pv 0) T.k_Rule D_Rule_change (hr.mono (by decide)) tk pk_nil)))
      (pss_one (ps_expr (pe_methWS (ks := ["quiet", "tags", "alone", "most"]) (pv 0) T.k_Rule D_Rule_change (hr.mono (by decide)) tk (pk_cons (pe_ix (ix_listK K rfl) (pv 1) pe_int (fun _ _ => rfl)) (pk_cons (pe_ix (ix_listK K rfl) (pv 1) pe_int (fun _ _ => rfl)) (pk_cons (pe_ix (ix_listK K rfl) (pv 1) pe_int (fun _ _ => rfl)) (pk_cons (pe_ix (ix_listK K rfl) (pv 1) pe_int (fun _ _ => rfl)) pk_nil)))))))))))))))))))))) (fun a oe cls d pn hz hf => (pss_one (ps_ret (pe_xf T.x_NoRule.x T.f_NoRule_field hz hf (pv 3))))))
      (pss_one (ps_ret pe_non))), ?_⟩
    have ix : ∀ {H1 : Hp} (k : Nat), Ex H H1 → k < 4 → Ev (tOp (rIxL K) (tVar 1) (tC (.int (k : Int)))) [some (.ref r), some (.ref va), some (.ref aa), none] H1 (new k) := fun k e1 hk => ev_valAt (ev_var rfl) ev_c (hV.ex e1) hk
    obtain ⟨dx, fs, hrr, hf⟩ := id hR
    have nc : fs.lookup ("change" : Str) = none := hf.no _ (by decide +kernel)
    refine s_if (b := decide (ks = [0])) (et_eqN (cs := [0]) rfl ((Ex.refl H) _ _ hA) (by decide)) (fun hb Hx ex => ?_) (fun hb0 H_0 ex_0 => ?_)
    · have hcs : ks = [0] := of_decide_eq_true hb
      have ee : Ex H Hx := (Ex.refl H).trans ex
      refine ⟨_, rfl, r, dx, fs, rfl, ee _ _ hrr, nc, ?_⟩
      try dsimp only [tNil]
      refine ((ea_cons (ix 0 ee (by decide)) ea_nil)) Hx (Ex.refl _) _ fun H2 e2 => ?_
      have e02 := ee.trans e2
      refine chg_call (names := ["most"]) (zs := [new 0]) (asked := [0]) (new := new) (hR.ex e02) (fun k hk => (hV.2 k hk).ex e02) (by decide +kernel) (by decide +kernel) rfl (by decide +kernel) (fun k hk => ?_) (by decide) (fun z hz d H3 e3 hd => ⟨true, T.x_NoRule.s, fun _ a ha => s_ret (v := .str z) (ev_xf rfl hd look_field) fun H4 e4 => qx z (by first | exact hz | (rw [hcs]; exact hz)) H4 ((e02.trans e3).trans e4), fun z => nomatch z⟩) (fun hz H3 e3 hR3 => s_ret ev_c fun H4 e4 => qy (by first | exact hz | (rw [hcs]; exact hz)) H4 (((ex_hide e02).trans e3).trans e4) (by rw [hcs]; exact hR3.ex e4))
      match k, hk with
      | 0, _ => rfl
      | 1, _ => rfl
      | 2, _ => rfl
      | 3, _ => rfl
      | k + 4, h => omega
    have e_0 : Ex H H_0 := (Ex.refl H).trans ex_0
    refine s_if (b := decide (ks = [1])) (et_eqN (cs := [1]) rfl ((e_0) _ _ hA) (by decide)) (fun hb Hx ex => ?_) (fun hb1 H_1 ex_1 => ?_)
    · have hcs : ks = [1] := of_decide_eq_true hb
      have ee : Ex H Hx := (e_0).trans ex
      refine ⟨_, rfl, r, dx, fs, rfl, ee _ _ hrr, nc, ?_⟩
      try dsimp only [tNil]
      refine ((ea_cons (ix 1 ee (by decide)) ea_nil)) Hx (Ex.refl _) _ fun H2 e2 => ?_
      have e02 := ee.trans e2
      refine chg_call (names := ["alone"]) (zs := [new 1]) (asked := [1]) (new := new) (hR.ex e02) (fun k hk => (hV.2 k hk).ex e02) (by decide +kernel) (by decide +kernel) rfl (by decide +kernel) (fun k hk => ?_) (by decide) (fun z hz d H3 e3 hd => ⟨true, T.x_NoRule.s, fun _ a ha => s_ret (v := .str z) (ev_xf rfl hd look_field) fun H4 e4 => qx z (by first | exact hz | (rw [hcs]; exact hz)) H4 ((e02.trans e3).trans e4), fun z => nomatch z⟩) (fun hz H3 e3 hR3 => s_ret ev_c fun H4 e4 => qy (by first | exact hz | (rw [hcs]; exact hz)) H4 (((ex_hide e02).trans e3).trans e4) (by rw [hcs]; exact hR3.ex e4))
      match k, hk with
      | 0, _ => rfl
      | 1, _ => rfl
      | 2, _ => rfl
      | 3, _ => rfl
      | k + 4, h => omega
    have e_1 : Ex H H_1 := (e_0).trans ex_1
    refine s_if (b := decide (ks = [2])) (et_eqN (cs := [2]) rfl ((e_1) _ _ hA) (by decide)) (fun hb Hx ex => ?_) (fun hb2 H_2 ex_2 => ?_)
    · have hcs : ks = [2] := of_decide_eq_true hb
      have ee : Ex H Hx := (e_1).trans ex
      refine ⟨_, rfl, r, dx, fs, rfl, ee _ _ hrr, nc, ?_⟩
      try dsimp only [tNil]
      refine ((ea_cons (ix 2 ee (by decide)) ea_nil)) Hx (Ex.refl _) _ fun H2 e2 => ?_
      have e02 := ee.trans e2
      refine chg_call (names := ["tags"]) (zs := [new 2]) (asked := [2]) (new := new) (hR.ex e02) (fun k hk => (hV.2 k hk).ex e02) (by decide +kernel) (by decide +kernel) rfl (by decide +kernel) (fun k hk => ?_) (by decide) (fun z hz d H3 e3 hd => ⟨true, T.x_NoRule.s, fun _ a ha => s_ret (v := .str z) (ev_xf rfl hd look_field) fun H4 e4 => qx z (by first | exact hz | (rw [hcs]; exact hz)) H4 ((e02.trans e3).trans e4), fun z => nomatch z⟩) (fun hz H3 e3 hR3 => s_ret ev_c fun H4 e4 => qy (by first | exact hz | (rw [hcs]; exact hz)) H4 (((ex_hide e02).trans e3).trans e4) (by rw [hcs]; exact hR3.ex e4))
      match k, hk with
      | 0, _ => rfl
      | 1, _ => rfl
      | 2, _ => rfl
      | 3, _ => rfl
      | k + 4, h => omega
    have e_2 : Ex H H_2 := (e_1).trans ex_2
    refine s_if (b := decide (ks = [3])) (et_eqN (cs := [3]) rfl ((e_2) _ _ hA) (by decide)) (fun hb Hx ex => ?_) (fun hb3 H_3 ex_3 => ?_)
    · have hcs : ks = [3] := of_decide_eq_true hb
      have ee : Ex H Hx := (e_2).trans ex
      refine ⟨_, rfl, r, dx, fs, rfl, ee _ _ hrr, nc, ?_⟩
      try dsimp only [tNil]
      refine ((ea_cons (ix 3 ee (by decide)) ea_nil)) Hx (Ex.refl _) _ fun H2 e2 => ?_
      have e02 := ee.trans e2
      refine chg_call (names := ["quiet"]) (zs := [new 3]) (asked := [3]) (new := new) (hR.ex e02) (fun k hk => (hV.2 k hk).ex e02) (by decide +kernel) (by decide +kernel) rfl (by decide +kernel) (fun k hk => ?_) (by decide) (fun z hz d H3 e3 hd => ⟨true, T.x_NoRule.s, fun _ a ha => s_ret (v := .str z) (ev_xf rfl hd look_field) fun H4 e4 => qx z (by first | exact hz | (rw [hcs]; exact hz)) H4 ((e02.trans e3).trans e4), fun z => nomatch z⟩) (fun hz H3 e3 hR3 => s_ret ev_c fun H4 e4 => qy (by first | exact hz | (rw [hcs]; exact hz)) H4 (((ex_hide e02).trans e3).trans e4) (by rw [hcs]; exact hR3.ex e4))
      match k, hk with
      | 0, _ => rfl
      | 1, _ => rfl
      | 2, _ => rfl
      | 3, _ => rfl
      | k + 4, h => omega
    have e_3 : Ex H H_3 := (e_2).trans ex_3
    refine s_if (b := decide (ks = [0, 2])) (et_eqN (cs := [0, 2]) rfl ((e_3) _ _ hA) (by decide)) (fun hb Hx ex => ?_) (fun hb4 H_4 ex_4 => ?_)
    · have hcs : ks = [0, 2] := of_decide_eq_true hb
      have ee : Ex H Hx := (e_3).trans ex
      refine ⟨_, rfl, r, dx, fs, rfl, ee _ _ hrr, nc, ?_⟩
      try dsimp only [tNil]
      refine ((ea_cons (ix 2 ee (by decide)) (ea_cons (ix 0 ee (by decide)) ea_nil))) Hx (Ex.refl _) _ fun H2 e2 => ?_
      have e02 := ee.trans e2
      refine chg_call (names := ["tags", "most"]) (zs := [new 2, new 0]) (asked := [0, 2]) (new := new) (hR.ex e02) (fun k hk => (hV.2 k hk).ex e02) (by decide +kernel) (by decide +kernel) rfl (by decide +kernel) (fun k hk => ?_) (by decide) (fun z hz d H3 e3 hd => ⟨true, T.x_NoRule.s, fun _ a ha => s_ret (v := .str z) (ev_xf rfl hd look_field) fun H4 e4 => qx z (by first | exact hz | (rw [hcs]; exact hz)) H4 ((e02.trans e3).trans e4), fun z => nomatch z⟩) (fun hz H3 e3 hR3 => s_ret ev_c fun H4 e4 => qy (by first | exact hz | (rw [hcs]; exact hz)) H4 (((ex_hide e02).trans e3).trans e4) (by rw [hcs]; exact hR3.ex e4))
      match k, hk with
      | 0, _ => rfl
      | 1, _ => rfl
      | 2, _ => rfl
      | 3, _ => rfl
      | k + 4, h => omega
    have e_4 : Ex H H_4 := (e_3).trans ex_4
    refine s_if (b := decide (ks = [1, 3])) (et_eqN (cs := [1, 3]) rfl ((e_4) _ _ hA) (by decide)) (fun hb Hx ex => ?_) (fun hb5 H_5 ex_5 => ?_)
    · have hcs : ks = [1, 3] := of_decide_eq_true hb
      have ee : Ex H Hx := (e_4).trans ex
      refine ⟨_, rfl, r, dx, fs, rfl, ee _ _ hrr, nc, ?_⟩
      try dsimp only [tNil]
      refine ((ea_cons (ix 3 ee (by decide)) (ea_cons (ix 1 ee (by decide)) ea_nil))) Hx (Ex.refl _) _ fun H2 e2 => ?_
      have e02 := ee.trans e2
      refine chg_call (names := ["quiet", "alone"]) (zs := [new 3, new 1]) (asked := [1, 3]) (new := new) (hR.ex e02) (fun k hk => (hV.2 k hk).ex e02) (by decide +kernel) (by decide +kernel) rfl (by decide +kernel) (fun k hk => ?_) (by decide) (fun z hz d H3 e3 hd => ⟨true, T.x_NoRule.s, fun _ a ha => s_ret (v := .str z) (ev_xf rfl hd look_field) fun H4 e4 => qx z (by first | exact hz | (rw [hcs]; exact hz)) H4 ((e02.trans e3).trans e4), fun z => nomatch z⟩) (fun hz H3 e3 hR3 => s_ret ev_c fun H4 e4 => qy (by first | exact hz | (rw [hcs]; exact hz)) H4 (((ex_hide e02).trans e3).trans e4) (by rw [hcs]; exact hR3.ex e4))
      match k, hk with
      | 0, _ => rfl
      | 1, _ => rfl
      | 2, _ => rfl
      | 3, _ => rfl
      | k + 4, h => omega
    have e_5 : Ex H H_5 := (e_4).trans ex_5
    refine s_if (b := decide (ks = [])) (et_eqN (cs := []) rfl ((e_5) _ _ hA) (by decide)) (fun hb Hx ex => ?_) (fun hb6 H_6 ex_6 => ?_)
    · have hcs : ks = [] := of_decide_eq_true hb
      have ee : Ex H Hx := (e_5).trans ex
      refine ⟨_, rfl, r, dx, fs, rfl, ee _ _ hrr, nc, ?_⟩
      try dsimp only [tNil]
      have e02 := ee
      refine chg_call (names := []) (zs := []) (asked := []) (new := new) (hR.ex e02) (fun k hk => (hV.2 k hk).ex e02) (by decide +kernel) (by decide +kernel) rfl (by decide +kernel) (fun k hk => ?_) (by decide) (fun z hz d H3 e3 hd => ⟨true, T.x_NoRule.s, fun _ a ha => s_ret (v := .str z) (ev_xf rfl hd look_field) fun H4 e4 => qx z (by first | exact hz | (rw [hcs]; exact hz)) H4 ((e02.trans e3).trans e4), fun z => nomatch z⟩) (fun hz H3 e3 hR3 => s_ret ev_c fun H4 e4 => qy (by first | exact hz | (rw [hcs]; exact hz)) H4 (((ex_hide e02).trans e3).trans e4) (by rw [hcs]; exact hR3.ex e4))
      match k, hk with
      | 0, _ => rfl
      | 1, _ => rfl
      | 2, _ => rfl
      | 3, _ => rfl
      | k + 4, h => omega
    have e_6 : Ex H H_6 := (e_5).trans ex_6
    have hcs : ks = [0, 1, 2, 3] := by
      unfold asks at hks
      simp only [List.mem_cons, List.not_mem_nil, or_false] at hks
      rcases hks with h | h | h | h | h | h | h | h
      · exact absurd h (of_decide_eq_false hb0)
      · exact absurd h (of_decide_eq_false hb1)
      · exact absurd h (of_decide_eq_false hb2)
      · exact absurd h (of_decide_eq_false hb3)
      · exact absurd h (of_decide_eq_false hb4)
      · exact absurd h (of_decide_eq_false hb5)
      · exact absurd h (of_decide_eq_false hb6)
      · exact h
    have ee : Ex H H_6 := e_6
    refine ⟨_, rfl, r, dx, fs, rfl, ee _ _ hrr, nc, ?_⟩
    try dsimp only [tNil]
    refine ((ea_cons (ix 3 ee (by decide)) (ea_cons (ix 2 ee (by decide)) (ea_cons (ix 1 ee (by decide)) (ea_cons (ix 0 ee (by decide)) ea_nil))))) H_6 (Ex.refl _) _ fun H2 e2 => ?_
    have e02 := ee.trans e2
    refine chg_call (names := ["quiet", "tags", "alone", "most"]) (zs := [new 3, new 2, new 1, new 0]) (asked := [0, 1, 2, 3]) (new := new) (hR.ex e02) (fun k hk => (hV.2 k hk).ex e02) (by decide +kernel) (by decide +kernel) rfl (by decide +kernel) (fun k hk => ?_) (by decide) (fun z hz d H3 e3 hd => ⟨true, T.x_NoRule.s, fun _ a ha => s_ret (v := .str z) (ev_xf rfl hd look_field) fun H4 e4 => qx z (by first | exact hz | (rw [hcs]; exact hz)) H4 ((e02.trans e3).trans e4), fun z => nomatch z⟩) (fun hz H3 e3 hR3 => s_ret ev_c fun H4 e4 => qy (by first | exact hz | (rw [hcs]; exact hz)) H4 (((ex_hide e02).trans e3).trans e4) (by rw [hcs]; exact hR3.ex e4))
    match k, hk with
    | 0, _ => rfl
    | 1, _ => rfl
    | 2, _ => rfl
    | 3, _ => rfl
    | k + 4, h => omega
/-! ### _law_strange, _law_assigned -/
def spStrange (CR : Addr) : Sp := fun vs H Q _ => ∃ (r b e : Addr) (vals : Nat → V) (v : V), vs = [.ref r, v] ∧ RuleL CR H r b e vals ∧ AnyV v H ∧ ∀ H', Ex H H' → Q (.bl true) H'
theorem ok__law_strange {f : Addr} {fd : FuncData} (F : Fun K "_law_strange" "_law_strange" s__law_strange f fd) (T : Txt K mg a_FIELDS a_OPEN_PARTS C_Form C_GlueError C_NoRule C_Rule) (D_Rule_change : DfWX P w K mg base C_Rule "change" 5 (spChgW C_Rule C_NoRule)) : FnOk P w K mg base CX0 7 f fd ["rule", "value"] (spStrange C_Rule) := by
  refine F.ok sc__law_strange (fun vs H Q E h => ?_) (fun cdv A outer s0 H vs Q E hr h => ?_)
  · obtain ⟨r, b, e, vals, v, rfl, _⟩ := h
    rfl
  · obtain ⟨r, b, e, vals, v, rfl, hR, hv, q⟩ := h
    refine ⟨_, (pss_cons (ps_try_as (x := "NoRule") (c := .ref C_NoRule) (i := 2) rfl rfl sc__law_strange.nd rfl rfl ⟨rfl, by decide, .inl T.m_NoRule⟩ takes0 (fun W pn xe tk _ => (pss_one (ps_expr (pe_methWS (ks := ["most", "speed"]) (pv 0) T.k_Rule D_Rule_change (hr.mono (by decide)) tk (pk_cons (pv 1) (pk_cons pe_int pk_nil)))))) (fun a oe cls d pn hz hf => (pss_one (ps_ret (pe_cmpR op_eq (pe_xf T.x_NoRule.x T.f_NoRule_field hz hf (pv 2)) pe_str (nomark _))))))
      (pss_one (ps_ret pe_bl))), ?_⟩
    obtain ⟨dx, fs, hrr, hf⟩ := id hR
    have nc : fs.lookup ("change" : Str) = none := hf.no _ (by decide +kernel)
    refine ⟨_, rfl, r, dx, fs, rfl, hrr, nc, ?_⟩
    refine (ea_cons (ev_var rfl) (ea_cons ev_c ea_nil)) H (Ex.refl _) _ fun H2 e2 => ?_
    refine ⟨by decide +kernel, by decide +kernel, rfl, by decide, rfl, fun d hd => ?_⟩
    have nrd : r ≠ d := fun z => by
      rw [z] at hrr
      rw [e2 _ _ hrr] at hd
      cases hd
    have e1 : Ex H2 (upd H2 d (.dK (kwV ["most", "speed"] [v, .int 2]))) := Ex.new hd
    have eh : Ex H2 (hide d (upd H2 d (.dK (kwV ["most", "speed"] [v, .int 2])))) := fun x o hx => by
      rw [hide_ne (ne_of_none hx hd)]
      exact e1 _ _ hx
    have bad : ¬ namesIn (kwV ["most", "speed"] [v, .int 2]) := fun h => by
      obtain ⟨z, h1, h2⟩ := h (.inr "speed", .int 2) (by
        show _ ∈ [((Sum.inr "most" : Key), v), ((Sum.inr "speed" : Key), V.int 2)]
        simp)
      cases h1
      exact absurd h2 (by decide +kernel)
    refine ⟨r, d, b, e, vals, _, rfl, nrd, (hR.ex e2).ex e1, upd_same, fun p hp => ?_, fun k hk v2 hv2 => ?_, fun _ d2 H3 e3 hd2 => ⟨true, T.x_NoRule.s, fun _ a ha => ?_, fun z => nomatch z⟩, fun hn => absurd hn bad, fun hn => absurd hn bad⟩
    · have hp2 : p ∈ [((Sum.inr "most" : Key), v), (Sum.inr "speed", V.int 2)] := hp
      simp only [List.mem_cons, List.not_mem_nil, or_false] at hp2
      rcases hp2 with rfl | rfl <;> exact ⟨_, rfl⟩
    · match k, hk with
      | 0, _ =>
        obtain rfl : v = v2 := Option.some.inj hv2
        exact (hv.ex e2).ex e1
      | 1, _ => cases hv2
      | 2, _ => cases hv2
      | 3, _ => cases hv2
      | k + 4, h => omega
    · exact s_ret (v := .bl true) (ev_is (ev_op (ev_xf rfl hd2 look_field) ev_c rv_eqS) (by rw [decide_eq_true rfl])) fun H4 e4 => q H4 (((e2.trans eh).trans e3).trans e4)
def spAsgd (CR : Addr) : Sp := fun vs H Q _ => ∃ (r b e : Addr) (vals : Nat → V) (z : Str) (v : V), vs = [.ref r, .str z, v] ∧ RuleL CR H r b e vals ∧ AnyV v H ∧
  (∀ k, k < 4 → z = fieldS k → goodV k v = true → ∀ H', Ex (hide r H) H' → RuleL CR H' r b e (setV vals k v) → Q .non H') ∧ (∀ k, k < 4 → z = fieldS k → goodV k v = false → ∀ H', Ex H H' → Q (.str (fieldS k)) H') ∧ (z ∉ fieldsS → ∀ H', Ex H H' → Q (.str "name") H')
theorem ok__law_assigned {f : Addr} {fd : FuncData} (F : Fun K "_law_assigned" "_law_assigned" s__law_assigned f fd) (T : Txt K mg a_FIELDS a_OPEN_PARTS C_Form C_GlueError C_NoRule C_Rule) (D_assign : DfR P w K mg base "assign" ["rule", "field", "value"] 7 (spAsgX C_Rule C_NoRule)) : FnOk P w K mg base CX0 8 f fd ["rule", "field", "value"] (spAsgd C_Rule) := by
  refine F.ok sc__law_assigned (fun vs H Q E h => ?_) (fun cdv A outer s0 H vs Q E hr h => ?_)
  · obtain ⟨r, b, e, vals, z, v, rfl, _⟩ := h
    rfl
  · obtain ⟨r, b, e, vals, z, v, rfl, hR, hv, qy, qn, qx⟩ := h
    refine ⟨_, (pss_cons (ps_try_as (x := "NoRule") (c := .ref C_NoRule) (i := 4) rfl rfl sc__law_assigned.nd rfl rfl ⟨rfl, by decide, .inl T.m_NoRule⟩ takes0 (fun W pn xe tk _ => (pss_one (ps_set (i := 3) sc__law_assigned.nd rfl (Or.inl rfl) (pe_dfR D_assign (hr.mono (by decide)) (by rfl) tk (pa_cons (pv 0) (pa_cons (pv 1) (pa_cons (pv 2) pa_nil))))))) (fun a oe cls d pn hz hf => (pss_one (ps_ret (pe_xf T.x_NoRule.x T.f_NoRule_field hz hf (pv 4))))))
      (pss_cons (ps_if (pt_cmpR op_isN (pv 3) pe_non (nomark _))
      (pss_one (ps_ret pe_non))
      pss_nil)
      (pss_one (ps_ret pe_str)))), ?_⟩
    refine ⟨_, rfl, _, rfl, _, rfl, r, z, v, b, e, vals, rfl, hv, hR, fun k hk hz hg H1 e1 hR1 => ?_, fun k hk hz hg d H1 e1 hd => ⟨true, T.x_NoRule.s, fun _ a ha => ?_, fun z => nomatch z⟩, fun hz d H1 e1 hd => ⟨true, T.x_NoRule.s, fun _ a ha => ?_, fun z => nomatch z⟩⟩
    · dsimp only [gName]
      refine q_when (b := true) (et_test (ev_op (ev_var (v := .non) rfl) ev_c rv_isN)) (fun _ H2 e2 => ?_) (fun z => by cases z)
      exact s_ret ev_c fun H3 e3 => qy k hk hz hg H3 (e1.trans (e2.trans e3)) (hR1.ex (e2.trans e3))
    · exact s_ret (v := .str (fieldS k)) (ev_xf rfl hd look_field) fun H3 e3 => qn k hk hz hg H3 (e1.trans e3)
    · exact s_ret (v := .str "name") (ev_xf rfl hd look_field) fun H3 e3 => qx hz H3 (e1.trans e3)

/-! ### comprehensions that draw, told by what holds of each item -/
/-- what is told of a value needs neither the pool nor a list of such values -/
structure Apt (M : V → Hp → Prop) : Prop where
  up : ∀ v H H', Ex H H' → M v H → M v H'
  pool : ∀ v H p s, M v H → H p = some (pl s) → v ≠ .ref p → M v (hide p H)
  lst : ∀ v H D acc, M v H → H D = some (.lst acc) → (∀ u ∈ acc, M u (hide D H)) → v ≠ .ref D → M v (hide D H)
theorem hide_hide {p D : Addr} {H : Hp} : hide p (hide D H) = hide D (hide p H) := by
  funext a
  unfold hide
  by_cases c1 : a = p <;> by_cases c2 : a = D <;> simp [c1, c2]
theorem lc_drawX {M : V → Hp → Prop} (A : Apt M) {te : TE} {σ : L2.St} {us : List Nat} {j : Nat} {p : Addr} {s : Int × Int} {H0 H1 : Hp} {n : Nat} {Q : VK} (hk : Pk s) (hp : H1 p = some (pl s)) (hn : n ≤ 1000)
    (hw : ∀ x, wipe ((wipe σ us).set j (some x)) us = wipe σ us)
    (he : ∀ (i : Nat) (H : Hp) (s : Int × Int), Pk s → H p = some (pl s) → Ex (hide p H1) H → ∀ Q : VK, (∀ v s' H', Pk s' → (∀ l, v = .ref l → H l = none ∨ ∀ xs, H' l ≠ some (.lst xs)) → Ex (hide p H) H' → H' p = some (pl s') → M v H' → Q v H') → te ((wipe σ us).set j (some (.int (i : Int)))) H Q)
    (hq : ∀ l vs s' H', Pk s' → vs.length = n → H1 l = none → Ex (hide p H1) H' → H' p = some (pl s') → H' l = some (.lst vs) → (∀ v ∈ vs, M v (hide p (hide l H'))) → Q (.ref l) H') : tLc (iHere (Itr 0 n) H1) (gName j) tYes te us σ H0 Q := fun D hD => by
  have npD : p ≠ D := fun z => by
    rw [z, hD] at hp
    cases hp
  refine lc_it (walk_range (lo := 0) (n := n)) (fun i H => ∃ vs s', Pk s' ∧ vs.length = i ∧ H D = some (.lst vs) ∧ H p = some (pl s') ∧ Ex (hide p H1) (hide p (hide D H)) ∧ ∀ v ∈ vs, M v (hide p (hide D H))) ⟨[], s, hk, rfl, upd_same, ?_, ?_, fun v hv => by cases hv⟩ (fun _ _ _ _ => trivial) ?_ ?_
  · rw [upd_ne npD]
    exact hp
  · rw [hide_upd, hide_none hD]
    exact Ex.refl _
  · rintro i x H H' hi ⟨vs, s', hk', hl, hv, hp2, e, r⟩ ⟨rfl, rfl⟩
    have ez : (0 : Int) + (i : Int) = (i : Int) := Int.zero_add _
    show wipe ((wipe σ us).set j (some (.int ((0 : Int) + (i : Int))))) us = wipe σ us ∧ te ((wipe σ us).set j (some (.int ((0 : Int) + (i : Int))))) H' _
    rw [ez]
    refine ⟨hw _, he i H' s' hk' hp2 (e.trans (hide_le.trans hide_le)) _ fun v s4 H4 hk4 hnew e4 hp4 mv => ?_⟩
    have hv4 : H4 D = some (.lst vs) := e4 _ _ (by rw [hide_ne npD.symm]; exact hv)
    have old : ∀ u ∈ vs, M u (hide p (hide D H4)) := fun u hu => A.up _ _ _ (ex_hide2 e4) (r u hu)
    refine ⟨vs, hv4, sz_lt (by omega), vs ++ [v], s4, hk4, by rw [List.length_append, hl]; rfl, upd_same, ?_, ?_, fun u hu => ?_⟩
    · rw [upd_ne npD]
      exact hp4
    · rw [hide_upd]
      exact e.trans (ex_hide2 e4)
    · rw [hide_upd]
      rcases List.mem_append.mp hu with z | z
      · exact old u z
      · rw [List.mem_singleton.mp z, hide_hide]
        refine A.lst v _ D vs (A.pool v H4 p s4 mv hp4 fun z2 => ?_) (by rw [hide_ne npD.symm]; exact hv4) (fun u hu => by rw [← hide_hide]; exact old u hu) fun z2 => ?_
        · rcases hnew p z2 with z3 | z3
          · rw [hp2] at z3
            cases z3
          · exact z3 _ hp4
        · rcases hnew D z2 with z3 | z3
          · rw [hv] at z3
            cases z3
          · exact z3 _ hv4
  · rintro H ⟨vs, s', hk', hl, hv, hp2, e, r⟩
    have e2 : Ex (hide p (hide D H)) (hide p H) := ex_hide hide_le
    exact hq D vs s' H hk' hl hD ((e.trans e2).trans hide_le) hp2 hv r
theorem qp_asgDrawX {M : V → Hp → Prop} (A : Apt M) {ta : TA} {te : TE} {tz : TS} {E : Ends} {σ : L2.St} {us : List Nat} {i j : Nat} {p : Addr} {s : Int × Int} {G H : Hp} {n : Nat} (K0 : Kn G p s H) (h : EvA ta σ H [.int (n : Int)]) (hk : Pk s) (hn : n ≤ 1000)
    (hw : ∀ x, wipe ((wipe σ us).set j (some x)) us = wipe σ us)
    (he : ∀ (i : Nat) (H2 : Hp) (s : Int × Int), Pk s → H2 p = some (pl s) → Ex (hide p H) H2 → ∀ Q : VK, (∀ v s' H', Pk s' → (∀ l, v = .ref l → H2 l = none ∨ ∀ xs, H' l ≠ some (.lst xs)) → Ex (hide p H2) H' → H' p = some (pl s') → M v H' → Q v H') → te ((wipe σ us).set j (some (.int (i : Int)))) H2 Q)
    (k : ∀ l vs s' H', Pk s' → vs.length = n → H l = none → Kn G p s' H' → Ex (hide p H) H' → H' l = some (.lst vs) → (∀ v ∈ vs, M v (hide p (hide l H'))) → tz E (σ.set i (some (.ref l))) H') : tSeq (tAsg (tLc (iRng1 ta) (gName j) tYes te us) (gName i)) tz E σ H :=
  h H (Ex.refl _) _ fun H1 e1 => ⟨(n : Int), rfl, by omega, by omega, by
    have g1 := e1 _ _ K0.at_
    have := lc_drawX (H0 := H1) (n := n) (Q := fun v H' => tz E (σ.set i (some v)) H') A hk g1 hn hw (fun i H2 s hs hp2 ex => he i H2 s hs hp2 ((ex_hide e1).trans ex)) fun l vs s' H' hk' hl' hl e' hp' hv r => k l vs s' H' hk' hl' (fresh_back e1 hl) (K0.next ((ex_hide e1).trans e') hp') ((ex_hide e1).trans e') hv r
    exact this⟩

theorem el_repW {σ : L2.St} {H : Hp} {ta tb : TE} {v : V} {n : Nat} (h : EvL ta σ H [v]) (hb : Ev tb σ H (.int (n : Int))) (hn : n ≤ 1000) : EvL (tOp rRep ta tb) σ H (List.replicate n v) := fun H1 e Q q =>
  h H1 e _ fun l H2 hl e2 h2 => hb H2 (e.trans e2) _ fun H3 e3 => ⟨l, (n : Int), _, rfl, rfl, e3 _ _ h2, by omega, by omega, sz_of (by simp; omega), fun p hp => by
    have er : (List.replicate ((n : Int)).toNat [v]).flatten = List.replicate n v := by
      rw [Int.toNat_natCast]
      have : ∀ j : Nat, (List.replicate j [v]).flatten = List.replicate j v := fun j => by
        induction j with
        | zero => rfl
        | succ j ih =>
          rw [List.replicate_succ, List.flatten_cons, ih, List.replicate_succ]
          rfl
      exact this n
    rw [er]
    have e13 := e2.trans e3
    exact q p _ (fresh_back e13 hp) (e13.trans (Ex.new hp)) upd_same⟩
/-! ### assignments in turn -/
theorem AnyV.hd2 {v : V} {H : Hp} {p : Addr} (h : AnyV v H) (n : H p ≠ some (.tup [])) : AnyV v (hide p H) := by
  rcases h with h | h | h | h | ⟨t, h, k⟩
  · exact .inl h
  · exact .inr (.inl h)
  · exact .inr (.inr (.inl h))
  · exact .inr (.inr (.inr (.inl h)))
  · exact .inr (.inr (.inr (.inr ⟨t, h, by rw [hide_ne (show t ≠ p from fun z => n (by rw [← z]; exact k))]; exact k⟩)))
theorem ValsAt.hdP {H : Hp} {a p : Addr} {s : Int × Int} {vals : Nat → V} (h : ValsAt H a vals) (hp : H p = some (pl s)) : ValsAt (hide p H) a vals := by
  have ne : a ≠ p := fun z => by
    have h1 := h.1
    rw [z, hp] at h1
    have := HO.lst.inj (Option.some.inj h1)
    simp at this
  exact ⟨by rw [hide_ne ne]; exact h.1, fun k hk => (h.2 k hk).hd2 fun z => by rw [hp] at z; cases z⟩
theorem ValsAt.hdR {H : Hp} {a r C dx : Addr} {fs : List (Str × V)} {vals : Nat → V} (h : ValsAt H a vals) (hr : H r = some (.ins C dx fs)) : ValsAt (hide r H) a vals := by
  have ne : a ≠ r := fun z => by
    have h1 := h.1
    rw [z, hr] at h1
    cases h1
  exact ⟨by rw [hide_ne ne]; exact h.1, fun k hk => (h.2 k hk).hd2 fun z => by rw [hr] at z; cases z⟩
structure EnvM (CF : Addr) (G : Hp) (b e ba ea : Addr) (ub ue : List V) (pb pe : List (List Str)) : Prop where
  hb : G b = some (.lst ub)
  rb : Rs (FormR CF) G ub pb
  he : G e = some (.lst ue)
  re : Rs (FormR CF) G ue pe
  nb : pb.length ≤ 100
  ne : pe.length ≤ 100
  hba : G ba = some (.lst ((pb.map nameF).map V.str))
  hea : G ea = some (.lst ((pe.map nameF).map V.str))
/-- the rule holds vals, the list at va holds vl -/
structure StM (CR : Addr) (G : Hp) (p r b e : Addr) (s : Int × Int) (vals vl : Nat → V) (va : Addr) (H : Hp) : Prop where
  ex : Ex G H
  at_ : H p = some (pl s)
  pk : Pk s
  ru : RuleL CR H r b e vals
  va_ : ValsAt H va vl
  gp : G p = none
  gr : G r = none
  np : r ≠ p
section
variable {CR : Addr} {G H H' : Hp} {p r b e : Addr} {s s' : Int × Int} {vals vl : Nat → V} {va : Addr}
theorem StM.same (h : StM CR G p r b e s vals vl va H) (x : Ex H H') : StM CR G p r b e s vals vl va H' := ⟨h.ex.trans x, x _ _ h.at_, h.pk, h.ru.ex x, h.va_.ex x, h.gp, h.gr, h.np⟩
theorem StM.pool (h : StM CR G p r b e s vals vl va H) (x : Ex (hide p H) H') (hp : H' p = some (pl s')) (hk : Pk s') : StM CR G p r b e s' vals vl va H' := ⟨fun y o hy => x _ _ (by rw [hide_ne (fun z => by rw [z, h.gp] at hy; cases hy)]; exact h.ex _ _ hy), hp, hk, by
  obtain ⟨dx, fs, h1, h2⟩ := h.ru
  exact ⟨dx, fs, x _ _ (by rw [hide_ne h.np]; exact h1), h2⟩, (h.va_.hdP h.at_).ex x, h.gp, h.gr, h.np⟩
theorem StM.rule {vals' : Nat → V} (h : StM CR G p r b e s vals vl va H) (x : Ex (hide r H) H') (hr : RuleL CR H' r b e vals') : StM CR G p r b e s vals' vl va H' := ⟨fun y o hy => x _ _ (by rw [hide_ne (fun z => by rw [z, h.gr] at hy; cases hy)]; exact h.ex _ _ hy), x _ _ (by rw [hide_ne h.np.symm]; exact h.at_), h.pk, hr, by
  obtain ⟨dx, fs, h1, h2⟩ := h.ru
  exact (h.va_.hdR h1).ex x, h.gp, h.gr, h.np⟩
theorem StM.list {va' : Addr} {vl' : Nat → V} (h : StM CR G p r b e s vals vl va H) (hv : ValsAt H va' vl') : StM CR G p r b e s vals vl' va' H := ⟨h.ex, h.at_, h.pk, h.ru, hv, h.gp, h.gr, h.np⟩
end
theorem ev_tells {CR CF : Addr} {G : Hp} {p r b e ba ea va : Addr} {s : Int × Int} {vals : Nat → V} {ub ue : List V} {pb pe : List (List Str)} {σ : L2.St} {H : Hp} {ta : TA} (S : StM CR G p r b e s vals vals va H) (g : allG vals) (M : EnvM CF G b e ba ea ub ue pb pe) (h : EvA ta σ H [.ref r, .ref va, .ref ba, .ref ea]) : Ev (tCall (spTells CR CF) [] E0 ta) σ H (.bl true) :=
  ev_call h fun H2 e2 Q q E => ⟨r, va, ba, ea, b, e, vals, ub, ue, pb, pe, rfl, S.ru.ex e2, S.va_.ex e2, g, (S.ex.trans e2) _ _ M.hb, M.rb.ex upF (S.ex.trans e2), (S.ex.trans e2) _ _ M.he, M.re.ex upF (S.ex.trans e2), M.nb, M.ne, (S.ex.trans e2) _ _ M.hba, (S.ex.trans e2) _ _ M.hea, q⟩
theorem asg_call {CR : Addr} {H : Hp} {r b e : Addr} {vals : Nat → V} {k : Nat} {v : V} {Q : VK} {E : XK} (hR : RuleL CR H r b e vals) (hv : AnyV v H) (k4 : k < 4) (q : ∀ H', Ex (hide r H) H' → RuleL CR H' r b e (if goodV k v = true then setV vals k v else vals) → Q (oS (dueL (fun _ => v) [k])) H') : spAsgd CR [.ref r, .str (fieldS k), v] H Q E := by
  refine ⟨r, b, e, vals, fieldS k, v, rfl, hR, hv, fun j hj hz hg H1 e1 hR1 => ?_, fun j hj hz hg H1 e1 => ?_, fun hn => absurd ?_ hn⟩
  · obtain rfl := fieldS_inj k k4 j hj hz
    have := q H1 e1 (by rw [hg, if_pos rfl]; exact hR1)
    rw [dueL_cons, hg] at this
    exact this
  · obtain rfl := fieldS_inj k k4 j hj hz
    have := q H1 (hide_le.trans e1) (by rw [hg, if_neg Bool.false_ne_true]; exact hR.ex e1)
    rw [dueL_cons, hg] at this
    exact this
  · have := List.mem_of_getElem? (fields_at k k4)
    exact this
theorem due_one {k : Nat} {v : V} : oS (dueL (fun _ => v) [k]) = if goodV k v = true then .non else .str (fieldS k) := by
  rw [dueL_cons]
  split <;> rfl
theorem oS_ne (o : Option Str) : scal (oS o) (oS o) = true := by
  cases o <;> rfl
theorem oS_non (o : Option Str) : decide (oS o = V.non) = o.isNone := by
  cases o <;> rfl
def others : List Str := ["", "Most", "marks", "begins", "change", "name"]
theorem others_no : ∀ z ∈ others, z ∉ fieldsS := by decide +kernel
def spAssigns (CR CF : Addr) : Sp := fun vs H Q _ => ∃ (G : Hp) (p r va ba ea b e : Addr) (s : Int × Int) (vals : Nat → V) (ub ue : List V) (pb pe : List (List Str)), vs = [.ref p, .ref r, .ref va, .ref ba, .ref ea] ∧ StM CR G p r b e s vals vals va H ∧ allG vals ∧ EnvM CF G b e ba ea ub ue pb pe ∧
  ∀ (vals' : Nat → V) (va' : Addr) (s' : Int × Int) (H' : Hp), StM CR G p r b e s' vals' vals' va' H' → allG vals' → Q (.ref va') H'
theorem ok__law_assigns {f : Addr} {fd : FuncData} (F : Fun K "_law_assigns" "_law_assigns" s__law_assigns f fd) (T : Txt K mg a_FIELDS a_OPEN_PARTS C_Form C_GlueError C_NoRule C_Rule) (D__law_take : Df P w K mg base "_law_take" ["pool", "many"] 1 spTake) (D__law_value : Df P w K mg base "_law_value" ["pool", "k"] 2 spVal) (D__law_due : Df P w K mg base "_law_due" ["values", "asked"] 2 spDue26)
    (D__law_fields : Df P w K mg base "_law_fields" [] 1 spFields) (D__law_assigned : Df P w K mg base "_law_assigned" ["rule", "field", "value"] 8 (spAsgd C_Rule)) (D__law_tells : Df P w K mg base "_law_tells" ["rule", "values", "begins", "ends"] 4 (spTells C_Rule C_Form)) : FnOk P w K mg base CX0 9 f fd ["pool", "rule", "values", "begins", "ends"] (spAssigns C_Rule C_Form) := by
  refine F.ok sc__law_assigns (fun vs H Q E h => ?_) (fun cdv A outer s0 H vs Q E hr h => ?_)
  · obtain ⟨G, p, r, va, ba, ea, b, e, s, vals, ub, ue, pb, pe, rfl, _⟩ := h
    rfl
  · obtain ⟨G, p, r, va, ba, ea, b, e, s, vals, ub, ue, pb, pe, rfl, S0, g0, M, q⟩ := h
    refine ⟨_, (pss_cons (ps_for PassesOwn.never rfl (pi_range1 (by rfl) T.n_range (pa_cons pe_int pa_nil)) (pg_name (i := 5) sc__law_assigns.nd rfl (Or.inl rfl))
      (pss_cons (ps_set (i := 6) sc__law_assigns.nd rfl (Or.inr rfl) (pe_df D__law_take (hr.mono (by decide)) (by rfl) (pa_cons (pv 0) (pa_cons pe_int pa_nil))))
      (pss_cons (ps_set (i := 7) sc__law_assigns.nd rfl (Or.inr rfl) (pe_df D__law_value (hr.mono (by decide)) (by rfl) (pa_cons (pv 0) (pa_cons (pv 6) pa_nil))))
      (pss_cons (ps_set (i := 8) sc__law_assigns.nd rfl (Or.inl rfl) (pe_df D__law_due (hr.mono (by decide)) (by rfl) (pa_cons (pe_op op_rep (pe_lst (pa_cons (pv 7) pa_nil)) pe_int) (pa_cons (pe_lst (pa_cons (pv 6) pa_nil)) pa_nil))))
      (pss_cons (ps_if (pt_cmpR op_ne (pe_df D__law_assigned (hr.mono (by decide)) (by rfl) (pa_cons (pv 1) (pa_cons (pe_ix ix_list (pe_df0 D__law_fields (hr.mono (by decide)) (by rfl)) (pv 6) (fun _ _ => rfl)) (pa_cons (pv 7) pa_nil)))) (pv 8) (nomark _))
      (pss_one (ps_ret pe_non))
      pss_nil)
      (pss_cut (ps_if (pt_cmpR op_isN (pv 8) pe_non (nomark _))
      (pss_one (ps_set (i := 2) sc__law_assigns.nd rfl (Or.inr rfl) (pe_lc (own := [("at", 10)]) (g := gName 10) rfl sc__law_assigns.nd (pi_range1 (by rfl) T.n_range (pa_cons pe_int pa_nil)) (blkOk_by (own := [("at", 10)]) (N := ["pool", "rule", "values", "begins", "ends", "turn", "k", "value", "due", "other", "at"]) (sc := defScope s__law_assigns) (by decide +kernel)) (fun _ _ _ _ _ => pg_name (i := 10) sc__law_assigns.nd rfl (Or.inl rfl)) (fun _ _ _ _ _ => pts_nil) (fun _ _ _ _ _ => (pe_ifExp (pt_cmpR op_eq (pv 10) (pv 6) (nomark _)) (pv 7) (pe_ix (ix_listK K rfl) (pv 2) (pv 10) (fun _ _ => rfl)))))))
      pss_nil)
      (pss_cons (ps_set (i := 9) sc__law_assigns.nd rfl (Or.inl rfl) (pe_ix ix_list (pe_lst (pa_cons pe_str (pa_cons pe_str (pa_cons pe_str (pa_cons pe_str (pa_cons pe_str (pa_cons pe_str pa_nil))))))) (pe_df D__law_take (hr.mono (by decide)) (by rfl) (pa_cons (pv 0) (pa_cons pe_int pa_nil))) (fun _ _ => rfl)))
      (pss_one (ps_if (PW.pt (pw_or (pt_cmpR op_ne (pe_df D__law_assigned (hr.mono (by decide)) (by rfl) (pa_cons (pv 1) (pa_cons (pv 9) (pa_cons (pv 7) pa_nil)))) pe_str (nomark _)) (pw_or1 (pt_not (pt_val (pe_df D__law_tells (hr.mono (by decide)) (by rfl) (pa_cons (pv 1) (pa_cons (pv 2) (pa_cons (pv 3) (pa_cons (pv 4) pa_nil))))))))))
      (pss_one (ps_ret pe_non))
      pss_nil)))))))))
      (pss_one (ps_ret (pv 2)))), ?_⟩
    refine q_forR1 (n := 4) (ea_cons ev_c ea_nil) (by decide) (fun i σ' H' => ∃ (vals : Nat → V) (va : Addr) (s : Int × Int) (y5 y6 y7 y8 y9 : Option V), σ' = [some (.ref p), some (.ref r), some (.ref va), some (.ref ba), some (.ref ea), y5, y6, y7, y8, y9, none] ∧ StM C_Rule G p r b e s vals vals va H' ∧ allG vals)
      (fun H1 e1 => ⟨vals, va, s, _, _, _, _, _, rfl, S0.same e1, g0⟩) ?_ ?_
    · clear S0 g0 q
      rintro i σ' H1 hi ⟨vals, va, s, y5, y6, y7, y8, y9, rfl, S1, g1⟩
      -- k, value
      have t4 := take_lt (s := s) (n := 4) (by decide)
      refine qp_asg (Kn.here S1.at_) (evp_take rfl S1.pk (by decide) (by decide)) fun H2 K2 e2 => ?_
      have S2 := S1.pool e2 K2.at_ (take_pk S1.pk)
      obtain ⟨k, hk⟩ : ∃ k : Nat, (take s 4).1 = (k : Int) := ⟨(take s 4).1.toNat, by omega⟩
      rw [hk] at t4 ⊢
      have k4 : k < 4 := by omega
      generalize (take s 4).2 = s2 at S2
      refine ⟨_, rfl, _, rfl, p, s2, k, rfl, S2.at_, S2.pk, fun v s3 H3 hv nv hk3 e3 hp3 => ?_⟩
      dsimp only [gName]
      have S3 := S2.pool e3 hp3 hk3
      -- due
      refine (el_repW (n := 4) (el_lst (ea_cons (ev_var rfl) ea_nil) (by simp)) ev_c (by decide)) H3 (Ex.refl _) _ fun la H4 hla e4 h4 => (el_lst (ea_cons (ev_var rfl) ea_nil) (by simp)) H4 (Ex.refl _) _ fun lk H5 hlk e5 h5 => ⟨la, lk, fun _ => v, [k], rfl, ⟨e5 _ _ h4, fun _ _ => hv.ex (e4.trans e5)⟩, h5, fun j hj => by rw [List.mem_singleton.mp hj]; exact k4, fun H6 e6 => ?_⟩
      dsimp only [gName]
      have S6 := ((S3.same e4).same e5).same e6
      have hv6 := ((hv.ex e4).ex e5).ex e6
      -- assigned
      refine ⟨_, rfl, (ev_fieldAt (fun _ => ev_var rfl) k4) H6 (Ex.refl _) _ fun H7 e7 => ⟨_, rfl, ?_⟩⟩
      dsimp only [tNil]
      refine asg_call (S6.ru.ex e7) (hv6.ex e7) k4 fun H8 e8 hR8 => ⟨_, rfl, ?_⟩
      have S8 := (S6.same e7).rule e8 hR8
      have hv8 : AnyV v H8 := by
        obtain ⟨dx, fs, h1, _⟩ := (S6.same e7).ru
        exact ((hv6.ex e7).hd2 fun z => by rw [h1] at z; cases z).ex e8
      refine (rv_ne (H := H8) (oS_ne _)) H8 (Ex.refl _) _ fun H9 e9 => ⟨_, rfl, ?_⟩
      rw [decide_eq_true rfl]
      show tCut _ _ _ _ _
      have S9 := S8.same e9
      have hv9 := hv8.ex e9
      obtain ⟨vals1, hvals1⟩ : ∃ v1, v1 = if goodV k v = true then setV vals k v else vals := ⟨_, rfl⟩
      rw [← hvals1] at S9
      have g9 : allG vals1 := fun j hj => by
        rw [hvals1]
        split
        · rename_i hg
          unfold setV
          split
          · rename_i hjk
            rw [hjk]
            exact hg
          · exact g1 j hj
        · exact g1 j hj
      refine q_cut (M := fun σ' H' => ∃ va1, σ' = [some (.ref p), some (.ref r), some (.ref va1), some (.ref ba), some (.ref ea), some (.int (i : Int)), some (.int (k : Int)), some v, some (oS (dueL (fun _ => v) [k])), y9, none] ∧ StM C_Rule G p r b e s3 vals1 vals1 va1 H' ∧ AnyV v H') ?_ ?_
      · refine s_when (b := goodV k v) (et_is (et_test (ev_op (ev_var rfl) ev_c rv_isN)) (by rw [due_one]; cases goodV k v <;> rfl)) (fun hg H10 e10 => ?_) (fun hg H10 e10 => ⟨va, rfl, (S9.same e10).list (vl' := vals1) ?_, hv9.ex e10⟩)
        · have S10 := S9.same e10
          have z := el_lcR1 (σ := [some (.ref p), some (.ref r), some (.ref va), some (.ref ba), some (.ref ea), some (.int (i : Int)), some (.int (k : Int)), some v, some (oS (dueL (fun _ => v) [k])), y9, none]) (H := H10) (te := tIf (tTest (tOp rEq (tVar 10) (tVar 6))) (tVar 7) (tOp (rIxL K) (tVar 2) (tVar 10))) (t := tYes) (ta := tCons (tC (.int 4)) tNil) (j := 10) (vs := [10]) (n := 4) (fun _ => true) (fun j => setV vals k v j) (ea_cons ev_c ea_nil) ⟨by decide, by decide⟩ wipe1 (fun j H11 e11 hj => et_yes) fun j H11 e11 hj _ H12 e12 Q' q' => by
            refine (et_is (b := decide (j = k)) (et_test (ev_op (ev_var rfl) (ev_var rfl) rv_eqI)) (by
              by_cases c : j = k
              · rw [decide_eq_true c]
                exact decide_eq_true (by omega)
              · rw [decide_eq_false c]
                exact decide_eq_false (by omega))) H12 (Ex.refl _) _ fun H13 e13 => ?_
            by_cases c : j = k
            · rw [decide_eq_true c, if_pos rfl]
              unfold setV at q'
              rw [if_pos c] at q'
              exact (ev_var (H := H13) rfl) H13 (Ex.refl _) Q' fun H14 e14 => q' H14 (e13.trans e14)
            · rw [decide_eq_false c, if_neg Bool.false_ne_true]
              unfold setV at q'
              rw [if_neg c] at q'
              exact (ev_valAt (ev_var rfl) (ev_var rfl) (((S10.va_.ex e11).ex e12).ex e13) (by omega)) H13 (Ex.refl _) Q' fun H14 e14 => q' H14 (e13.trans e14)
          refine z H10 (Ex.refl _) _ fun l H11 hl e11 h11 => ⟨l, rfl, (S10.same e11).list ?_, (hv9.ex e10).ex e11⟩
          rw [hvals1, if_pos hg]
          refine ⟨h11, fun j hj => ?_⟩
          unfold setV
          split
          · exact (hv9.ex e10).ex e11
          · exact (S10.va_.ex e11).2 j hj
        · rw [hvals1, if_neg (by rw [hg]; exact Bool.false_ne_true)]
          exact S9.va_.ex e10
      · rintro σ' H10 ⟨va1, rfl, S10, hv10⟩
        -- another name
        refine ⟨sz_of (by simp), fun lo hlo => ?_⟩
        have e11 : Ex H10 (upd H10 lo (.lst [.str "", .str "Most", .str "marks", .str "begins", .str "change", .str "name"])) := Ex.new hlo
        have h11 : (upd H10 lo (.lst [.str "", .str "Most", .str "marks", .str "begins", .str "change", .str "name"])) lo = some (.lst (others.map V.str)) := upd_same
        have nlo : lo ≠ p := fun z => by
          rw [z, S10.at_] at hlo
          cases hlo
        have S11 := S10.same e11
        have hv11 := hv10.ex e11
        generalize upd H10 lo (.lst [.str "", .str "Most", .str "marks", .str "begins", .str "change", .str "name"]) = H11 at e11 h11 S11 hv11
        have t6 := take_lt (s := s3) (n := 6) (by decide)
        refine (evp_take rfl S11.pk (by decide) (by decide)) H11 (Kn.here S11.at_) _ fun H12 e12 g12 => ?_
        have S12 := S11.pool e12 g12 (take_pk S11.pk)
        have hv12 : AnyV v H12 := (hv11.hd2 fun z => by rw [S11.at_] at z; cases z).ex e12
        obtain ⟨j, hj⟩ : ∃ j : Nat, (take s3 6).1 = (j : Int) := ⟨(take s3 6).1.toNat, by omega⟩
        rw [hj] at t6 ⊢
        have hoj : others[j]? = some (others[j]'(show j < 6 by omega)) := List.getElem?_eq_getElem (show j < 6 by omega)
        obtain ⟨z, hz⟩ : ∃ z, z = others[j]'(show j < 6 by omega) := ⟨_, rfl⟩
        have hno : z ∉ fieldsS := by
          rw [hz]
          exact others_no _ (List.getElem_mem _)
        refine ⟨lo, _, (j : Int), .str z, rfl, rfl, sq_of (e12 _ _ (by rw [hide_ne nlo]; exact h11)), atI_nat (by rw [List.getElem?_map, hoj, hz]; rfl), ?_⟩
        dsimp only [gName]
        refine s_when (b := false) (et_is (et_or (et_is (b := false) (et_test (ev_op (ev_call (z := .str "name") (ea_cons (ev_var rfl) (ea_cons (ev_var rfl) (ea_cons (ev_var rfl) ea_nil))) fun H13 e13 Q' q' E' => ⟨r, b, e, vals1, z, v, rfl, S12.ru.ex e13, hv12.ex e13, fun k hk hz2 => absurd (by rw [hz2]; exact List.mem_of_getElem? (fields_at k hk)) hno, fun k hk hz2 => absurd (by rw [hz2]; exact List.mem_of_getElem? (fields_at k hk)) hno, fun _ => q'⟩) ev_c rv_neS)) (by rw [decide_eq_true rfl]; rfl)) fun _ => et_not (a := true) (et_B (ev_tells S12 g9 M (ea_cons (ev_var rfl) (ea_cons (ev_var rfl) (ea_cons (ev_var rfl) (ea_cons (ev_var rfl) ea_nil))))))) rfl) (fun z => by cases z) (fun _ H13 e13 => ⟨vals1, va1, _, _, _, _, _, _, rfl, S12.same e13, g9⟩)
    · rintro σ' H1 ⟨vals, va, s, y5, y6, y7, y8, y9, rfl, S1, g1⟩
      exact s_ret (ev_var rfl) fun H2 e2 => q vals va s H2 (S1.same e2) g1

/-! ### changes in turn -/
def LisK (row : List Nat) (p : Addr) (H : Hp) : Prop := H p = some (.lst (row.map vN))
theorem upK : Up LisK := fun _ _ _ _ e h => e _ _ h
def EvLs (ta : TA) (σ : L2.St) (H : Hp) (xss : List (List Nat)) : Prop := ∀ H1, Ex H H1 → ∀ Q : List V → Hp → Prop, (∀ vs H2, Ex H1 H2 → Rs LisK H2 vs xss → (∀ l, V.ref l ∈ vs → H1 l = none) → Q vs H2) → ta σ H1 Q
theorem els_nil {σ : L2.St} {H : Hp} : EvLs tNil σ H [] := fun H1 _ Q q => q [] H1 (Ex.refl _) .nil fun l h => by cases h
theorem els_cons {σ : L2.St} {H : Hp} {te : TE} {tr : TA} {row : List Nat} {xss : List (List Nat)} (h : EvL te σ H (row.map vN)) (hr : EvLs tr σ H xss) : EvLs (tCons te tr) σ H (row :: xss) := fun H1 e Q q =>
  h H1 e _ fun l H2 hl e2 h2 => hr H2 (e.trans e2) _ fun vs H3 e3 r3 hn => q _ H3 (e2.trans e3) (.cons (upK _ _ _ _ e3 h2) r3) fun x hx => by
    rcases List.mem_cons.mp hx with z | z
    · cases z
      exact hl
    · exact fresh_back e2 (hn x z)
theorem inV_N {k : Nat} : ∀ ks : List Nat, inV (.int (k : Int)) (ks.map vN) = decide (k ∈ ks)
  | [] => rfl
  | c :: ks => by
    show (eqV (vN c) (.int (k : Int)) || inV (.int (k : Int)) (ks.map vN)) = _
    rw [inV_N ks]
    have e1 : eqV (vN c) (.int (k : Int)) = decide (k = c) := by
      show ((c : Int) == (k : Int)) = _
      by_cases h : k = c
      · subst h
        simp
      · rw [decide_eq_false h]
        exact beq_eq_false_iff_ne.mpr (by omega)
    rw [e1, ← Bool.decide_or]
    congr 1
    simp [List.mem_cons]
theorem flat_N (ks : List Nat) : (ks.map vN).all flatV = true := List.all_eq_true.mpr fun v hv => by
  obtain ⟨k, _, rfl⟩ := List.mem_map.mp hv
  rfl
theorem aptAny : Apt AnyV := ⟨fun _ _ _ e h => h.ex e, fun v H p s h hp _ => h.hd2 fun z => (by rw [hp] at z; cases z), fun v H D acc h hD _ _ => h.hd2 fun z => (by rw [hD] at z; cases z)⟩
theorem dueL_none {new : Nat → V} : ∀ {ks : List Nat}, dueL new ks = none → ∀ k ∈ ks, goodV k (new k) = true
  | [], _, k, h => by cases h
  | c :: ks, h, k, hk => by
    rw [dueL_cons] at h
    split at h
    · rename_i hg
      rcases List.mem_cons.mp hk with rfl | hk
      · exact hg
      · exact dueL_none h k hk
    · cases h
theorem asks_lt : ∀ ks ∈ asks, (∀ k ∈ ks, k < 4) ∧ ks.length ≤ 4 := by decide
theorem chg_one {CR : Addr} {H : Hp} {r va aa b e : Addr} {vals new : Nat → V} {ks : List Nat} {Q : VK} {E : XK} (hR : RuleL CR H r b e vals) (hV : ValsAt H va new) (hA : H aa = some (.lst (ks.map vN))) (hk : ks ∈ asks) (q : ∀ H', Ex (hide r H) H' → RuleL CR H' r b e (if dueL new ks = none then newV vals new ks else vals) → Q (oS (dueL new ks)) H') : spChange26 CR [.ref r, .ref va, .ref aa] H Q E := by
  refine ⟨r, va, aa, b, e, vals, new, ks, rfl, hR, hV, hA, hk, fun z hz H' e' => ?_, fun hz H' e' hR' => ?_⟩
  · have := q H' (hide_le.trans e') (by rw [if_neg (by rw [hz]; exact fun z => by cases z)]; exact hR.ex e')
    rw [hz] at this
    exact this
  · have := q H' e' (by rw [if_pos hz]; exact hR')
    rw [hz] at this
    exact this
theorem el_ask0 {σ : L2.St} {H : Hp} : EvL (tLst (tCons (tC (.int 0)) tNil)) σ H (([0] : List Nat).map vN) := el_lst (ea_cons ev_c ea_nil) (by simp)
theorem el_ask1 {σ : L2.St} {H : Hp} : EvL (tLst (tCons (tC (.int 1)) tNil)) σ H (([1] : List Nat).map vN) := el_lst (ea_cons ev_c ea_nil) (by simp)
theorem el_ask2 {σ : L2.St} {H : Hp} : EvL (tLst (tCons (tC (.int 2)) tNil)) σ H (([2] : List Nat).map vN) := el_lst (ea_cons ev_c ea_nil) (by simp)
theorem el_ask3 {σ : L2.St} {H : Hp} : EvL (tLst (tCons (tC (.int 3)) tNil)) σ H (([3] : List Nat).map vN) := el_lst (ea_cons ev_c ea_nil) (by simp)
theorem el_ask4 {σ : L2.St} {H : Hp} : EvL (tLst (tCons (tC (.int 0)) (tCons (tC (.int 2)) tNil))) σ H (([0, 2] : List Nat).map vN) := el_lst (ea_cons ev_c (ea_cons ev_c ea_nil)) (by simp)
theorem el_ask5 {σ : L2.St} {H : Hp} : EvL (tLst (tCons (tC (.int 1)) (tCons (tC (.int 3)) tNil))) σ H (([1, 3] : List Nat).map vN) := el_lst (ea_cons ev_c (ea_cons ev_c ea_nil)) (by simp)
theorem el_ask6 {σ : L2.St} {H : Hp} : EvL (tLst tNil) σ H (([] : List Nat).map vN) := el_lst ea_nil (by simp)
theorem el_ask7 {σ : L2.St} {H : Hp} : EvL (tLst (tCons (tC (.int 0)) (tCons (tC (.int 1)) (tCons (tC (.int 2)) (tCons (tC (.int 3)) tNil))))) σ H (([0, 1, 2, 3] : List Nat).map vN) := el_lst (ea_cons ev_c (ea_cons ev_c (ea_cons ev_c (ea_cons ev_c ea_nil)))) (by simp)
theorem els_asks {σ : L2.St} {H : Hp} : EvLs (tCons (tLst (tCons (tC (.int 0)) tNil)) (tCons (tLst (tCons (tC (.int 1)) tNil)) (tCons (tLst (tCons (tC (.int 2)) tNil)) (tCons (tLst (tCons (tC (.int 3)) tNil)) (tCons (tLst (tCons (tC (.int 0)) (tCons (tC (.int 2)) tNil))) (tCons (tLst (tCons (tC (.int 1)) (tCons (tC (.int 3)) tNil))) (tCons (tLst tNil) (tCons (tLst (tCons (tC (.int 0)) (tCons (tC (.int 1)) (tCons (tC (.int 2)) (tCons (tC (.int 3)) tNil))))) tNil)))))))) σ H asks := (els_cons el_ask0 (els_cons el_ask1 (els_cons el_ask2 (els_cons el_ask3 (els_cons el_ask4 (els_cons el_ask5 (els_cons el_ask6 (els_cons el_ask7 els_nil))))))))
theorem lst_asks {σ : L2.St} {H : Hp} {Q : VK} (k : ∀ us l H2, Ex H H2 → Rs LisK H2 us asks → (∀ x, V.ref x ∈ us → H x = none) → H2 l = none → Q (.ref l) (upd H2 l (.lst us))) : tLst (tCons (tLst (tCons (tC (.int 0)) tNil)) (tCons (tLst (tCons (tC (.int 1)) tNil)) (tCons (tLst (tCons (tC (.int 2)) tNil)) (tCons (tLst (tCons (tC (.int 3)) tNil)) (tCons (tLst (tCons (tC (.int 0)) (tCons (tC (.int 2)) tNil))) (tCons (tLst (tCons (tC (.int 1)) (tCons (tC (.int 3)) tNil))) (tCons (tLst tNil) (tCons (tLst (tCons (tC (.int 0)) (tCons (tC (.int 1)) (tCons (tC (.int 2)) (tCons (tC (.int 3)) tNil))))) tNil)))))))) σ H Q := by
  have z := els_asks (σ := σ) (H := H)
  generalize (tCons (tLst (tCons (tC (.int 0)) tNil)) (tCons (tLst (tCons (tC (.int 1)) tNil)) (tCons (tLst (tCons (tC (.int 2)) tNil)) (tCons (tLst (tCons (tC (.int 3)) tNil)) (tCons (tLst (tCons (tC (.int 0)) (tCons (tC (.int 2)) tNil))) (tCons (tLst (tCons (tC (.int 1)) (tCons (tC (.int 3)) tNil))) (tCons (tLst tNil) (tCons (tLst (tCons (tC (.int 0)) (tCons (tC (.int 1)) (tCons (tC (.int 2)) (tCons (tC (.int 3)) tNil))))) tNil)))))))) = ta at z ⊢
  exact z H (Ex.refl _) _ fun us H4 e4 r4 hn4 => ⟨sz_of (by rw [r4.len]; decide), fun l hl => k us l H4 e4 r4 hn4 hl⟩
theorem q_asgAsk {σ : L2.St} {H : Hp} {tb : TE} {tz : TS} {D : Ends} {i : Nat} (k : ∀ us l H2, Ex H H2 → Rs LisK H2 us asks → (∀ x, V.ref x ∈ us → H x = none) → H2 l = none → tb σ (upd H2 l (.lst us)) fun y H3 => rIxL K (.ref l) y H3 fun v H4 => tz D (σ.set i (some v)) H4) : tSeq (tAsg (tOp (rIxL K) (tLst (tCons (tLst (tCons (tC (.int 0)) tNil)) (tCons (tLst (tCons (tC (.int 1)) tNil)) (tCons (tLst (tCons (tC (.int 2)) tNil)) (tCons (tLst (tCons (tC (.int 3)) tNil)) (tCons (tLst (tCons (tC (.int 0)) (tCons (tC (.int 2)) tNil))) (tCons (tLst (tCons (tC (.int 1)) (tCons (tC (.int 3)) tNil))) (tCons (tLst tNil) (tCons (tLst (tCons (tC (.int 0)) (tCons (tC (.int 1)) (tCons (tC (.int 2)) (tCons (tC (.int 3)) tNil))))) tNil))))))))) tb) (gName i)) tz D σ H := by
  have z := lst_asks (σ := σ) (H := H) (Q := fun x H1 => tb σ H1 fun y H2 => rIxL K x y H2 fun v H3 => tz D (σ.set i (some v)) H3) k
  generalize tLst (tCons (tLst (tCons (tC (.int 0)) tNil)) (tCons (tLst (tCons (tC (.int 1)) tNil)) (tCons (tLst (tCons (tC (.int 2)) tNil)) (tCons (tLst (tCons (tC (.int 3)) tNil)) (tCons (tLst (tCons (tC (.int 0)) (tCons (tC (.int 2)) tNil))) (tCons (tLst (tCons (tC (.int 1)) (tCons (tC (.int 3)) tNil))) (tCons (tLst tNil) (tCons (tLst (tCons (tC (.int 0)) (tCons (tC (.int 1)) (tCons (tC (.int 2)) (tCons (tC (.int 3)) tNil))))) tNil)))))))) = te at z ⊢
  exact z
def spChanges (CR CF : Addr) : Sp := fun vs H Q _ => ∃ (G : Hp) (p r va ba ea b e : Addr) (s : Int × Int) (vals : Nat → V) (ub ue : List V) (pb pe : List (List Str)), vs = [.ref p, .ref r, .ref va, .ref ba, .ref ea] ∧ StM CR G p r b e s vals vals va H ∧ allG vals ∧ EnvM CF G b e ba ea ub ue pb pe ∧
  ∀ (s' : Int × Int) (H' : Hp), Ex G H' → H' p = some (pl s') → Pk s' → Q (.bl true) H'
theorem ok__law_changes {f : Addr} {fd : FuncData} (F : Fun K "_law_changes" "_law_changes" s__law_changes f fd) (T : Txt K mg a_FIELDS a_OPEN_PARTS C_Form C_GlueError C_NoRule C_Rule) (D__law_take : Df P w K mg base "_law_take" ["pool", "many"] 1 spTake) (D__law_value : Df P w K mg base "_law_value" ["pool", "k"] 2 spVal) (D__law_due : Df P w K mg base "_law_due" ["values", "asked"] 2 spDue26)
    (D__law_assigns : Df P w K mg base "_law_assigns" ["pool", "rule", "values", "begins", "ends"] 9 (spAssigns C_Rule C_Form)) (D__law_change : Df P w K mg base "_law_change" ["rule", "values", "asked"] 7 (spChange26 C_Rule)) (D__law_strange : Df P w K mg base "_law_strange" ["rule", "value"] 7 (spStrange C_Rule))
    (D__law_tells : Df P w K mg base "_law_tells" ["rule", "values", "begins", "ends"] 4 (spTells C_Rule C_Form)) : FnOk P w K mg base CX0 10 f fd ["pool", "rule", "values", "begins", "ends"] (spChanges C_Rule C_Form) := by
  refine F.ok sc__law_changes (fun vs H Q E h => ?_) (fun cdv A outer s0 H vs Q E hr h => ?_)
  · obtain ⟨G, p, r, va, ba, ea, b, e, s, vals, ub, ue, pb, pe, rfl, _⟩ := h
    rfl
  · obtain ⟨G, p, r, va, ba, ea, b, e, s, vals, ub, ue, pb, pe, rfl, S0, g0, M, q⟩ := h
    refine ⟨_, (pss_cons (ps_set (i := 2) sc__law_changes.nd rfl (Or.inr rfl) (pe_df D__law_assigns (hr.mono (by decide)) (by rfl) (pa_cons (pv 0) (pa_cons (pv 1) (pa_cons (pv 2) (pa_cons (pv 3) (pa_cons (pv 4) pa_nil)))))))
      (pss_cons (ps_if (pt_cmpR op_isN (pv 2) pe_non (nomark _))
      (pss_one (ps_ret pe_bl))
      pss_nil)
      (pss_cons (ps_for PassesOwn.never rfl (pi_range1 (by rfl) T.n_range (pa_cons pe_int pa_nil)) (pg_name (i := 5) sc__law_changes.nd rfl (Or.inl rfl))
      (pss_cons (ps_set (i := 6) sc__law_changes.nd rfl (Or.inr rfl) (pe_ix ix_list (pe_lst (pa_cons (pe_lst (pa_cons pe_int pa_nil)) (pa_cons (pe_lst (pa_cons pe_int pa_nil)) (pa_cons (pe_lst (pa_cons pe_int pa_nil)) (pa_cons (pe_lst (pa_cons pe_int pa_nil)) (pa_cons (pe_lst (pa_cons pe_int (pa_cons pe_int pa_nil))) (pa_cons (pe_lst (pa_cons pe_int (pa_cons pe_int pa_nil))) (pa_cons (pe_lst pa_nil) (pa_cons (pe_lst (pa_cons pe_int (pa_cons pe_int (pa_cons pe_int (pa_cons pe_int pa_nil))))) pa_nil))))))))) (pe_df D__law_take (hr.mono (by decide)) (by rfl) (pa_cons (pv 0) (pa_cons pe_int pa_nil))) (fun _ _ => rfl)))
      (pss_cons (ps_set (i := 7) sc__law_changes.nd rfl (Or.inr rfl) (pe_lc (own := [("k", 9)]) (g := gName 9) rfl sc__law_changes.nd (pi_range1 (by rfl) T.n_range (pa_cons pe_int pa_nil)) (blkOk_by (own := [("k", 9)]) (N := ["pool", "rule", "values", "begins", "ends", "turn", "asked", "new", "due", "k"]) (sc := defScope s__law_changes) (by decide +kernel)) (fun _ _ _ _ _ => pg_name (i := 9) sc__law_changes.nd rfl (Or.inl rfl)) (fun _ _ _ _ _ => pts_nil) (fun _ _ _ _ _ => (pe_df (k := 2) D__law_value (hr.mono (j := 2) (by decide)) (by rfl) (pa_cons (pv 0) (pa_cons (pv 9) pa_nil))))))
      (pss_cons (ps_set (i := 8) sc__law_changes.nd rfl (Or.inl rfl) (pe_df D__law_due (hr.mono (by decide)) (by rfl) (pa_cons (pv 7) (pa_cons (pv 6) pa_nil))))
      (pss_cons (ps_if (pt_cmpR op_ne (pe_df D__law_change (hr.mono (by decide)) (by rfl) (pa_cons (pv 1) (pa_cons (pv 7) (pa_cons (pv 6) pa_nil)))) (pv 8) (nomark _))
      (pss_one (ps_ret pe_bl))
      pss_nil)
      (pss_cut (ps_if (pt_cmpR op_isN (pv 8) pe_non (nomark _))
      (pss_one (ps_set (i := 2) sc__law_changes.nd rfl (Or.inr rfl) (pe_lc (own := [("k", 9)]) (g := gName 9) rfl sc__law_changes.nd (pi_range1 (by rfl) T.n_range (pa_cons pe_int pa_nil)) (blkOk_by (own := [("k", 9)]) (N := ["pool", "rule", "values", "begins", "ends", "turn", "asked", "new", "due", "k"]) (sc := defScope s__law_changes) (by decide +kernel)) (fun _ _ _ _ _ => pg_name (i := 9) sc__law_changes.nd rfl (Or.inl rfl)) (fun _ _ _ _ _ => pts_nil) (fun _ _ _ _ _ => (pe_ifExp (pt_cmpR (op_in_seqK K rfl) (pv 9) (pv 6) (by rfl)) (pe_ix (ix_listK K rfl) (pv 7) (pv 9) (fun _ _ => rfl)) (pe_ix (ix_listK K rfl) (pv 2) (pv 9) (fun _ _ => rfl)))))))
      pss_nil)
      (pss_one (ps_if (PW.pt (pw_or (pt_not (pt_val (pe_df D__law_strange (hr.mono (by decide)) (by rfl) (pa_cons (pv 1) (pa_cons (pe_ix ix_list (pv 7) pe_int (fun _ _ => rfl)) pa_nil))))) (pw_or1 (pt_not (pt_val (pe_df D__law_tells (hr.mono (by decide)) (by rfl) (pa_cons (pv 1) (pa_cons (pv 2) (pa_cons (pv 3) (pa_cons (pv 4) pa_nil))))))))))
      (pss_one (ps_ret pe_bl))
      pss_nil))))))))
      (pss_one (ps_ret pe_bl))))), ?_⟩
    refine ⟨_, rfl, _, rfl, _, rfl, _, rfl, _, rfl, G, p, r, va, ba, ea, b, e, s, vals, ub, ue, pb, pe, rfl, S0, g0, M, fun vals0 va0 s1 H1 S1 g1 => ?_⟩
    dsimp only [gName]
    refine q_when (b := false) (et_is (et_test (ev_op (ev_var (v := .ref va0) rfl) ev_c rv_isN)) rfl) (fun z => by cases z) (fun _ H2 e2 => ?_)
    refine q_forR1 (n := 6) (ea_cons ev_c ea_nil) (by decide) (fun i σ' H' => ∃ (vals : Nat → V) (va : Addr) (s : Int × Int) (y5 y6 y7 y8 : Option V), σ' = [some (.ref p), some (.ref r), some (.ref va), some (.ref ba), some (.ref ea), y5, y6, y7, y8, none] ∧ StM C_Rule G p r b e s vals vals va H' ∧ allG vals)
      (fun H3 e3 => ⟨vals0, va0, s1, _, _, _, _, rfl, (S1.same e2).same e3, g1⟩) ?_ ?_
    · clear S0 g0 S1 g1 e2
      rintro i σ' H3 hi ⟨vals, va, s, y5, y6, y7, y8, rfl, S3, g3⟩
      -- what is asked
      refine q_asgAsk fun us la H4 e4 r4 hn4 hla => ?_
      have l4 := r4.len
      have e5 : Ex H4 (upd H4 la (.lst us)) := Ex.new hla
      have h5 : (upd H4 la (.lst us)) la = some (.lst us) := upd_same
      have nla : la ≠ p := fun z => by
        rw [z, (S3.same e4).at_] at hla
        cases hla
      have S5 := (S3.same e4).same e5
      have r5 := r4.ex upK e5
      generalize upd H4 la (.lst us) = H5 at e5 h5 S5 r5
      have t8 := take_lt (s := s) (n := 8) (by decide)
      refine (evp_take rfl S5.pk (by decide) (by decide)) H5 (Kn.here S5.at_) _ fun H6 e6 g6 => ?_
      have S6 := S5.pool e6 g6 (take_pk S5.pk)
      obtain ⟨j, hj⟩ : ∃ j : Nat, (take s 8).1 = (j : Int) := ⟨(take s 8).1.toNat, by omega⟩
      rw [hj] at t8 ⊢
      have j8 : j < asks.length := show j < 8 by omega
      have haj : asks[j]? = some asks[j] := List.getElem?_eq_getElem j8
      obtain ⟨ks, hks⟩ : ∃ ks, ks = asks[j] := ⟨_, rfl⟩
      have hkm : ks ∈ asks := hks ▸ List.getElem_mem j8
      rw [← hks] at haj
      obtain ⟨ak, hak, hAK⟩ := r5.at haj
      have hAK5 : H5 ak = some (.lst (ks.map vN)) := hAK
      have nak : ak ≠ p := fun z => by
        have := hn4 ak (List.mem_of_getElem? hak)
        rw [z, S3.at_] at this
        cases this
      have hA6 : H6 ak = some (.lst (ks.map vN)) := e6 _ _ (by rw [hide_ne nak]; exact hAK5)
      generalize (take s 8).2 = s6 at S6
      refine ⟨la, us, (j : Int), .ref ak, rfl, rfl, sq_of (e6 _ _ (by rw [hide_ne nla]; exact h5)), atI_nat hak, ?_⟩
      dsimp only [gName]
      -- four values
      refine qp_asgDrawX aptAny (n := 4) (Kn.here S6.at_) (ea_cons ev_c ea_nil) S6.pk (by decide) wipe1 (fun i2 H7 s7 hs7 hp7 ex7 Q' q' => ⟨_, rfl, _, rfl, p, s7, i2, rfl, hp7, hs7, fun v s8 H8 hv nv hk8 e8 hp8 => q' v s8 H8 hk8 (fun l hl => .inr fun xs hx => ?_) e8 hp8 hv⟩) fun ln nv s7 H7 hk7 hlen hln K7 e7 h7 hM => ?_
      · rcases hv with rfl | ⟨_, rfl⟩ | ⟨_, rfl, _⟩ | ⟨_, rfl, _⟩ | ⟨t, rfl, ht⟩
        · cases hl
        · cases hl
        · cases hl
        · cases hl
        · cases hl
          rw [hx] at ht
          cases ht
      have S7 := S6.pool e7 K7.at_ hk7
      have hA7 : H7 ak = some (.lst (ks.map vN)) := e7 _ _ (by rw [hide_ne nak]; exact hA6)
      obtain ⟨new, hnew⟩ : ∃ new : Nat → V, new = fun k => nv.getD k .non := ⟨_, rfl⟩
      have hV7 : ValsAt H7 ln new := by
        match nv, hlen with
        | [v0, v1, v2, v3], _ =>
          refine ⟨by rw [h7, hnew]; rfl, fun k hk => ?_⟩
          have : new k ∈ [v0, v1, v2, v3] := by
            rw [hnew]
            match k, hk with
            | 0, _ => exact List.mem_cons_self
            | 1, _ => exact List.mem_cons_of_mem _ List.mem_cons_self
            | 2, _ => exact List.mem_cons_of_mem _ (List.mem_cons_of_mem _ List.mem_cons_self)
            | 3, _ => exact List.mem_cons_of_mem _ (List.mem_cons_of_mem _ (List.mem_cons_of_mem _ List.mem_cons_self))
            | k + 4, h => omega
          exact (hM _ this).ex (hide_le.trans hide_le)
      obtain ⟨a4, a5⟩ := asks_lt ks hkm
      refine q_asg (v := oS (dueL new ks)) (ev_call (ea_cons (ev_var rfl) (ea_cons (ev_var rfl) ea_nil)) fun H8 e8 Q' q' E' => ⟨ln, ak, new, ks, rfl, hV7.ex e8, e8 _ _ hA7, a4, q'⟩) fun H8 e8 => ?_
      have S8 := S7.same e8
      have hV8 := hV7.ex e8
      have hA8 := e8 _ _ hA7
      -- changed
      refine ⟨_, rfl, _, rfl, _, rfl, ?_⟩
      dsimp only [tNil]
      refine chg_one S8.ru hV8 hA8 hkm fun H9 e9 hR9 => ⟨_, rfl, ?_⟩
      have S9 := S8.rule e9 hR9
      obtain ⟨dx, fs, hrr, _⟩ := id S8.ru
      have hV9 : ValsAt H9 ln new := (hV8.hdR hrr).ex e9
      have nar : ak ≠ r := fun z => by
        rw [z, hrr] at hA8
        cases hA8
      have hA9 : H9 ak = some (.lst (ks.map vN)) := e9 _ _ (by rw [hide_ne nar]; exact hA8)
      refine (rv_ne (H := H9) (oS_ne _)) H9 (Ex.refl _) _ fun H10 e10 => ⟨_, rfl, ?_⟩
      rw [decide_eq_true rfl]
      show tCut _ _ _ _ _
      have S10 := S9.same e10
      have hV10 := hV9.ex e10
      have hA10 := e10 _ _ hA9
      obtain ⟨vals1, hvals1⟩ : ∃ v1, v1 = if dueL new ks = none then newV vals new ks else vals := ⟨_, rfl⟩
      rw [← hvals1] at S10
      have g10 : allG vals1 := fun j hj => by
        rw [hvals1]
        split
        · rename_i hg
          unfold newV
          split
          · rename_i hjk
            exact dueL_none hg j hjk
          · exact g3 j hj
        · exact g3 j hj
      refine q_cut (M := fun σ' H' => ∃ va1, σ' = [some (.ref p), some (.ref r), some (.ref va1), some (.ref ba), some (.ref ea), some (.int (i : Int)), some (.ref ak), some (.ref ln), some (oS (dueL new ks)), none] ∧ StM C_Rule G p r b e s7 vals1 vals1 va1 H' ∧ ValsAt H' ln new) ?_ ?_
      · refine s_when (b := (dueL new ks).isNone) (et_is (et_test (ev_op (ev_var rfl) ev_c rv_isN)) (oS_non _)) (fun hg H11 e11 => ?_) (fun hg H11 e11 => ⟨va, rfl, (S10.same e11).list (vl' := vals1) ?_, hV10.ex e11⟩)
        · have hgn : dueL new ks = none := Option.isNone_iff_eq_none.mp hg
          have S11 := S10.same e11
          have hV11 := hV10.ex e11
          have hA11 := e11 _ _ hA10
          have z := el_lcR1 (σ := [some (.ref p), some (.ref r), some (.ref va), some (.ref ba), some (.ref ea), some (.int (i : Int)), some (.ref ak), some (.ref ln), some (oS (dueL new ks)), none]) (H := H11) (te := tIf (tTest (tOp (rIn K false) (tVar 9) (tVar 6))) (tOp (rIxL K) (tVar 7) (tVar 9)) (tOp (rIxL K) (tVar 2) (tVar 9))) (t := tYes) (ta := tCons (tC (.int 4)) tNil) (j := 9) (vs := [9]) (n := 4) (fun _ => true) (fun j => newV vals new ks j) (ea_cons ev_c ea_nil) ⟨by decide, by decide⟩ wipe1 (fun j H12 e12 hj => et_yes) fun j H12 e12 hj _ H13 e13 Q' q' => by
            refine (et_test (b := decide (j ∈ ks)) (H := H13) (fun H14 e14 Q2 q2 => ⟨_, rfl, _, rfl, ak, _, rfl, .inl (sq_of ((e12.trans (e13.trans e14)) _ _ hA11)), rfl, flat_N ks, by
              show Q2 (.bl (inV (.int (j : Int)) (ks.map vN))) _
              rw [inV_N]
              exact q2 _ (Ex.refl _)⟩)) H13 (Ex.refl _) _ fun H14 e14 => ?_
            by_cases c : j ∈ ks
            · rw [decide_eq_true c, if_pos rfl]
              unfold newV at q'
              rw [if_pos c] at q'
              exact (ev_valAt (ev_var rfl) (ev_var rfl) (((hV11.ex e12).ex e13).ex e14) (by omega)) H14 (Ex.refl _) Q' fun H15 e15 => q' H15 (e14.trans e15)
            · rw [decide_eq_false c, if_neg Bool.false_ne_true]
              unfold newV at q'
              rw [if_neg c] at q'
              exact (ev_valAt (ev_var rfl) (ev_var rfl) (((S11.va_.ex e12).ex e13).ex e14) (by omega)) H14 (Ex.refl _) Q' fun H15 e15 => q' H15 (e14.trans e15)
          refine z H11 (Ex.refl _) _ fun l H12 hl e12 h12 => ⟨l, rfl, (S11.same e12).list ?_, hV11.ex e12⟩
          rw [hvals1, if_pos hgn]
          refine ⟨h12, fun j hj => ?_⟩
          unfold newV
          split
          · exact (hV11.ex e12).2 j hj
          · exact (S11.va_.ex e12).2 j hj
        · rw [hvals1, if_neg (fun z => by rw [z] at hg; cases hg)]
          exact S10.va_.ex e11
      · rintro σ' H11 ⟨va1, rfl, S11, hV11⟩
        refine s_when (b := false) (et_is (et_or (et_not (a := true) (et_B (ev_call (ea_cons (ev_var rfl) (ea_cons (ev_valAt (k := 0) (ev_var rfl) ev_c hV11 (by decide)) ea_nil)) fun H12 e12 Q' q' E' => ⟨r, b, e, vals1, new 0, rfl, S11.ru.ex e12, (hV11.2 0 (by decide)).ex e12, q'⟩))) fun _ => et_not (a := true) (et_B (ev_tells S11 g10 M (ea_cons (ev_var rfl) (ea_cons (ev_var rfl) (ea_cons (ev_var rfl) (ea_cons (ev_var rfl) ea_nil))))))) rfl) (fun z => by cases z) (fun _ H12 e12 => ⟨vals1, va1, _, _, _, _, _, rfl, S11.same e12, g10⟩)
    · rintro σ' H3 ⟨vals, va, s, y5, y6, y7, y8, rfl, S3, g3⟩
      exact s_ret ev_c fun H4 e4 => q s H4 (S3.ex.trans e4) (e4 _ _ S3.at_) S3.pk

/-! ### _law_rules -/
theorem q_asg2L {σ : L2.St} {H : Hp} {te1 te2 : TE} {xs ys : List V} {tz : TS} {D : Ends} {i : Nat} (h1 : EvL te1 σ H xs) (h2 : EvL te2 σ H ys) (k : ∀ a b l H', H a = none → H b = none → H l = none → a ≠ b → a ≠ l → b ≠ l → Ex H H' → H' a = some (.lst xs) → H' b = some (.lst ys) → H' l = some (.lst [.ref a, .ref b]) → tz D (σ.set i (some (.ref l))) H') : tSeq (tAsg (tLst (tCons te1 (tCons te2 tNil))) (gName i)) tz D σ H :=
  h1 H (Ex.refl _) _ fun a H1 ha e1 ha1 => h2 H1 e1 _ fun b H2 hb e2 hb2 => ⟨sz_of (by simp), fun l hl => k a b l _ ha (fresh_back e1 hb) (fresh_back (e1.trans e2) hl) (ne_of_none ha1 hb) (ne_of_none (e2 _ _ ha1) hl) (ne_of_none hb2 hl) ((e1.trans e2).trans (Ex.new hl)) (Ex.new hl _ _ (e2 _ _ ha1)) (Ex.new hl _ _ hb2) upd_same⟩
theorem q_ruleK {CR CN : Addr} {σ : L2.St} {H : Hp} {ta tk : TA} {W : WX} {tz : TS} {D : Ends} {i : Nat} {b0 e0 : Addr} {us ws : List V} {vals : Nat → V} (ha : EvA ta σ H [.ref b0, .ref e0]) (hk : EvA tk σ H [vals 0, vals 1, vals 2, vals 3]) (hb : H b0 = some (.lst us)) (he : H e0 = some (.lst ws)) (hv : ∀ k, k < 4 → AnyV (vals k) H) (l1 : us.length ≤ 100) (l2 : ws.length ≤ 100) (hd : dueR (us.length + ws.length) vals = none)
    (k : ∀ x b e H', H x = none → H b = none → H e = none → b ≠ e → b ≠ x → e ≠ x → Ex H H' → H' b = some (.lst us) → H' e = some (.lst ws) → RuleL CR H' x b e vals → tz D (σ.set i (some (.ref x))) H') : tSeq (tAsg (tMakeWS CR ks4 (spRuleW CR CN K) W ta tk) (gName i)) tz D σ H :=
  ha H (Ex.refl _) _ fun H1 e1 => hk H1 e1 _ fun H2 e2 => fun x dx h0 hdx ne => ⟨rfl, .inl ⟨rfl, rfl, by
    have e12 := e1.trans e2
    exact rule_try (CR := CR) (CN := CN) (Rr := fun x H' => tz D (σ.set i (some (.ref x))) H') (e12 _ _ hb) (e12 _ _ he) (fun k hk => (hv k hk).ex e12) l1 l2 (fun z hz => by rw [hd] at hz; cases hz) (fun _ x b e H' nx nb ne' nbe nbx nex e' hb2 he2 hR => k x b e H' (fresh_back e12 nx) (fresh_back e12 nb) (fresh_back e12 ne') nbe nbx nex (e12.trans e') hb2 he2 hR) x dx h0 hdx ne⟩⟩
def dVals : Nat → V
  | 0 => .non
  | 1 => .bl true
  | 2 => .non
  | _ => .bl false
theorem q_ruleD {CR CN : Addr} {σ : L2.St} {H : Hp} {te1 te2 : TE} {tk : TA} {W : WX} {tz : TS} {D : Ends} {i : Nat} {us ws : List V} (hk : tk = fun _ H Q => Q [] H) (h1 : EvL te1 σ H us) (h2 : EvL te2 σ H ws) (l1 : us.length ≤ 100) (l2 : ws.length ≤ 100) (hd : us.length + ws.length ≤ 6)
    (k : ∀ x b e H', H x = none → H b = none → H e = none → b ≠ e → b ≠ x → e ≠ x → Ex H H' → H' b = some (.lst us) → H' e = some (.lst ws) → RuleL CR H' x b e dVals → tz D (σ.set i (some (.ref x))) H') : tSeq (tAsg (tMakeWS CR [] (spRuleW CR CN K) W (tCons te1 (tCons te2 tNil)) tk) (gName i)) tz D σ H := by
  subst hk
  exact h1 H (Ex.refl _) _ fun a H1 ha e1 ha1 => h2 H1 e1 _ fun b H2 hb e2 hb2 => fun x dx h0 hdx ne => ⟨rfl, .inr ⟨rfl, rfl, by
    have e12 := e1.trans e2
    exact rule_try (CR := CR) (CN := CN) (vals := dVals) (Rr := fun x H' => tz D (σ.set i (some (.ref x))) H') (e2 _ _ ha1) hb2 (fun k hk => by
      match k, hk with
      | 0, _ => exact .inl rfl
      | 1, _ => exact .inr (.inl ⟨_, rfl⟩)
      | 2, _ => exact .inl rfl
      | 3, _ => exact .inr (.inl ⟨_, rfl⟩)
      | k + 4, h => omega) l1 l2 (fun z hz => by
      unfold dueR at hz
      rw [if_neg (by omega)] at hz
      cases hz) (fun _ x b e H' nx nb ne' nbe nbx nex e' hb2 he2 hR => k x b e H' (fresh_back e12 nx) (fresh_back e12 nb) (fresh_back e12 ne') nbe nbx nex (e12.trans e') hb2 he2 hR) x dx h0 hdx ne⟩⟩
theorem q_appAny {σ : L2.St} {H : Hp} {D : Ends} {tz : TS} {ta te : TE} {l : Addr} {xs : List V} (hl : H l = some (.lst xs)) (ha : Ev ta σ H (.ref l)) (h : ∀ H1, Ex H H1 → ∀ Q : VK, (∀ v H2, Ex H1 H2 → Q v H2) → te σ H1 Q) (hz : xs.length < 100000) (k : ∀ v H1, Ex H H1 → tz D σ (upd H1 l (.lst (xs ++ [v])))) : tSeq (tDrop (tBM K "list" rAppend ta (tCons te tNil))) tz D σ H :=
  ha H (Ex.refl _) _ fun H1 e1 => ⟨Or.inl ⟨rfl, xs, sq_of (e1 _ _ hl)⟩, h H1 e1 _ fun v H2 e2 => ⟨l, xs, v, rfl, rfl, (e1.trans e2) _ _ hl, sz_lt hz, k v H2 (e1.trans e2)⟩⟩
theorem q_clear {σ : L2.St} {H : Hp} {D : Ends} {tz : TS} {ta : TE} {l : Addr} {xs : List V} (hl : H l = some (.lst xs)) (ha : Ev ta σ H (.ref l)) (k : ∀ H1, Ex H H1 → tz D σ (upd H1 l (.lst []))) : tSeq (tDrop (tBM0 K "list" rClear ta)) tz D σ H :=
  ha H (Ex.refl _) _ fun H1 e1 => ⟨Or.inl ⟨rfl, xs, sq_of (e1 _ _ hl)⟩, l, xs, rfl, rfl, e1 _ _ hl, k H1 e1⟩
theorem parts_x {x : Str} (h : fixedP x) : Parts [x] := by
  refine ⟨fun p hp => .inr (by rw [List.mem_singleton.mp hp]; exact h), fun i p q hi hj => ?_, fun i j hi hj => ?_⟩
  · have : i + 1 < 1 := (List.getElem?_eq_some_iff.mp hj).1
    omega
  · have a3 : i < 1 := (List.getElem?_eq_some_iff.mp hi).1
    have a4 : j < 1 := (List.getElem?_eq_some_iff.mp hj).1
    omega
theorem fixed_x : fixedP "x" := by
  unfold fixedP Lny
  decide +kernel
theorem fixed_y : fixedP "y" := by
  unfold fixedP Lny
  decide +kernel
theorem new_form {σ : L2.St} {H : Hp} {C : Addr} {x : Str} (h : fixedP x) : ∀ H1, Ex H H1 → ∀ Q : VK, (∀ v H2, Ex H1 H2 → Q v H2) → tMakeR C (spForm C) E0 (tCons (tC (.str x)) tNil) σ H1 Q := fun H1 e1 Q q =>
  (evf_make (σ := σ) (H := H1) (ps := [x]) (E := E0) (parts_x h) (by simp) (by simp) (ea_cons ev_c ea_nil)) H1 (Ex.refl _) Q fun a H2 _ e2 _ => q _ H2 e2
theorem el_namesV {σ : L2.St} {H : Hp} {CF a : Addr} {tl : TE} {us : List V} {ps : List (List Str)} {j : Nat} {ws : List Nat} (h : Ev tl σ H (.ref a)) (ha : H a = some (.lst us)) (r : Rs (FormR CF) H us ps) (hn : ps.length ≤ 1000) (hw : ∀ x, wipe ((wipe σ ws).set j (some x)) ws = wipe σ ws) (hj : ∀ x : V, ((wipe σ ws).set j (some x))[j]? = some (some x)) :
    EvL (tLc (iList K tl) (gName j) tYes (tCB (rStrOwn CF (spStrF CF) E0) (tCons (tVar j) tNil)) ws) σ H ((ps.map nameF).map V.str) := by
  have l1 := r.len
  refine elv_lc (K := K) h (sq_of ha) (by omega) (by rw [List.length_map, List.length_map]; omega) hw fun i u y H2 e2 hu hy => ?_
  obtain ⟨p, t, rfl, ht, hp⟩ := r.get hu
  rw [List.getElem?_map, List.getElem?_map, ht] at hy
  obtain rfl := Option.some.inj hy
  intro H3 e3 Q' q'
  have hF := upF _ _ _ _ (e2.trans e3) hp
  obtain ⟨⟨dx, tp, c, f1, f2, f3⟩, g⟩ := id hF
  exact ⟨_, hj _, p, dx, _, rfl, f1, p, t, rfl, hF, fun H4 e4 => ⟨_, rfl, q' H4 e4⟩⟩
/-- what stands while the lists that were given, and those that were told, are spoiled -/
structure KeepR (CR : Addr) (B : Hp) (p r rt tl t1 t2 gl g1 g2 b e b2 e2 : Addr) (s : Int × Int) (vals : Nat → V) (ub ue z1 z2 : List V) (H : Hp) : Prop where
  ex : Ex B H
  at_ : H p = some (pl s)
  htl : H tl = some (.lst [.ref t1, .ref t2])
  ht1 : H t1 = some (.lst z1)
  ht2 : H t2 = some (.lst z2)
  hgl : H gl = some (.lst [.ref g1, .ref g2])
  ru : RuleL CR H r b e vals
  hb : H b = some (.lst ub)
  he : H e = some (.lst ue)
  tw : RuleL CR H rt b2 e2 dVals
  hb2 : H b2 = some (.lst ub)
  he2 : H e2 = some (.lst ue)
structure OffR (p tl t1 t2 gl b e b2 e2 x : Addr) : Prop where
  p : x ≠ p
  tl : x ≠ tl
  t1 : x ≠ t1
  t2 : x ≠ t2
  gl : x ≠ gl
  b : x ≠ b
  e : x ≠ e
  b2 : x ≠ b2
  e2 : x ≠ e2
section
variable {CR : Addr} {B H H' : Hp} {p r rt tl t1 t2 gl g1 g2 b e b2 e2 : Addr} {s : Int × Int} {vals : Nat → V} {ub ue z1 z2 : List V}
theorem KeepR.same (h : KeepR CR B p r rt tl t1 t2 gl g1 g2 b e b2 e2 s vals ub ue z1 z2 H) (x : Ex H H') : KeepR CR B p r rt tl t1 t2 gl g1 g2 b e b2 e2 s vals ub ue z1 z2 H' :=
  ⟨h.ex.trans x, x _ _ h.at_, x _ _ h.htl, x _ _ h.ht1, x _ _ h.ht2, x _ _ h.hgl, h.ru.ex x, x _ _ h.hb, x _ _ h.he, h.tw.ex x, x _ _ h.hb2, x _ _ h.he2⟩
theorem KeepR.fresh (h : KeepR CR B p r rt tl t1 t2 gl g1 g2 b e b2 e2 s vals ub ue z1 z2 H) {x : Addr} (hx : H x = none) : OffR p tl t1 t2 gl b e b2 e2 x :=
  ⟨(ne_of_none h.at_ hx).symm, (ne_of_none h.htl hx).symm, (ne_of_none h.ht1 hx).symm, (ne_of_none h.ht2 hx).symm, (ne_of_none h.hgl hx).symm, (ne_of_none h.hb hx).symm, (ne_of_none h.he hx).symm, (ne_of_none h.hb2 hx).symm, (ne_of_none h.he2 hx).symm⟩
theorem RuleL.upd {x : Addr} {xs ys : List V} (h : RuleL CR H r b e vals) (hx : H x = some (.lst xs)) : RuleL CR (upd H x (.lst ys)) r b e vals := by
  obtain ⟨dx, fs, h1, h2⟩ := h
  exact ⟨dx, fs, by rw [upd_ne (fun z => by rw [z, hx] at h1; cases h1)]; exact h1, h2⟩
theorem KeepR.off (h : KeepR CR B p r rt tl t1 t2 gl g1 g2 b e b2 e2 s vals ub ue z1 z2 H) {x : Addr} {xs ys : List V} (n : OffR p tl t1 t2 gl b e b2 e2 x) (hB : B x = none) (hx : H x = some (.lst xs)) : KeepR CR B p r rt tl t1 t2 gl g1 g2 b e b2 e2 s vals ub ue z1 z2 (L2.upd H x (.lst ys)) :=
  ⟨Ex.mut h.ex hB, by rw [upd_ne n.p.symm]; exact h.at_, by rw [upd_ne n.tl.symm]; exact h.htl, by rw [upd_ne n.t1.symm]; exact h.ht1, by rw [upd_ne n.t2.symm]; exact h.ht2, by rw [upd_ne n.gl.symm]; exact h.hgl, h.ru.upd hx, by rw [upd_ne n.b.symm]; exact h.hb, by rw [upd_ne n.e.symm]; exact h.he, h.tw.upd hx, by rw [upd_ne n.b2.symm]; exact h.hb2, by rw [upd_ne n.e2.symm]; exact h.he2⟩
end
theorem dVals_good : allG dVals := fun k hk => by
  match k, hk with
  | 0, _ => rfl
  | 1, _ => rfl
  | 2, _ => rfl
  | 3, _ => rfl
  | k + 4, h => omega
theorem due_none {vals : Nat → V} (h : allG vals) {n : Nat} (hn : n ≤ 6) : dueR n vals = none := by
  unfold dueR
  rw [if_neg (by omega), dueL_cons, h 0 (by decide), if_pos rfl, dueL_cons, h 1 (by decide), if_pos rfl, dueL_cons, h 2 (by decide), if_pos rfl, dueL_cons, h 3 (by decide), if_pos rfl]
  rfl
def spRules26 (CF : Addr) : Sp := fun vs H Q _ => ∃ (p bl el va : Addr) (s : Int × Int) (vals : Nat → V) (ub ue : List V) (pb pe : List (List Str)), vs = [.ref p, .ref bl, .ref el, .ref va] ∧ H p = some (pl s) ∧ Pk s ∧ hide p H bl = some (.lst ub) ∧ hide p H el = some (.lst ue) ∧ Rs (FormR CF) (hide p H) ub pb ∧ Rs (FormR CF) (hide p H) ue pe ∧ ValsAt (hide p H) va vals ∧ allG vals ∧ ub.length + ue.length ≤ 6 ∧
  ∀ s' H', Ex (hide p H) H' → H' p = some (pl s') → Pk s' → Q (.bl true) H'
theorem ok__law_rules {f : Addr} {fd : FuncData} (F : Fun K "_law_rules" "_law_rules" s__law_rules f fd) (T : Txt K mg a_FIELDS a_OPEN_PARTS C_Form C_GlueError C_NoRule C_Rule) (D_Form___str__ : DfSt P w K mg base C_Form ["self"] 1 (spStrF C_Form)) (D_Rule___init__ : DfIWX P w K mg base "Rule" C_Rule 4 (spRuleW C_Rule C_NoRule K)) (D_Form___init__ : DfS P w K mg base "Form" C_Form 3 (spForm C_Form))
    (D_Rule_begins : DfM P w K mg base C_Rule "begins" ["self"] 1 (spMarks C_Rule true)) (D_Rule_ends : DfM P w K mg base C_Rule "ends" ["self"] 1 (spMarks C_Rule false)) (D__law_tells : Df P w K mg base "_law_tells" ["rule", "values", "begins", "ends"] 4 (spTells C_Rule C_Form)) (D__law_changes : Df P w K mg base "_law_changes" ["pool", "rule", "values", "begins", "ends"] 10 (spChanges C_Rule C_Form)) :
    FnOk P w K mg base CX0 11 f fd ["pool", "begins", "ends", "values"] (spRules26 C_Form) := by
  refine F.ok sc__law_rules (fun vs H Q E h => ?_) (fun cdv A outer s0 H vs Q E hr h => ?_)
  · obtain ⟨p, bl, el, va, s, vals, ub, ue, pb, pe, rfl, _⟩ := h
    rfl
  · obtain ⟨p, bl, el, va, s, vals, ub, ue, pb, pe, rfl, hp, hk, hbl, hel, rb, re, hV, hG, h6, q⟩ := h
    refine ⟨_, (pss_cons (ps_set (i := 4) sc__law_rules.nd rfl (Or.inl rfl) (pe_lst (pa_cons (pe_lc (own := [("mark", 9)]) (g := gName 9) rfl sc__law_rules.nd (pi_list (pv 1)) (blkOk_by (own := [("mark", 9)]) (N := ["pool", "begins", "ends", "values", "texts", "given", "rule", "twin", "spoiled", "mark"]) (sc := defScope s__law_rules) (by decide +kernel)) (fun _ _ _ _ _ => pg_name (i := 9) sc__law_rules.nd rfl (Or.inl rfl)) (fun _ _ _ _ _ => pts_nil) (fun _ _ _ _ _ => (pe_callTy (call_str_df (k := 1) D_Form___str__ (hr.mono (j := 3) (by decide))) (by rfl) T.n_str (by decide +kernel) (pa_cons (pv 9) pa_nil)))) (pa_cons (pe_lc (own := [("mark", 9)]) (g := gName 9) rfl sc__law_rules.nd (pi_list (pv 2)) (blkOk_by (own := [("mark", 9)]) (N := ["pool", "begins", "ends", "values", "texts", "given", "rule", "twin", "spoiled", "mark"]) (sc := defScope s__law_rules) (by decide +kernel)) (fun _ _ _ _ _ => pg_name (i := 9) sc__law_rules.nd rfl (Or.inl rfl)) (fun _ _ _ _ _ => pts_nil) (fun _ _ _ _ _ => (pe_callTy (call_str_df (k := 1) D_Form___str__ (hr.mono (j := 3) (by decide))) (by rfl) T.n_str (by decide +kernel) (pa_cons (pv 9) pa_nil)))) pa_nil))))
      (pss_cons (ps_set (i := 5) sc__law_rules.nd rfl (Or.inl rfl) (pe_lst (pa_cons (pe_callTy call_list_of (by rfl) T.n_list (by decide +kernel) (pa_cons (pv 1) pa_nil)) (pa_cons (pe_callTy call_list_of (by rfl) T.n_list (by decide +kernel) (pa_cons (pv 2) pa_nil)) pa_nil))))
      (pss_cons (ps_set (i := 6) sc__law_rules.nd rfl (Or.inl rfl) (pe_mkWS (ks := ["most", "alone", "tags", "quiet"]) D_Rule___init__ (hr.mono (by decide)) (by rfl) takes0 (pa_cons (pe_ix ix_list (pv 5) pe_int (fun _ _ => rfl)) (pa_cons (pe_ix ix_list (pv 5) pe_int (fun _ _ => rfl)) pa_nil)) (pk_cons (pe_ix ix_list (pv 3) pe_int (fun _ _ => rfl)) (pk_cons (pe_ix ix_list (pv 3) pe_int (fun _ _ => rfl)) (pk_cons (pe_ix ix_list (pv 3) pe_int (fun _ _ => rfl)) (pk_cons (pe_ix ix_list (pv 3) pe_int (fun _ _ => rfl)) pk_nil))))))
      (pss_cons (ps_set (i := 7) sc__law_rules.nd rfl (Or.inl rfl) (pe_mkWS0 D_Rule___init__ (hr.mono (by decide)) (by rfl) takes0 (pa_cons (pe_callTy call_list_of (by rfl) T.n_list (by decide +kernel) (pa_cons (pv 1) pa_nil)) (pa_cons (pe_callTy call_list_of (by rfl) T.n_list (by decide +kernel) (pa_cons (pv 2) pa_nil)) pa_nil))))
      (pss_cons (ps_expr (pe_bm PySem.F.plainAttrs_list PySem.F.slot_list_append PySem.F.type_list_append mt_append (pe_ix ix_list (pv 5) pe_int (fun _ _ => rfl)) (pa_cons (pe_mkS D_Form___init__ (hr.mono (by decide)) (by rfl) (pa_cons pe_str pa_nil)) pa_nil)))
      (pss_cons (ps_expr (pe_bm0 PySem.F.plainAttrs_list PySem.F.slot_list_clear PySem.F.type_list_clear mt_clear (pe_ix ix_list (pv 5) pe_int (fun _ _ => rfl))))
      (pss_cons (ps_set (i := 8) sc__law_rules.nd rfl (Or.inl rfl) (pe_mth0 T.k_Rule D_Rule_begins (hr.mono (by decide)) (pv 6)))
      (pss_cons (ps_expr (pe_bm PySem.F.plainAttrs_list PySem.F.slot_list_append PySem.F.type_list_append mt_append (pv 8) (pa_cons (pe_mkS D_Form___init__ (hr.mono (by decide)) (by rfl) (pa_cons pe_str pa_nil)) pa_nil)))
      (pss_cons (ps_set (i := 8) sc__law_rules.nd rfl (Or.inl rfl) (pe_mth0 T.k_Rule D_Rule_ends (hr.mono (by decide)) (pv 6)))
      (pss_cons (ps_expr (pe_bm PySem.F.plainAttrs_list PySem.F.slot_list_append PySem.F.type_list_append mt_append (pv 8) (pa_cons (pe_mkS D_Form___init__ (hr.mono (by decide)) (by rfl) (pa_cons pe_str pa_nil)) pa_nil)))
      (pss_cons (ps_if (pt_not (pt_val (pe_df D__law_tells (hr.mono (by decide)) (by rfl) (pa_cons (pv 6) (pa_cons (pv 3) (pa_cons (pe_ix ix_list (pv 4) pe_int (fun _ _ => rfl)) (pa_cons (pe_ix ix_list (pv 4) pe_int (fun _ _ => rfl)) pa_nil)))))))
      (pss_one (ps_ret pe_bl))
      pss_nil)
      (pss_cons (ps_if (pt_not (pt_val (pe_df D__law_changes (hr.mono (by decide)) (by rfl) (pa_cons (pv 0) (pa_cons (pv 6) (pa_cons (pv 3) (pa_cons (pe_ix ix_list (pv 4) pe_int (fun _ _ => rfl)) (pa_cons (pe_ix ix_list (pv 4) pe_int (fun _ _ => rfl)) pa_nil))))))))
      (pss_one (ps_ret pe_bl))
      pss_nil)
      (pss_one (ps_ret (pe_df D__law_tells (hr.mono (by decide)) (by rfl) (pa_cons (pv 7) (pa_cons (pe_lst (pa_cons pe_non (pa_cons pe_bl (pa_cons pe_non (pa_cons pe_bl pa_nil))))) (pa_cons (pe_ix ix_list (pv 4) pe_int (fun _ _ => rfl)) (pa_cons (pe_ix ix_list (pv 4) pe_int (fun _ _ => rfl)) pa_nil))))))))))))))))))), ?_⟩
    obtain ⟨B, hB⟩ : ∃ B, B = hide p H := ⟨_, rfl⟩
    rw [← hB] at hbl hel rb re hV q
    have eB : Ex B H := hB ▸ hide_le
    have Bp : B p = none := hB ▸ hide_at
    have lb := rb.len
    have le := re.len
    -- the texts
    refine q_asg2L (el_namesV (ev_var rfl) (eB _ _ hbl) (rb.ex upF eB) (by omega) wipe1 fun _ => rfl) (el_namesV (ev_var rfl) (eB _ _ hel) (re.ex upF eB) (by omega) wipe1 fun _ => rfl) fun t1 t2 tl H1 ht1 ht2 htl n12 n1l n2l e1 h11 h12 h1l => ?_
    have eB1 := eB.trans e1
    -- what is given
    refine q_asg2L (el_listL (K := K) (ev_var rfl) (sq_of (eB1 _ _ hbl))) (el_listL (K := K) (ev_var rfl) (sq_of (eB1 _ _ hel))) fun g1 g2 gl H2 hg1 hg2 hgl m12 m1l m2l e2 h21 h22 h2l => ?_
    have eB2 := eB1.trans e2
    have back : ∀ {x : Addr}, H1 x = none → H x = none := fun h => fresh_back e1 h
    have Bn : ∀ {x : Addr}, H x = none → B x = none := fun h => fresh_back eB h
    -- the rule
    refine q_ruleK (vals := vals) (b0 := g1) (e0 := g2) (ea_cons (ev_op (ev_var rfl) ev_c (rv_ixL (sq_of h2l) rfl)) (ea_cons (ev_op (ev_var rfl) ev_c (rv_ixL (sq_of h2l) rfl)) ea_nil)) (ea_cons (ev_valAt (k := 0) (ev_var rfl) ev_c (hV.ex eB2) (by decide)) (ea_cons (ev_valAt (k := 1) (ev_var rfl) ev_c (hV.ex eB2) (by decide)) (ea_cons (ev_valAt (k := 2) (ev_var rfl) ev_c (hV.ex eB2) (by decide)) (ea_cons (ev_valAt (k := 3) (ev_var rfl) ev_c (hV.ex eB2) (by decide)) ea_nil)))) h21 h22 (fun k hk => (hV.ex eB2).2 k hk) (by omega) (by omega) (due_none hG (by omega)) fun r b e H3 nr nb ne nbe nbr ner e3 h3b h3e hR3 => ?_
    have eB3 := eB2.trans e3
    -- its twin
    refine q_ruleD rfl (el_listL (K := K) (ev_var rfl) (sq_of (eB3 _ _ hbl))) (el_listL (K := K) (ev_var rfl) (sq_of (eB3 _ _ hel))) (by omega) (by omega) h6 fun rt b2 e2' H4 nrt nb2 ne2 nbe2 nbr2 ner2 e4 h4b h4e hT4 => ?_
    have e34 := e3.trans e4
    have K4 : KeepR C_Rule B p r rt tl t1 t2 gl g1 g2 b e b2 e2' s vals ub ue ((pb.map nameF).map V.str) ((pe.map nameF).map V.str) H4 := ⟨eB3.trans e4, e4 _ _ (e3 _ _ (e2 _ _ (e1 _ _ hp))), e34 _ _ (e2 _ _ h1l), e34 _ _ (e2 _ _ h11), e34 _ _ (e2 _ _ h12), e34 _ _ h2l, hR3.ex e4, e4 _ _ h3b, e4 _ _ h3e, hT4, h4b, h4e⟩
    have off : ∀ {x : Addr} {xs : List V}, H1 x = none → H2 x = some (.lst xs) → x ≠ gl → OffR p tl t1 t2 gl b e b2 e2' x := fun {x xs} h1 h2 hgl => ⟨(ne_of_none (e1 _ _ hp) h1).symm, (ne_of_none h1l h1).symm, (ne_of_none h11 h1).symm, (ne_of_none h12 h1).symm, hgl, ne_of_none h2 nb, ne_of_none h2 ne, ne_of_none (e3 _ _ h2) nb2, ne_of_none (e3 _ _ h2) ne2⟩
    have npb : b ≠ p := (ne_of_none (e2 _ _ (e1 _ _ hp)) nb).symm
    have npe : e ≠ p := (ne_of_none (e2 _ _ (e1 _ _ hp)) ne).symm
    have npb2 : b2 ≠ p := (ne_of_none (e3 _ _ (e2 _ _ (e1 _ _ hp))) nb2).symm
    have npe2 : e2' ≠ p := (ne_of_none (e3 _ _ (e2 _ _ (e1 _ _ hp))) ne2).symm
    have npt1 : t1 ≠ p := (ne_of_none hp ht1).symm
    have npt2 : t2 ≠ p := (ne_of_none hp ht2).symm
    have nptl : tl ≠ p := (ne_of_none hp htl).symm
    have nrtr : rt ≠ r := fun z => by
      obtain ⟨dx, fs, k1, _⟩ := hR3
      rw [z, k1] at nrt
      cases nrt
    have Br : B r = none := Bn (back (fresh_back e2 nr))
    have Bg1 : B g1 = none := Bn (back hg1)
    have Bg2 : B g2 = none := Bn (back hg2)
    -- spoiled
    refine q_appAny (l := g1) (e34 _ _ h21) (ev_op (ev_var rfl) ev_c (rv_ixL (sq_of K4.hgl) rfl)) (new_form fixed_x) (by omega) fun v5 H5 e5 => ?_
    have K5 := (K4.same e5).off (ys := ub ++ [v5]) (off hg1 h21 m1l) Bg1 (e5 _ _ (e34 _ _ h21))
    have h52 : (upd H5 g1 (.lst (ub ++ [v5]))) g2 = some (.lst ue) := by
      rw [upd_ne m12.symm]
      exact e5 _ _ (e34 _ _ h22)
    generalize upd H5 g1 (.lst (ub ++ [v5])) = H6 at K5 h52
    refine q_clear (l := g2) h52 (ev_op (ev_var rfl) ev_c (rv_ixL (sq_of K5.hgl) rfl)) fun H7 e7 => ?_
    have K7 := (K5.same e7).off (ys := []) (off hg2 h22 m2l) Bg2 (e7 _ _ h52)
    generalize upd H7 g2 (.lst []) = H8 at K7
    have marks : ∀ {beg : Bool} {m : Str} {σ : L2.St} {H3 : Hp} {us : List V} {s : Int × Int}, KeepR C_Rule B p r rt tl t1 t2 gl g1 g2 b e b2 e2' s vals ub ue ((pb.map nameF).map V.str) ((pe.map nameF).map V.str) H3 → σ[6]? = some (some (.ref r)) → m ∉ keys6 → (H3 (if beg = true then b else e) = some (.lst us)) → EvL (tMeth C_Rule m (spMarks C_Rule beg) [] E0 (tVar 6) tNil) σ H3 us := fun {beg m σ H3 us s} k h0 hm hl H4 e4 Q' q' => by
      obtain ⟨dx, fs, hrr, hf⟩ := id (k.ru.ex e4)
      exact ⟨_, h0, r, dx, fs, rfl, hrr, hf.no _ hm, r, b, e, vals, us, rfl, k.ru.ex e4, e4 _ _ hl, fun l H5 hl5 e5 h5 => q' l H5 hl5 e5 h5⟩
    refine q_asgL (marks (beg := true) (m := "begins") K7 rfl (by decide +kernel) K7.hb) fun sp1 H9 hsp1 e9 h9 => ?_
    have o9 := K7.fresh hsp1
    have B9 : B sp1 = none := fresh_back K7.ex hsp1
    have K9 := K7.same e9
    refine q_appAny (l := sp1) h9 (ev_var rfl) (new_form fixed_y) (by omega) fun v10 H10 e10 => ?_
    have K10 := (K9.same e10).off (ys := ub ++ [v10]) o9 B9 (e10 _ _ h9)
    generalize upd H10 sp1 (.lst (ub ++ [v10])) = H11 at K10
    refine q_asgL (marks (beg := false) (m := "ends") K10 rfl (by decide +kernel) K10.he) fun sp2 H12 hsp2 e12 h12' => ?_
    have o12 := K10.fresh hsp2
    have B12 : B sp2 = none := fresh_back K10.ex hsp2
    have K12 := K10.same e12
    refine q_appAny (l := sp2) h12' (ev_var rfl) (new_form fixed_y) (by omega) fun v13 H13 e13 => ?_
    have K13 := (K12.same e13).off (ys := ue ++ [v13]) o12 B12 (e13 _ _ h12')
    generalize upd H13 sp2 (.lst (ue ++ [v13])) = H14 at K13
    -- told
    have tells : ∀ {σ : L2.St} {H15 : Hp} {ta : TA} {ro va2 bo eo : Addr} {vl : Nat → V}, Ex B H15 → RuleL C_Rule H15 ro bo eo vl → ValsAt H15 va2 vl → allG vl → H15 bo = some (.lst ub) → H15 eo = some (.lst ue) → H15 t1 = some (.lst ((pb.map nameF).map V.str)) → H15 t2 = some (.lst ((pe.map nameF).map V.str)) → EvA ta σ H15 [.ref ro, .ref va2, .ref t1, .ref t2] → Ev (tCall (spTells C_Rule C_Form) [] E0 ta) σ H15 (.bl true) := fun {σ H15 ta ro va2 bo eo vl} eb hR hv hg hb he h1 h2 h =>
      ev_call h fun H2 e2 Q q E => ⟨ro, va2, t1, t2, bo, eo, vl, ub, ue, pb, pe, rfl, hR.ex e2, hv.ex e2, hg, e2 _ _ hb, rb.ex upF (eb.trans e2), e2 _ _ he, re.ex upF (eb.trans e2), by omega, by omega, e2 _ _ h1, e2 _ _ h2, q⟩
    refine q_when (b := false) (et_is (et_not (a := true) (et_B (tells K13.ex K13.ru (hV.ex K13.ex) hG K13.hb K13.he K13.ht1 K13.ht2 (ea_cons (ev_var rfl) (ea_cons (ev_var rfl) (ea_cons (ev_op (ev_var rfl) ev_c (rv_ixL (sq_of K13.htl) rfl)) (ea_cons (ev_op (ev_var rfl) ev_c (rv_ixL (sq_of K13.htl) rfl)) ea_nil))))))) rfl) (fun z => by cases z) (fun _ H15 e15 => ?_)
    have K15 := K13.same e15
    -- changed in turn
    obtain ⟨G, hGd⟩ : ∃ G, G = hide r (hide p H15) := ⟨_, rfl⟩
    have Gx : ∀ {x : Addr} {o : HO}, H15 x = some o → x ≠ p → x ≠ r → G x = some o := fun h n1 n2 => by
      rw [hGd, hide_ne n2, hide_ne n1]
      exact h
    have nl : ∀ {x : Addr} {xs : List V}, H15 x = some (.lst xs) → x ≠ r := fun h z => by
      obtain ⟨dx, fs, k1, _⟩ := K15.ru
      rw [z, k1] at h
      cases h
    have eBG : Ex B G := fun x o hx => Gx (K15.ex _ _ hx) (fun z => by rw [z, Bp] at hx; cases hx) (fun z => by rw [z, Br] at hx; cases hx)
    have rp : r ≠ p := fun z => by
      obtain ⟨dx, fs, k1, _⟩ := K15.ru
      rw [z, K15.at_] at k1
      cases k1
    have S15 : StM C_Rule G p r b e s vals vals va H15 := ⟨hGd ▸ (hide_le.trans hide_le), K15.at_, hk, K15.ru, hV.ex K15.ex, by rw [hGd, hide_ne rp.symm]; exact hide_at, hGd ▸ hide_at, rp⟩
    have M15 : EnvM C_Form G b e t1 t2 ub ue pb pe := ⟨Gx K15.hb npb (nl K15.hb), rb.ex upF eBG, Gx K15.he npe (nl K15.he), re.ex upF eBG, by omega, by omega, Gx K15.ht1 npt1 (nl K15.ht1), Gx K15.ht2 npt2 (nl K15.ht2)⟩
    obtain ⟨dxt, fst, ktw, ftw⟩ := id K15.tw
    have rtp : rt ≠ p := fun z => by
      rw [z, K15.at_] at ktw
      cases ktw
    have twG : RuleL C_Rule G rt b2 e2' dVals := ⟨dxt, fst, Gx ktw rtp nrtr, ftw⟩
    have hGb2 := Gx K15.hb2 npb2 (nl K15.hb2)
    have hGe2 := Gx K15.he2 npe2 (nl K15.he2)
    have hGtl := Gx K15.htl nptl (nl K15.htl)
    have ix : ∀ {σ : L2.St} {H1 : Hp} {k : Nat} {x : Addr}, H1 tl = some (.lst [.ref t1, .ref t2]) → σ[4]? = some (some (.ref tl)) → ([V.ref t1, V.ref t2] : List V)[k]? = some (.ref x) → Ev (tOp (rIxL K) (tVar 4) (tC (.int (k : Int)))) σ H1 (.ref x) := fun h i4 hk => ev_op (ev_var i4) ev_c (rv_ixL (sq_of h) (atI_nat hk))
    refine ⟨_, rfl, _, rfl, _, rfl, ?_⟩
    refine (ix (k := 0) K15.htl rfl rfl) H15 (Ex.refl _) _ fun H16 e16 => (ix (k := 1) (e16 _ _ K15.htl) rfl rfl) H16 (Ex.refl _) _ fun H17 e17 => ?_
    dsimp only [tNil]
    refine ⟨G, p, r, va, t1, t2, b, e, s, vals, ub, ue, pb, pe, rfl, S15.same (e16.trans e17), hG, M15, fun s18 H18 e18 hp18 hk18 => ⟨true, rfl, ?_⟩⟩
    show (if (!true) = true then _ else _)
    rw [if_neg (by decide)]
    dsimp only [tNext]
    -- the twin is as it was
    refine s_ret (v := .bl true) (fun H19 e19 Q' q' => ⟨_, rfl, ?_⟩) fun H19 e19 => q s18 H19 ((eBG.trans e18).trans e19) (e19 _ _ hp18) hk18
    have e89 := e18.trans e19
    refine (el_lst (vs := [dVals 0, dVals 1, dVals 2, dVals 3]) (ea_cons ev_c (ea_cons ev_c (ea_cons ev_c (ea_cons ev_c ea_nil)))) (by simp)) H19 (Ex.refl _) _ fun lv H20 hlv e20 h20 => ?_
    have e820 := e89.trans e20
    refine (ix (k := 0) (e820 _ _ hGtl) rfl rfl) H20 (Ex.refl _) _ fun H21 e21 => (ix (k := 1) ((e820.trans e21) _ _ hGtl) rfl rfl) H21 (Ex.refl _) _ fun H22 e22 => ?_
    dsimp only [tNil]
    have e822 := (e820.trans e21).trans e22
    exact ⟨rt, lv, t1, t2, b2, e2', dVals, ub, ue, pb, pe, rfl, twG.ex e822, ⟨(e21.trans e22) _ _ h20, fun k hk => by
      match k, hk with
      | 0, _ => exact .inl rfl
      | 1, _ => exact .inr (.inl ⟨_, rfl⟩)
      | 2, _ => exact .inl rfl
      | 3, _ => exact .inr (.inl ⟨_, rfl⟩)
      | k + 4, h => omega⟩, dVals_good, e822 _ _ hGb2, rb.ex upF (eBG.trans e822), e822 _ _ hGe2, re.ex upF (eBG.trans e822), by omega, by omega, e822 _ _ M15.hba, e822 _ _ M15.hea, fun H23 e23 => q' H23 ((e20.trans (e21.trans e22)).trans e23)⟩

/-! ### the law -/
theorem a_step {te : TE} {ta : TA} {σ : L2.St} {H : Hp} {Q} (h : te σ H (fun x H1 => ta σ H1 fun xs H2 => Q (x :: xs) H2)) : tCons te ta σ H Q := h
theorem back_p {p x : Addr} {H H1 : Hp} {o : HO} (e : Ex (hide p H) H1) (hp : H1 p = some o) (h : H1 x = none) : H x = none := by
  cases hl : H x with
  | none => rfl
  | some u =>
    have ne : x ≠ p := fun z => by
      rw [z, hp] at h
      cases h
    have := e x u (by rw [hide_ne ne]; exact hl)
    rw [h] at this
    cases this
theorem qp_asgDrawY {M : V → Hp → Prop} (A : Apt M) {ta : TA} {te : TE} {tz : TS} {E : Ends} {σ : L2.St} {us : List Nat} {i j : Nat} {p : Addr} {s s1 : Int × Int} {G H : Hp} {m : Int} {n : Nat} (K0 : Kn G p s H) (h : EvAP ta σ G p s [.int m] s1) (hk : Pk s1) (hm : m = (n : Int)) (hn : n ≤ 1000)
    (hw : ∀ x, wipe ((wipe σ us).set j (some x)) us = wipe σ us)
    (he : ∀ (i : Nat) (H2 : Hp) (s : Int × Int), Pk s → H2 p = some (pl s) → Ex (hide p H) H2 → ∀ Q : VK, (∀ v s' H', Pk s' → (∀ l, v = .ref l → H2 l = none ∨ ∀ xs, H' l ≠ some (.lst xs)) → Ex (hide p H2) H' → H' p = some (pl s') → M v H' → Q v H') → te ((wipe σ us).set j (some (.int (i : Int)))) H2 Q)
    (k : ∀ l vs s' H', Pk s' → vs.length = n → H l = none → Kn G p s' H' → Ex (hide p H) H' → H' l = some (.lst vs) → (∀ v ∈ vs, M v (hide p (hide l H'))) → tz E (σ.set i (some (.ref l))) H') : tSeq (tAsg (tLc (iRng1 ta) (gName j) tYes te us) (gName i)) tz E σ H := by
  subst hm
  refine h H K0 _ fun H1 e1 g1 => ⟨(n : Int), rfl, by omega, by omega, ?_⟩
  have := lc_drawX (H0 := H1) (n := n) (Q := fun v H' => tz E (σ.set i (some v)) H') A hk g1 hn hw (fun i H2 s hs hp2 ex => he i H2 s hs hp2 ((hx_hide e1).trans ex)) fun l vs s' H' hk' hl' hl e' hp' hv r => k l vs s' H' hk' hl' (back_p e1 g1 hl) (K0.next (hx_trans e1 e') hp') (hx_trans e1 e') hv r
  exact this
def MF (CF : Addr) (v : V) (H : Hp) : Prop := ∃ (a : Addr) (ps : List Str), v = .ref a ∧ FormR CF ps a H
theorem form_hd {CF a D : Addr} {ps : List Str} {H : Hp} (h : FormR CF ps a H) (n : a ≠ D) (n2 : ∀ xs, H D ≠ some (.tup xs)) (n3 : ∀ z xs, H D ≠ some (.lst (.str z :: xs))) : FormR CF ps a (hide D H) := by
  obtain ⟨⟨dx, t, c, f1, f2, f3⟩, hP, g1, g4⟩ := h
  have nt : t ≠ D := fun z => n2 _ (by rw [← z]; exact f2)
  have nc : c ≠ D := fun z => by
    obtain ⟨x, xs, e⟩ := cells_ne hP g1
    rw [e] at f3
    exact n3 _ _ (by rw [← z]; exact f3)
  exact ⟨⟨dx, t, c, by rw [hide_ne n]; exact f1, by rw [hide_ne nt]; exact f2, by rw [hide_ne nc]; exact f3⟩, hP, g1, g4⟩
theorem aptMF {CF : Addr} : Apt (MF CF) := ⟨fun _ _ _ e ⟨a, ps, h1, h2⟩ => ⟨a, ps, h1, upF _ _ _ _ e h2⟩, fun v H p s ⟨a, ps, h1, h2⟩ hp ne => ⟨a, ps, h1, form_hd h2 (fun z => ne (by rw [h1, z])) (fun xs z => by rw [hp] at z; cases z) (fun z xs y => by rw [hp] at y; cases y)⟩, fun v H D acc ⟨a, ps, h1, h2⟩ hD hm ne => ⟨a, ps, h1, form_hd h2 (fun z => ne (by rw [h1, z])) (fun xs z => by rw [hD] at z; cases z) (fun z xs y => by
  rw [hD] at y
  obtain ⟨a2, ps2, k1, _⟩ := hm (.str z) (by rw [HO.lst.inj (Option.some.inj y)]; exact List.mem_cons_self)
  cases k1)⟩⟩
theorem mf_list {CF : Addr} {H : Hp} : ∀ {vs : List V}, (∀ v ∈ vs, MF CF v H) → ∃ ps, Rs (FormR CF) H vs ps
  | [], _ => ⟨[], .nil⟩
  | v :: vs, h => by
    obtain ⟨a, ps, rfl, hF⟩ := h v List.mem_cons_self
    obtain ⟨pss, r⟩ := mf_list fun u hu => h u (List.mem_cons_of_mem _ hu)
    exact ⟨ps :: pss, .cons hF r⟩
theorem ev_lists {K : PySem.W.Frag} {sp : Sp} {σ : L2.St} {H : Hp} {bl el vl : Addr} {vb ve : List V} {v : V} (i3 : σ[3]? = some (some (.ref bl))) (i4 : σ[4]? = some (some (.ref el))) (i5 : σ[5]? = some (some (.ref vl))) (hb : H bl = some (.lst vb)) (he : H el = some (.lst ve))
    (k : ∀ b0 e0 H11, Ex H H11 → H11 b0 = some (.lst vb) → H11 e0 = some (.lst ve) → ∀ Q : VK, (∀ H', Ex H11 H' → Q v H') → sp [.ref b0, .ref e0, .ref vl] H11 Q E0) : Ev (tCall sp [] E0 (tCons (tCB (fun xs H Q => ∃ p ys, xs = [.ref p] ∧ (SqL K H p ys ∨ SqT K H p ys) ∧ ∀ l, H l = none → Q (.ref l) (upd H l (.lst ys))) (tCons (tVar 3) tNil)) (tCons (tCB (fun xs H Q => ∃ p ys, xs = [.ref p] ∧ (SqL K H p ys ∨ SqT K H p ys) ∧ ∀ l, H l = none → Q (.ref l) (upd H l (.lst ys))) (tCons (tVar 4) tNil)) (tCons (tVar 5) tNil)))) σ H v := fun H10 e10 Q' q' => by
  unfold tCall
  refine a_step ?_
  have h : EvL (tCB (fun xs H Q => ∃ p ys, xs = [.ref p] ∧ (SqL K H p ys ∨ SqT K H p ys) ∧ ∀ l, H l = none → Q (.ref l) (upd H l (.lst ys))) (tCons (tVar 3) tNil)) σ H10 vb := el_listL (K := K) (ev_var i3) (sq_of (e10 _ _ hb))
  refine h H10 (Ex.refl _) _ fun b0 H11 hb0 e11 h11 => ?_
  refine a_step ?_
  have h2 : EvL (tCB (fun xs H Q => ∃ p ys, xs = [.ref p] ∧ (SqL K H p ys ∨ SqT K H p ys) ∧ ∀ l, H l = none → Q (.ref l) (upd H l (.lst ys))) (tCons (tVar 4) tNil)) σ H11 ve := el_listL (K := K) (ev_var i4) (sq_of ((e10.trans e11) _ _ he))
  refine h2 H11 (Ex.refl _) _ fun e0 H12 he0 e12 h12 => ⟨_, i5, k b0 e0 H12 (e10.trans (e11.trans e12)) (e12 _ _ h11) h12 _ fun H13 e13 => q' H13 ((e11.trans e12).trans e13)⟩
def spLaw (K : PySem.W.Frag) : Sp := fun vs H Q _ => ∃ (a : Addr) (ns : List Int), vs = [.ref a] ∧ SqL K H a (ns.map V.int) ∧ ns.length ≤ 63 ∧ ∀ H', Q (.bl true) H'
theorem ok_law {f : Addr} {fd : FuncData} (F : Fun K "law" "law" s_law f fd) (T : Txt K mg a_FIELDS a_OPEN_PARTS C_Form C_GlueError C_NoRule C_Rule) (D__law_pool : Df P w K mg base "_law_pool" ["script", "k"] 1 (spPool K)) (D__law_take : Df P w K mg base "_law_take" ["pool", "many"] 1 spTake) (D__law_parts : Df P w K mg base "_law_parts" ["pool"] 3 spRich) (D__law_form : Df P w K mg base "_law_form" ["parts"] 5 (spLawForm K C_Form))
    (D__law_value : Df P w K mg base "_law_value" ["pool", "k"] 2 spVal) (D__law_due : Df P w K mg base "_law_due" ["values", "asked"] 2 spDue26) (D__law_refused : Df P w K mg base "_law_refused" ["begins", "ends", "values"] 7 spRef26) (D__law_rules : Df P w K mg base "_law_rules" ["pool", "begins", "ends", "values"] 11 (spRules26 C_Form)) (D__law_below : Df P w K mg base "_law_below" ["begins", "ends", "values"] 7 spBel26) : FnOk P w K mg base CX0 12 f fd ["script"] (spLaw K) := by
  refine F.ok sc_law (fun vs H Q E h => ?_) (fun cdv A outer s0 H vs Q E hr h => ?_)
  · obtain ⟨a, ns, rfl, _⟩ := h
    rfl
  · obtain ⟨a, ns, rfl, hS, hl, q⟩ := h
    refine ⟨_, (pss_cons (ps_for PassesOwn.never rfl (pi_range1 (by rfl) T.n_range (pa_cons (pe_callB (call_max2 rfl) (by rfl) T.n_max (by decide +kernel) (pa_cons pe_int (pa_cons (pe_callB (call_min2 rfl) (by rfl) T.n_min (by decide +kernel) (pa_cons pe_int (pa_cons (pe_callB call_len_seq (by rfl) T.n_len PySem.boot_len (pa_cons (pv 0) pa_nil)) pa_nil))) pa_nil))) pa_nil)) (pg_name (i := 1) sc_law.nd rfl (Or.inl rfl))
      (pss_cons (ps_set (i := 2) sc_law.nd rfl (Or.inr rfl) (pe_df D__law_pool (hr.mono (by decide)) (by rfl) (pa_cons (pv 0) (pa_cons (pv 1) pa_nil))))
      (pss_cons (ps_setLc (i := 3) (own := [("at", 7)]) (g := gName 7) rfl sc_law.nd rfl rfl (sw_true rfl rfl rfl (by decide +kernel)) (pi_range1 (by rfl) T.n_range (pa_cons (pe_df D__law_take (hr.mono (by decide)) (by rfl) (pa_cons (pv 2) (pa_cons pe_int pa_nil))) pa_nil)) (blkOk_by (own := [("at", 7)]) (N := ["script", "k", "pool", "begins", "ends", "values", "due", "at"]) (sc := defScope s_law) (by decide +kernel)) (fun _ _ _ _ _ => pg_name (i := 7) sc_law.nd rfl (Or.inl rfl)) (fun _ _ _ _ _ => pts_nil) (fun _ _ _ _ _ => (pe_df (k := 5) D__law_form (hr.mono (j := 5) (by decide)) (by rfl) (pa_cons (pe_df (k := 3) D__law_parts (hr.mono (j := 3) (by decide)) (by rfl) (pa_cons (pv 2) pa_nil)) pa_nil))))
      (pss_cons (ps_setLc (i := 4) (own := [("at", 7)]) (g := gName 7) rfl sc_law.nd rfl rfl (sw_true rfl rfl rfl (by decide +kernel)) (pi_range1 (by rfl) T.n_range (pa_cons (pe_df D__law_take (hr.mono (by decide)) (by rfl) (pa_cons (pv 2) (pa_cons pe_int pa_nil))) pa_nil)) (blkOk_by (own := [("at", 7)]) (N := ["script", "k", "pool", "begins", "ends", "values", "due", "at"]) (sc := defScope s_law) (by decide +kernel)) (fun _ _ _ _ _ => pg_name (i := 7) sc_law.nd rfl (Or.inl rfl)) (fun _ _ _ _ _ => pts_nil) (fun _ _ _ _ _ => (pe_df (k := 5) D__law_form (hr.mono (j := 5) (by decide)) (by rfl) (pa_cons (pe_df (k := 3) D__law_parts (hr.mono (j := 3) (by decide)) (by rfl) (pa_cons (pv 2) pa_nil)) pa_nil))))
      (pss_cons (ps_setLc (i := 5) (own := [("at", 7)]) (g := gName 7) rfl sc_law.nd rfl rfl (sw_true rfl rfl rfl (by decide +kernel)) (pi_range1 (by rfl) T.n_range (pa_cons pe_int pa_nil)) (blkOk_by (own := [("at", 7)]) (N := ["script", "k", "pool", "begins", "ends", "values", "due", "at"]) (sc := defScope s_law) (by decide +kernel)) (fun _ _ _ _ _ => pg_name (i := 7) sc_law.nd rfl (Or.inl rfl)) (fun _ _ _ _ _ => pts_nil) (fun _ _ _ _ _ => (pe_df (k := 2) D__law_value (hr.mono (j := 2) (by decide)) (by rfl) (pa_cons (pv 2) (pa_cons (pv 7) pa_nil)))))
      (pss_cons (ps_set (i := 6) sc_law.nd rfl (Or.inl rfl) (pe_df D__law_due (hr.mono (by decide)) (by rfl) (pa_cons (pv 5) (pa_cons (pe_lst (pa_cons pe_int (pa_cons pe_int (pa_cons pe_int (pa_cons pe_int pa_nil))))) pa_nil))))
      (pss_cut (ps_if (pt_cmpR op_gt (pe_op op_add (pe_callB call_len_seq (by rfl) T.n_len PySem.boot_len (pa_cons (pv 3) pa_nil)) (pe_callB call_len_seq (by rfl) T.n_len PySem.boot_len (pa_cons (pv 4) pa_nil))) pe_int (nomark _))
      (pss_one (ps_set (i := 6) sc_law.nd rfl (Or.inl rfl) pe_str))
      pss_nil)
      (pss_cons (ps_if (pt_cmpR op_ne (pe_df D__law_refused (hr.mono (by decide)) (by rfl) (pa_cons (pe_callTy call_list_of (by rfl) T.n_list (by decide +kernel) (pa_cons (pv 3) pa_nil)) (pa_cons (pe_callTy call_list_of (by rfl) T.n_list (by decide +kernel) (pa_cons (pv 4) pa_nil)) (pa_cons (pv 5) pa_nil)))) (pv 6) (nomark _))
      (pss_one (ps_ret pe_bl))
      pss_nil)
      (pss_cons (ps_if (PW.pt (pw_and (pt_cmpR op_isN (pv 6) pe_non (nomark _)) (pw_and1 (pt_not (pt_val (pe_df D__law_rules (hr.mono (by decide)) (by rfl) (pa_cons (pv 2) (pa_cons (pv 3) (pa_cons (pv 4) (pa_cons (pv 5) pa_nil))))))))))
      (pss_one (ps_ret pe_bl))
      pss_nil)
      (pss_one (ps_if (PW.pt (pw_and (pt_cmpR op_notN (pv 6) pe_non (nomark _)) (pw_and1 (pt_not (pt_val (pe_df D__law_below (hr.mono (by decide)) (by rfl) (pa_cons (pe_callTy call_list_of (by rfl) T.n_list (by decide +kernel) (pa_cons (pv 3) pa_nil)) (pa_cons (pe_callTy call_list_of (by rfl) T.n_list (by decide +kernel) (pa_cons (pv 4) pa_nil)) (pa_cons (pv 5) pa_nil)))))))))
      (pss_one (ps_ret pe_bl))
      pss_nil)))))))))))
      (pss_one (ps_ret pe_bl))), ?_⟩
    refine q_forR1 (ea_cons (ev_max ev_c (ev_min2 ev_c (ev_lenL (ev_var rfl) hS))) ea_nil) (by rw [List.length_map]; split <;> split <;> omega)
      (fun i σ' H' => ∃ y1 y2 y3 y4 y5 y6 : Option V, σ' = [some (.ref a), y1, y2, y3, y4, y5, y6, none] ∧ Ex H H') (fun H1 e1 => ⟨_, _, _, _, _, _, rfl, e1⟩) ?_ ?_
    · rintro i σ' H1 hi ⟨y1, y2, y3, y4, y5, y6, rfl, e1⟩
      have hi2 : (i : Int) ≤ 1000 := by
        rw [List.length_map] at hi
        split at hi <;> split at hi <;> omega
      refine ⟨_, rfl, _, rfl, a, ns, (i : Int), rfl, ex_l e1 hS, hl, by omega, by omega, fun p H2 hp2 e2 h2 => ?_⟩
      dsimp only [gName]
      have hk0 := pool0_pk ns (i : Int)
      have hp0 : H p = none := fresh_back e1 hp2
      -- the marks
      have forms : ∀ {σ : L2.St} {H3 : Hp} {s : Int × Int} {Q' : VK}, σ[2]? = some (some (.ref p)) → Pk s → H3 p = some (pl s) → (∀ v s' H', Pk s' → (∀ l, v = .ref l → H3 l = none ∨ ∀ xs, H' l ≠ some (.lst xs)) → Ex (hide p H3) H' → H' p = some (pl s') → MF C_Form v H' → Q' v H') → (tCall (spLawForm K C_Form) [] E0 (tCons (tCall spRich [] E0 (tCons (tVar 2) tNil)) tNil)) σ H3 Q' := fun {σ H3 s Q'} hi2 hk3 hp3 q' =>
        ⟨_, hi2, p, s, rfl, hp3, hk3, fun l H4 hl4 e4 g4 h4 => ⟨l, (rich s).1, rfl, sq_of h4, (rich_ok hk3).2.1, (rich_ok hk3).2.2.1, (rich_ok hk3).2.2.2, fun x H5 hx5 e5 hF5 => q' _ _ H5 (rich_ok hk3).1 (fun l2 hl2 => .inl (by
          cases hl2
          exact back_p e4 g4 hx5)) (hx_trans e4 (hx_of e5)) (e5 _ _ g4) ⟨x, _, rfl, hF5, (rich_ok hk3).2.1, (rich_ok hk3).2.2.1, by have := (rich_ok hk3).2.2.2; omega⟩⟩⟩
      have t4 := take_lt (s := pool0 ns (i : Int)) (n := 4) (by decide)
      refine qp_asgDrawY aptMF (Kn.here h2) (eap_cons (evp_take rfl hk0 (by decide) (by decide)) eap_nil) (take_pk hk0) (n := (take (pool0 ns (i : Int)) 4).1.toNat) (by omega) (by omega) wipe1 (fun j H3 s hs hp3 ex3 Q' q' => forms rfl hs hp3 q') fun bl vb s3 H3 hk3 lb hbl K3 e3 h3 m3 => ?_
      have t5 := take_lt (s := s3) (n := 5) (by decide)
      have nblp : bl ≠ p := (ne_of_none h2 hbl).symm
      refine qp_asgDrawY aptMF (Kn.here K3.at_) (eap_cons (evp_take rfl hk3 (by decide) (by decide)) eap_nil) (take_pk hk3) (n := (take s3 5).1.toNat) (by omega) (by omega) wipe1 (fun j H4 s hs hp4 ex4 Q' q' => forms rfl hs hp4 q') fun el ve s4 H4 hk4 le hel K4 e4 h4 m4 => ?_
      have nelp : el ≠ p := (ne_of_none K3.at_ hel).symm
      -- the values
      refine qp_asgDrawX aptAny (n := 4) (Kn.here K4.at_) (ea_cons ev_c ea_nil) hk4 (by decide) wipe1 (fun j H5 s7 hs7 hp7 ex7 Q' q' => ⟨_, rfl, _, rfl, p, s7, j, rfl, hp7, hs7, fun v s8 H8 hv nv hk8 e8 hp8 => q' v s8 H8 hk8 (fun l hl => .inr fun xs hx => ?_) e8 hp8 hv⟩) fun vl vv s5 H5 hk5 lv hvl K5 e5 h5 m5 => ?_
      · rcases hv with rfl | ⟨_, rfl⟩ | ⟨_, rfl, _⟩ | ⟨_, rfl, _⟩ | ⟨t, rfl, ht⟩
        · cases hl
        · cases hl
        · cases hl
        · cases hl
        · cases hl
          rw [hx] at ht
          cases ht
      have nvlp : vl ≠ p := (ne_of_none K4.at_ hvl).symm
      -- what stands beside the pool
      obtain ⟨B, hB⟩ : ∃ B, B = hide p H5 := ⟨_, rfl⟩
      have e35 : Ex (hide p H3) (hide p H5) := (hx_hide e4).trans (hx_hide e5)
      have hbB : B bl = some (.lst vb) := by
        rw [hB]
        exact e35 _ _ (by rw [hide_ne nblp]; exact h3)
      have heB : B el = some (.lst ve) := by
        rw [hB]
        exact (hx_hide e5) _ _ (by rw [hide_ne nelp]; exact h4)
      obtain ⟨pb, rb⟩ := mf_list (H := B) fun v hv => aptMF.up _ _ _ (by rw [hB]; exact (ex_hide hide_le).trans e35) (m3 v hv)
      obtain ⟨pe, re⟩ := mf_list (H := B) fun v hv => aptMF.up _ _ _ (by rw [hB]; exact (ex_hide hide_le).trans (hx_hide e5)) (m4 v hv)
      obtain ⟨vals, hvals⟩ : ∃ vals : Nat → V, vals = fun k => vv.getD k .non := ⟨_, rfl⟩
      have hVB : ValsAt B vl vals := by
        match vv, lv with
        | [v0, v1, v2, v3], _ =>
          refine ⟨by rw [hB, hide_ne nvlp, h5, hvals]; rfl, fun k hk => ?_⟩
          have : vals k ∈ [v0, v1, v2, v3] := by
            rw [hvals]
            match k, hk with
            | 0, _ => exact List.mem_cons_self
            | 1, _ => exact List.mem_cons_of_mem _ List.mem_cons_self
            | 2, _ => exact List.mem_cons_of_mem _ (List.mem_cons_of_mem _ List.mem_cons_self)
            | 3, _ => exact List.mem_cons_of_mem _ (List.mem_cons_of_mem _ (List.mem_cons_of_mem _ List.mem_cons_self))
            | k + 4, h => omega
          exact (m5 _ this).ex (by rw [hB]; exact ex_hide hide_le)
      have eB5 : Ex B H5 := hB ▸ hide_le
      have eHB : Ex H B := fun x o hx => by
        have nx : x ≠ p := fun z => by
          rw [z, hp0] at hx
          cases hx
        rw [hB, hide_ne nx]
        refine e5 _ _ ?_
        rw [hide_ne nx]
        refine e4 _ _ ?_
        rw [hide_ne nx]
        refine e3 _ _ ?_
        rw [hide_ne nx]
        exact e2 _ _ (e1 _ _ hx)
      have lb4 : vb.length ≤ 3 := by omega
      have le5 : ve.length ≤ 4 := by omega
      -- what is due
      refine ⟨_, rfl, ?_⟩
      refine (el_lst (vs := [.int 0, .int 1, .int 2, .int 3]) (ea_cons ev_c (ea_cons ev_c (ea_cons ev_c (ea_cons ev_c ea_nil)))) (by simp)) H5 (Ex.refl _) _ fun la H7 hla e7 h7 => ?_
      dsimp only [tNil]
      refine ⟨vl, la, vals, [0, 1, 2, 3], rfl, hVB.ex (eB5.trans e7), h7, by decide, fun H8 e8 => ?_⟩
      dsimp only [gName]
      have e58 := e7.trans e8
      have eB8 := eB5.trans e58
      have p8 : H8 p = some (pl s5) := e58 _ _ K5.at_
      refine q_cut (M := fun σ' H' => σ' = [some (.ref a), some (.int (i : Int)), some (.ref p), some (.ref bl), some (.ref el), some (.ref vl), some (oS (dueR (vb.length + ve.length) vals)), none] ∧ Ex H8 H') ?_ ?_
      · refine s_when (b := decide (((vb.length : Int) + (ve.length : Int)) > 6)) (et_test (ev_op (ev_op (ev_lenL (ev_var rfl) (sq_of (eB8 _ _ hbB))) (ev_lenL (ev_var rfl) (sq_of (eB8 _ _ heB))) rv_add) ev_c rv_I0)) (fun hb H9 e9 => ?_) (fun hb H9 e9 => ⟨?_, e9⟩)
        · have h6 := of_decide_eq_true hb
          refine s_asg (v := oS (dueR (vb.length + ve.length) vals)) (ev_is ev_c (by unfold dueR; rw [if_pos (by omega)]; rfl)) fun H10 e10 => ⟨rfl, e9.trans e10⟩
        · have h6 := of_decide_eq_false hb
          have : dueR (vb.length + ve.length) vals = dueL vals [0, 1, 2, 3] := by
            unfold dueR
            rw [if_neg (by omega)]
          rw [this]
          rfl
      · rintro σ' H9 ⟨rfl, e9⟩
        have eB9 := eB8.trans e9
        have p9 := e9 _ _ p8
        refine q_when (b := false) (?_) (fun z => by cases z) (fun _ H10 e10 => ?_)
        · refine et_is (et_test (ev_op (x := oS (dueR (vb.length + ve.length) vals)) ?_ ?_ (rv_ne (oS_ne _)))) (by rw [decide_eq_true rfl]; rfl)
          case refine_2 => exact ev_var rfl
          exact ev_lists rfl rfl rfl (eB9 _ _ hbB) (eB9 _ _ heB) fun b0 e0 H11 e11 h1 h2 Q2 q2 => ⟨b0, e0, vl, vb, ve, vals, rfl, h1, h2, hVB.ex (eB9.trans e11), by omega, by omega, fun H12 e12 => q2 H12 e12⟩
        have eB10 := eB9.trans e10
        have p10 := e10 _ _ p9
        have nonz : decide (oS (dueR (vb.length + ve.length) vals) = V.non) = (dueR (vb.length + ve.length) vals).isNone := oS_non _
        -- a rule that may be
        cases hdue : dueR (vb.length + ve.length) vals with
        | none =>
          have h6 : vb.length + ve.length ≤ 6 := by
            unfold dueR at hdue
            split at hdue
            · cases hdue
            · omega
          have hdl : dueL vals [0, 1, 2, 3] = none := by
            unfold dueR at hdue
            rw [if_neg (by omega)] at hdue
            exact hdue
          have hG : allG vals := fun k hk => dueL_none hdl k (by
            match k, hk with
            | 0, _ => decide
            | 1, _ => decide
            | 2, _ => decide
            | 3, _ => decide
            | k + 4, h => omega)
          refine (et_is (b := true) (et_test (ev_op (ev_var (v := V.non) rfl) ev_c rv_isN)) rfl) H10 (Ex.refl _) _ fun H11 e11 => ?_
          have eB11 := eB10.trans e11
          have eBh : Ex B (hide p H11) := fun x o hx => by
            have nx : x ≠ p := fun z => by
              rw [z, hB, hide_at] at hx
              cases hx
            rw [hide_ne nx]
            exact eB11 _ _ hx
          refine ⟨_, rfl, _, rfl, _, rfl, _, rfl, p, bl, el, vl, s5, vals, vb, ve, pb, pe, rfl, e11 _ _ p10, hk5, eBh _ _ hbB, eBh _ _ heB, rb.ex upF eBh, re.ex upF eBh, hVB.ex eBh, hG, h6, fun s12 H12 e12 hp12 hk12 => ⟨true, rfl, ?_⟩⟩
          show (if (!true) = true then _ else _)
          rw [if_neg (by decide)]
          dsimp only [tNext]
          refine s_when (b := false) (et_is (et_and (a := false) (b := true) (et_is (et_test (ev_op (ev_var (v := V.non) rfl) ev_c rv_notN)) rfl) fun z => by cases z) rfl) (fun z => by cases z) (fun _ H13 e13 => ⟨_, _, _, _, _, _, rfl, (eHB.trans (eBh.trans e12)).trans e13⟩)
        | some z =>
          refine q_when (b := false) (et_is (et_and (a := false) (b := true) (et_is (et_test (ev_op (ev_var (v := V.str z) rfl) ev_c rv_isN)) rfl) fun z => by cases z) rfl) (fun z => by cases z) (fun _ H11 e11 => ?_)
          have eB11 := eB10.trans e11
          refine s_when (b := false) (et_is (et_and (a := true) (et_is (et_test (ev_op (ev_var (v := V.str z) rfl) ev_c rv_notN)) rfl) fun _ => et_not (a := true) (et_B (ev_lists rfl rfl rfl (eB11 _ _ hbB) (eB11 _ _ heB) fun b0 e0 H13 e13 h1 h2 Q2 q2 => ⟨b0, e0, vl, vb, ve, vals, rfl, h1, h2, hVB.ex (eB11.trans e13), by omega, by omega, (by rw [hdue]; exact fun y => (by cases y)), q2⟩))) rfl) (fun z => by cases z) (fun _ H12 e12 => ⟨_, _, _, _, _, _, rfl, (eHB.trans eB11).trans e12⟩)
    · rintro σ' H1 ⟨y1, y2, y3, y4, y5, y6, rfl, e1⟩
      exact s_ret ev_c fun H2 e2 => q H2

end
theorem all_mk {l : PySem.W.OpenLaw} {w : World} {K : PySem.W.Frag} {h : Heap} {mg : Str → Option Value} {fa : Addr} (X : K.In h) (G : h.Ns mainGlobals mg) (hfa : mg "law" = some (.ref fa))
    {C_Form : Addr}
    {C_GlueError : Addr}
    {C_NoRule : Addr}
    {C_Rule : Addr}
    {f0 : Addr} {od0 an0 : Option Addr} {sl0 : Array (Option Value)} {oc0 kV0 dc0 pm0 cd0 ct0 : Value}
    {f1 : Addr} {od1 an1 : Option Addr} {sl1 : Array (Option Value)} {oc1 kV1 dc1 pm1 cd1 ct1 : Value}
    {f2 : Addr} {od2 an2 : Option Addr} {sl2 : Array (Option Value)} {oc2 kV2 dc2 pm2 cd2 ct2 : Value}
    {f3 : Addr} {od3 an3 : Option Addr} {sl3 : Array (Option Value)} {oc3 kV3 dc3 pm3 cd3 ct3 : Value}
    {f4 : Addr} {od4 an4 : Option Addr} {sl4 : Array (Option Value)} {oc4 kV4 dc4 pm4 cd4 ct4 : Value}
    {f5 : Addr} {od5 an5 : Option Addr} {sl5 : Array (Option Value)} {oc5 kV5 dc5 pm5 cd5 ct5 : Value}
    {f6 : Addr} {od6 an6 : Option Addr} {sl6 : Array (Option Value)} {oc6 kV6 dc6 pm6 cd6 ct6 : Value}
    {f7 : Addr} {od7 an7 : Option Addr} {sl7 : Array (Option Value)} {oc7 kV7 dc7 pm7 cd7 ct7 : Value}
    {f8 : Addr} {od8 an8 : Option Addr} {sl8 : Array (Option Value)} {oc8 kV8 dc8 pm8 cd8 ct8 : Value}
    {f9 : Addr} {od9 an9 : Option Addr} {sl9 : Array (Option Value)} {oc9 kV9 dc9 pm9 cd9 ct9 : Value}
    {f10 : Addr} {od10 an10 : Option Addr} {sl10 : Array (Option Value)} {oc10 kV10 dc10 pm10 cd10 ct10 : Value}
    {f11 : Addr} {od11 an11 : Option Addr} {sl11 : Array (Option Value)} {oc11 kV11 dc11 pm11 cd11 ct11 : Value}
    {f12 : Addr} {od12 an12 : Option Addr} {sl12 : Array (Option Value)} {oc12 kV12 dc12 pm12 cd12 ct12 : Value}
    {f13 : Addr} {od13 an13 : Option Addr} {sl13 : Array (Option Value)} {oc13 kV13 dc13 pm13 cd13 ct13 : Value}
    {f14 : Addr} {od14 an14 : Option Addr} {sl14 : Array (Option Value)} {oc14 kV14 dc14 pm14 cd14 ct14 : Value}
    {f15 : Addr} {od15 an15 : Option Addr} {sl15 : Array (Option Value)} {oc15 kV15 dc15 pm15 cd15 ct15 : Value}
    {f16 : Addr} {od16 an16 : Option Addr} {sl16 : Array (Option Value)} {oc16 kV16 dc16 pm16 cd16 ct16 : Value}
    {f17 : Addr} {od17 an17 : Option Addr} {sl17 : Array (Option Value)} {oc17 kV17 dc17 pm17 cd17 ct17 : Value}
    {f18 : Addr} {od18 an18 : Option Addr} {sl18 : Array (Option Value)} {oc18 kV18 dc18 pm18 cd18 ct18 : Value}
    {f19 : Addr} {od19 an19 : Option Addr} {sl19 : Array (Option Value)} {oc19 kV19 dc19 pm19 cd19 ct19 : Value}
    {f20 : Addr} {od20 an20 : Option Addr} {sl20 : Array (Option Value)} {oc20 kV20 dc20 pm20 cd20 ct20 : Value}
    {p20 : Addr} {rs20 : List Value}
    {f21 : Addr} {od21 an21 : Option Addr} {sl21 : Array (Option Value)} {oc21 kV21 dc21 pm21 cd21 ct21 : Value}
    {p21 : Addr} {rs21 : List Value}
    {f22 : Addr} {od22 an22 : Option Addr} {sl22 : Array (Option Value)} {oc22 kV22 dc22 pm22 cd22 ct22 : Value}
    {p22 : Addr} {rs22 : List Value}
    {f23 : Addr} {od23 an23 : Option Addr} {sl23 : Array (Option Value)} {oc23 kV23 dc23 pm23 cd23 ct23 : Value}
    {p23 : Addr} {rs23 : List Value}
    {f24 : Addr} {od24 an24 : Option Addr} {sl24 : Array (Option Value)} {oc24 kV24 dc24 pm24 cd24 ct24 : Value}
    {p24 : Addr} {ra24 : Value} {rs24 : List Value}
    {f25 : Addr} {od25 an25 : Option Addr} {sl25 : Array (Option Value)} {oc25 kV25 dc25 pm25 cd25 ct25 : Value}
    {p25 : Addr} {ra25 : Value} {rs25 : List Value}
    {f26 : Addr} {od26 an26 : Option Addr} {sl26 : Array (Option Value)} {oc26 kV26 dc26 pm26 cd26 ct26 : Value}
    {p26 : Addr} {ra26 : Value} {rs26 : List Value}
    {f27 : Addr} {od27 an27 : Option Addr} {sl27 : Array (Option Value)} {oc27 kV27 dc27 pm27 cd27 ct27 : Value}
    {p27 : Addr} {ra27 : Value} {rs27 : List Value}
    {f28 : Addr} {od28 an28 : Option Addr} {sl28 : Array (Option Value)} {oc28 kV28 dc28 pm28 cd28 ct28 : Value}
    {f29 : Addr} {od29 an29 : Option Addr} {sl29 : Array (Option Value)} {oc29 kV29 dc29 pm29 cd29 ct29 : Value}
    {f30 : Addr} {od30 an30 : Option Addr} {sl30 : Array (Option Value)} {oc30 kV30 dc30 pm30 cd30 ct30 : Value}
    {f31 : Addr} {od31 an31 : Option Addr} {sl31 : Array (Option Value)} {oc31 dc31 pm31 cd31 ct31 : Value}
    {kD31 : Addr}
    {f32 : Addr} {od32 an32 : Option Addr} {sl32 : Array (Option Value)} {oc32 kV32 dc32 pm32 cd32 ct32 : Value}
    {f33 : Addr} {od33 an33 : Option Addr} {sl33 : Array (Option Value)} {oc33 kV33 dc33 pm33 cd33 ct33 : Value}
    {f34 : Addr} {od34 an34 : Option Addr} {sl34 : Array (Option Value)} {oc34 kV34 dc34 pm34 cd34 ct34 : Value}
    {f35 : Addr} {od35 an35 : Option Addr} {sl35 : Array (Option Value)} {oc35 kV35 dc35 pm35 cd35 ct35 : Value}
    {f36 : Addr} {od36 an36 : Option Addr} {sl36 : Array (Option Value)} {oc36 kV36 dc36 pm36 cd36 ct36 : Value}
    {f37 : Addr} {od37 an37 : Option Addr} {sl37 : Array (Option Value)} {oc37 kV37 dc37 pm37 cd37 ct37 : Value}
    {f38 : Addr} {od38 an38 : Option Addr} {sl38 : Array (Option Value)} {oc38 kV38 dc38 pm38 cd38 ct38 : Value}
    {f39 : Addr} {od39 an39 : Option Addr} {sl39 : Array (Option Value)} {oc39 kV39 dc39 pm39 cd39 ct39 : Value}
    {f40 : Addr} {od40 an40 : Option Addr} {sl40 : Array (Option Value)} {oc40 kV40 dc40 pm40 cd40 ct40 : Value}
    {f41 : Addr} {od41 an41 : Option Addr} {sl41 : Array (Option Value)} {oc41 kV41 dc41 pm41 cd41 ct41 : Value}
    {f42 : Addr} {od42 an42 : Option Addr} {sl42 : Array (Option Value)} {oc42 kV42 dc42 pm42 cd42 ct42 : Value}
    {f43 : Addr} {od43 an43 : Option Addr} {sl43 : Array (Option Value)} {oc43 kV43 dc43 pm43 cd43 ct43 : Value}
    {f44 : Addr} {od44 an44 : Option Addr} {sl44 : Array (Option Value)} {oc44 kV44 dc44 pm44 cd44 ct44 : Value}
    {f45 : Addr} {od45 an45 : Option Addr} {sl45 : Array (Option Value)} {oc45 kV45 dc45 pm45 cd45 ct45 : Value}
    {f46 : Addr} {od46 an46 : Option Addr} {sl46 : Array (Option Value)} {oc46 kV46 dc46 pm46 cd46 ct46 : Value}
    {f47 : Addr} {od47 an47 : Option Addr} {sl47 : Array (Option Value)} {oc47 kV47 dc47 pm47 cd47 ct47 : Value}
    {f48 : Addr} {od48 an48 : Option Addr} {sl48 : Array (Option Value)} {oc48 kV48 dc48 pm48 cd48 ct48 : Value}
    {t_ANY_SIGNS : Tok}
    {t_DIGIT_SIGNS : Tok}
    {a_FIELDS : Addr} {td_FIELDS : Option Addr} {tn_FIELDS : Nat} {tl_FIELDS : Array (Option Value)} {t_FIELDS_0 t_FIELDS_1 t_FIELDS_2 t_FIELDS_3 : Tok}
    {t_LETTER_SIGNS : Tok}
    {t_MOST_LINES : Tok}
    {t_MOST_MARKS : Tok}
    {t_MOST_PARTS : Tok}
    {t_MOST_SIGNS : Tok}
    {t_MOST_TAGS : Tok}
    {a_OPEN_PARTS : Addr} {td_OPEN_PARTS : Option Addr} {tn_OPEN_PARTS : Nat} {tl_OPEN_PARTS : Array (Option Value)} {t_OPEN_PARTS_0 t_OPEN_PARTS_1 t_OPEN_PARTS_2 : Tok}
    {t_SIGNS : Tok}
    {t_SOME_DIGITS : Tok}
    {t_SOME_LETTERS : Tok}
    {nm_GlueError qn_GlueError : Str} {nd_GlueError : Addr} {bs_GlueError : List Value} {sn_GlueError : List Str} {su_GlueError : List Value} {ab_GlueError : Bool} {co_GlueError : Option Bool} {dd_GlueError : Option Addr} {m0_GlueError m1_GlueError m2_GlueError m3_GlueError m5_GlueError : Option Value}
    {nm_NoRule qn_NoRule : Str} {nd_NoRule : Addr} {bs_NoRule : List Value} {sn_NoRule : List Str} {su_NoRule : List Value} {ab_NoRule : Bool} {co_NoRule : Option Bool} {dd_NoRule : Option Addr} {m0_NoRule m1_NoRule m2_NoRule m3_NoRule m5_NoRule : Option Value}
    (a0 : PySem.W.nsIn K mainGlobals "_law_take" = some (some (.ref f0)))
    (l0 : K.lookup f0 = some ⟨oc0, od0, .func (PySem.W.fnOf "_law_take" "_law_take" (defArgs s__law_take) (defBody s__law_take) (defScope s__law_take) .none kV0 dc0 pm0 an0 cd0 ct0), sl0⟩)
    (c0 : PySem.W.codeIn K cd0 "_law_take" = true)
    (k0 : PySem.W.keepIn K (.ref f0) = true)
    (a1 : PySem.W.nsIn K mainGlobals "_law_pool" = some (some (.ref f1)))
    (l1 : K.lookup f1 = some ⟨oc1, od1, .func (PySem.W.fnOf "_law_pool" "_law_pool" (defArgs s__law_pool) (defBody s__law_pool) (defScope s__law_pool) .none kV1 dc1 pm1 an1 cd1 ct1), sl1⟩)
    (c1 : PySem.W.codeIn K cd1 "_law_pool" = true)
    (k1 : PySem.W.keepIn K (.ref f1) = true)
    (a2 : PySem.W.nsIn K mainGlobals "_law_all_signs" = some (some (.ref f2)))
    (l2 : K.lookup f2 = some ⟨oc2, od2, .func (PySem.W.fnOf "_law_all_signs" "_law_all_signs" (defArgs s__law_all_signs) (defBody s__law_all_signs) (defScope s__law_all_signs) .none kV2 dc2 pm2 an2 cd2 ct2), sl2⟩)
    (c2 : PySem.W.codeIn K cd2 "_law_all_signs" = true)
    (k2 : PySem.W.keepIn K (.ref f2) = true)
    (a3 : PySem.W.nsIn K mainGlobals "is_line" = some (some (.ref f3)))
    (l3 : K.lookup f3 = some ⟨oc3, od3, .func (PySem.W.fnOf "is_line" "is_line" (defArgs s_is_line) (defBody s_is_line) (defScope s_is_line) .none kV3 dc3 pm3 an3 cd3 ct3), sl3⟩)
    (c3 : PySem.W.codeIn K cd3 "is_line" = true)
    (k3 : PySem.W.keepIn K (.ref f3) = true)
    (a4 : PySem.W.nsIn K mainGlobals "_takes" = some (some (.ref f4)))
    (l4 : K.lookup f4 = some ⟨oc4, od4, .func (PySem.W.fnOf "_takes" "_takes" (defArgs s__takes) (defBody s__takes) (defScope s__takes) .none kV4 dc4 pm4 an4 cd4 ct4), sl4⟩)
    (c4 : PySem.W.codeIn K cd4 "_takes" = true)
    (k4 : PySem.W.keepIn K (.ref f4) = true)
    (a5 : PySem.W.nsIn K mainGlobals "_closed" = some (some (.ref f5)))
    (l5 : K.lookup f5 = some ⟨oc5, od5, .func (PySem.W.fnOf "_closed" "_closed" (defArgs s__closed) (defBody s__closed) (defScope s__closed) .none kV5 dc5 pm5 an5 cd5 ct5), sl5⟩)
    (c5 : PySem.W.codeIn K cd5 "_closed" = true)
    (k5 : PySem.W.keepIn K (.ref f5) = true)
    (a6 : PySem.W.nsIn K mainGlobals "started" = some (some (.ref f6)))
    (l6 : K.lookup f6 = some ⟨oc6, od6, .func (PySem.W.fnOf "started" "started" (defArgs s_started) (defBody s_started) (defScope s_started) .none kV6 dc6 pm6 an6 cd6 ct6), sl6⟩)
    (c6 : PySem.W.codeIn K cd6 "started" = true)
    (k6 : PySem.W.keepIn K (.ref f6) = true)
    (a7 : PySem.W.nsIn K mainGlobals "moved" = some (some (.ref f7)))
    (l7 : K.lookup f7 = some ⟨oc7, od7, .func (PySem.W.fnOf "moved" "moved" (defArgs s_moved) (defBody s_moved) (defScope s_moved) .none kV7 dc7 pm7 an7 cd7 ct7), sl7⟩)
    (c7 : PySem.W.codeIn K cd7 "moved" = true)
    (k7 : PySem.W.keepIn K (.ref f7) = true)
    (a8 : PySem.W.nsIn K mainGlobals "is_done" = some (some (.ref f8)))
    (l8 : K.lookup f8 = some ⟨oc8, od8, .func (PySem.W.fnOf "is_done" "is_done" (defArgs s_is_done) (defBody s_is_done) (defScope s_is_done) .none kV8 dc8 pm8 an8 cd8 ct8), sl8⟩)
    (c8 : PySem.W.codeIn K cd8 "is_done" = true)
    (k8 : PySem.W.keepIn K (.ref f8) = true)
    (a9 : PySem.W.nsIn K mainGlobals "cells_of" = some (some (.ref f9)))
    (l9 : K.lookup f9 = some ⟨oc9, od9, .func (PySem.W.fnOf "cells_of" "cells_of" (defArgs s_cells_of) (defBody s_cells_of) (defScope s_cells_of) .none kV9 dc9 pm9 an9 cd9 ct9), sl9⟩)
    (c9 : PySem.W.codeIn K cd9 "cells_of" = true)
    (k9 : PySem.W.keepIn K (.ref f9) = true)
    (a10 : PySem.W.nsIn K mainGlobals "_law_text" = some (some (.ref f10)))
    (l10 : K.lookup f10 = some ⟨oc10, od10, .func (PySem.W.fnOf "_law_text" "_law_text" (defArgs s__law_text) (defBody s__law_text) (defScope s__law_text) .none kV10 dc10 pm10 an10 cd10 ct10), sl10⟩)
    (c10 : PySem.W.codeIn K cd10 "_law_text" = true)
    (k10 : PySem.W.keepIn K (.ref f10) = true)
    (a11 : PySem.W.nsIn K mainGlobals "_law_parts" = some (some (.ref f11)))
    (l11 : K.lookup f11 = some ⟨oc11, od11, .func (PySem.W.fnOf "_law_parts" "_law_parts" (defArgs s__law_parts) (defBody s__law_parts) (defScope s__law_parts) .none kV11 dc11 pm11 an11 cd11 ct11), sl11⟩)
    (c11 : PySem.W.codeIn K cd11 "_law_parts" = true)
    (k11 : PySem.W.keepIn K (.ref f11) = true)
    (a12 : PySem.W.nsIn K mainGlobals "_is_allowed" = some (some (.ref f12)))
    (l12 : K.lookup f12 = some ⟨oc12, od12, .func (PySem.W.fnOf "_is_allowed" "_is_allowed" (defArgs s__is_allowed) (defBody s__is_allowed) (defScope s__is_allowed) .none kV12 dc12 pm12 an12 cd12 ct12), sl12⟩)
    (c12 : PySem.W.codeIn K cd12 "_is_allowed" = true)
    (k12 : PySem.W.keepIn K (.ref f12) = true)
    (a13 : PySem.W.findIn K (.ref C_Form) "__init__" = some (some (.ref f13)))
    (l13 : K.lookup f13 = some ⟨oc13, od13, .func (PySem.W.fnOf "__init__" "Form.__init__" (defArgs s_Form___init__) (defBody s_Form___init__) (defScope s_Form___init__) .none kV13 dc13 pm13 an13 cd13 ct13), sl13⟩)
    (c13 : PySem.W.codeIn K cd13 "Form.__init__" = true)
    (k13 : PySem.W.keepIn K (.ref f13) = true)
    (i13 : PySem.W.isFn K (.ref f13) = true)
    (j13 : PySem.W.typeIn K (.ref f13) = some (.type "function"))
    (a14 : PySem.W.findIn K (.ref C_Form) "parts" = some (some (.ref f14)))
    (l14 : K.lookup f14 = some ⟨oc14, od14, .func (PySem.W.fnOf "parts" "Form.parts" (defArgs s_Form_parts) (defBody s_Form_parts) (defScope s_Form_parts) .none kV14 dc14 pm14 an14 cd14 ct14), sl14⟩)
    (c14 : PySem.W.codeIn K cd14 "Form.parts" = true)
    (k14 : PySem.W.keepIn K (.ref f14) = true)
    (i14 : PySem.W.isFn K (.ref f14) = true)
    (j14 : PySem.W.typeIn K (.ref f14) = some (.type "function"))
    (a15 : PySem.W.findIn K (.ref C_Form) "__contains__" = some (some (.ref f15)))
    (l15 : K.lookup f15 = some ⟨oc15, od15, .func (PySem.W.fnOf "__contains__" "Form.__contains__" (defArgs s_Form___contains__) (defBody s_Form___contains__) (defScope s_Form___contains__) .none kV15 dc15 pm15 an15 cd15 ct15), sl15⟩)
    (c15 : PySem.W.codeIn K cd15 "Form.__contains__" = true)
    (k15 : PySem.W.keepIn K (.ref f15) = true)
    (i15 : PySem.W.isFn K (.ref f15) = true)
    (j15 : PySem.W.typeIn K (.ref f15) = some (.type "function"))
    (a16 : PySem.W.nsIn K mainGlobals "_law_form" = some (some (.ref f16)))
    (l16 : K.lookup f16 = some ⟨oc16, od16, .func (PySem.W.fnOf "_law_form" "_law_form" (defArgs s__law_form) (defBody s__law_form) (defScope s__law_form) .none kV16 dc16 pm16 an16 cd16 ct16), sl16⟩)
    (c16 : PySem.W.codeIn K cd16 "_law_form" = true)
    (k16 : PySem.W.keepIn K (.ref f16) = true)
    (a17 : PySem.W.nsIn K mainGlobals "_is_number" = some (some (.ref f17)))
    (l17 : K.lookup f17 = some ⟨oc17, od17, .func (PySem.W.fnOf "_is_number" "_is_number" (defArgs s__is_number) (defBody s__is_number) (defScope s__is_number) .none kV17 dc17 pm17 an17 cd17 ct17), sl17⟩)
    (c17 : PySem.W.codeIn K cd17 "_is_number" = true)
    (k17 : PySem.W.keepIn K (.ref f17) = true)
    (a18 : PySem.W.findIn K (.ref C_NoRule) "__init__" = some (some (.ref f18)))
    (l18 : K.lookup f18 = some ⟨oc18, od18, .func (PySem.W.fnOf "__init__" "NoRule.__init__" (defArgs s_NoRule___init__) (defBody s_NoRule___init__) (defScope s_NoRule___init__) .none kV18 dc18 pm18 an18 cd18 ct18), sl18⟩)
    (c18 : PySem.W.codeIn K cd18 "NoRule.__init__" = true)
    (k18 : PySem.W.keepIn K (.ref f18) = true)
    (i18 : PySem.W.isFn K (.ref f18) = true)
    (j18 : PySem.W.typeIn K (.ref f18) = some (.type "function"))
    (a19 : PySem.W.nsIn K mainGlobals "_check" = some (some (.ref f19)))
    (l19 : K.lookup f19 = some ⟨oc19, od19, .func (PySem.W.fnOf "_check" "_check" (defArgs s__check) (defBody s__check) (defScope s__check) .none kV19 dc19 pm19 an19 cd19 ct19), sl19⟩)
    (c19 : PySem.W.codeIn K cd19 "_check" = true)
    (k19 : PySem.W.keepIn K (.ref f19) = true)
    (a20 : PySem.W.findIn K (.ref C_Rule) "most" = some (some (.ref p20))) (g20 : PySem.W.specialIn K (.ref p20) "__get__" = some (some (.builtin "property.__get__"))) (t20 : PySem.W.takesIn K (.ref p20) = some true) (r20 : PySem.W.recIn K p20 "property" = some (.ref f20 :: rs20))
    (l20 : K.lookup f20 = some ⟨oc20, od20, .func (PySem.W.fnOf "most" "Rule.most" (defArgs s_Rule_most) (defBody s_Rule_most) (defScope s_Rule_most) .none kV20 dc20 pm20 an20 cd20 ct20), sl20⟩)
    (c20 : PySem.W.codeIn K cd20 "Rule.most" = true)
    (k20 : PySem.W.keepIn K (.ref f20) = true)
    (a21 : PySem.W.findIn K (.ref C_Rule) "alone" = some (some (.ref p21))) (g21 : PySem.W.specialIn K (.ref p21) "__get__" = some (some (.builtin "property.__get__"))) (t21 : PySem.W.takesIn K (.ref p21) = some true) (r21 : PySem.W.recIn K p21 "property" = some (.ref f21 :: rs21))
    (l21 : K.lookup f21 = some ⟨oc21, od21, .func (PySem.W.fnOf "alone" "Rule.alone" (defArgs s_Rule_alone) (defBody s_Rule_alone) (defScope s_Rule_alone) .none kV21 dc21 pm21 an21 cd21 ct21), sl21⟩)
    (c21 : PySem.W.codeIn K cd21 "Rule.alone" = true)
    (k21 : PySem.W.keepIn K (.ref f21) = true)
    (a22 : PySem.W.findIn K (.ref C_Rule) "tags" = some (some (.ref p22))) (g22 : PySem.W.specialIn K (.ref p22) "__get__" = some (some (.builtin "property.__get__"))) (t22 : PySem.W.takesIn K (.ref p22) = some true) (r22 : PySem.W.recIn K p22 "property" = some (.ref f22 :: rs22))
    (l22 : K.lookup f22 = some ⟨oc22, od22, .func (PySem.W.fnOf "tags" "Rule.tags" (defArgs s_Rule_tags) (defBody s_Rule_tags) (defScope s_Rule_tags) .none kV22 dc22 pm22 an22 cd22 ct22), sl22⟩)
    (c22 : PySem.W.codeIn K cd22 "Rule.tags" = true)
    (k22 : PySem.W.keepIn K (.ref f22) = true)
    (a23 : PySem.W.findIn K (.ref C_Rule) "quiet" = some (some (.ref p23))) (g23 : PySem.W.specialIn K (.ref p23) "__get__" = some (some (.builtin "property.__get__"))) (t23 : PySem.W.takesIn K (.ref p23) = some true) (r23 : PySem.W.recIn K p23 "property" = some (.ref f23 :: rs23))
    (l23 : K.lookup f23 = some ⟨oc23, od23, .func (PySem.W.fnOf "quiet" "Rule.quiet" (defArgs s_Rule_quiet) (defBody s_Rule_quiet) (defScope s_Rule_quiet) .none kV23 dc23 pm23 an23 cd23 ct23), sl23⟩)
    (c23 : PySem.W.codeIn K cd23 "Rule.quiet" = true)
    (k23 : PySem.W.keepIn K (.ref f23) = true)
    (a24 : PySem.W.takerIn K C_Rule "most" = some (some (.ref p24))) (t24 : PySem.W.typeIn K (.ref p24) = some (.type "property")) (r24 : PySem.W.recIn K p24 "property" = some (ra24 :: .ref f24 :: rs24))
    (l24 : K.lookup f24 = some ⟨oc24, od24, .func (PySem.W.fnOf "most" "Rule.most" (defArgs s_Rule_most__set) (defBody s_Rule_most__set) (defScope s_Rule_most__set) .none kV24 dc24 pm24 an24 cd24 ct24), sl24⟩)
    (c24 : PySem.W.codeIn K cd24 "Rule.most" = true)
    (k24 : PySem.W.keepIn K (.ref f24) = true)
    (a25 : PySem.W.takerIn K C_Rule "alone" = some (some (.ref p25))) (t25 : PySem.W.typeIn K (.ref p25) = some (.type "property")) (r25 : PySem.W.recIn K p25 "property" = some (ra25 :: .ref f25 :: rs25))
    (l25 : K.lookup f25 = some ⟨oc25, od25, .func (PySem.W.fnOf "alone" "Rule.alone" (defArgs s_Rule_alone__set) (defBody s_Rule_alone__set) (defScope s_Rule_alone__set) .none kV25 dc25 pm25 an25 cd25 ct25), sl25⟩)
    (c25 : PySem.W.codeIn K cd25 "Rule.alone" = true)
    (k25 : PySem.W.keepIn K (.ref f25) = true)
    (a26 : PySem.W.takerIn K C_Rule "tags" = some (some (.ref p26))) (t26 : PySem.W.typeIn K (.ref p26) = some (.type "property")) (r26 : PySem.W.recIn K p26 "property" = some (ra26 :: .ref f26 :: rs26))
    (l26 : K.lookup f26 = some ⟨oc26, od26, .func (PySem.W.fnOf "tags" "Rule.tags" (defArgs s_Rule_tags__set) (defBody s_Rule_tags__set) (defScope s_Rule_tags__set) .none kV26 dc26 pm26 an26 cd26 ct26), sl26⟩)
    (c26 : PySem.W.codeIn K cd26 "Rule.tags" = true)
    (k26 : PySem.W.keepIn K (.ref f26) = true)
    (a27 : PySem.W.takerIn K C_Rule "quiet" = some (some (.ref p27))) (t27 : PySem.W.typeIn K (.ref p27) = some (.type "property")) (r27 : PySem.W.recIn K p27 "property" = some (ra27 :: .ref f27 :: rs27))
    (l27 : K.lookup f27 = some ⟨oc27, od27, .func (PySem.W.fnOf "quiet" "Rule.quiet" (defArgs s_Rule_quiet__set) (defBody s_Rule_quiet__set) (defScope s_Rule_quiet__set) .none kV27 dc27 pm27 an27 cd27 ct27), sl27⟩)
    (c27 : PySem.W.codeIn K cd27 "Rule.quiet" = true)
    (k27 : PySem.W.keepIn K (.ref f27) = true)
    (a28 : PySem.W.findIn K (.ref C_Rule) "begins" = some (some (.ref f28)))
    (l28 : K.lookup f28 = some ⟨oc28, od28, .func (PySem.W.fnOf "begins" "Rule.begins" (defArgs s_Rule_begins) (defBody s_Rule_begins) (defScope s_Rule_begins) .none kV28 dc28 pm28 an28 cd28 ct28), sl28⟩)
    (c28 : PySem.W.codeIn K cd28 "Rule.begins" = true)
    (k28 : PySem.W.keepIn K (.ref f28) = true)
    (i28 : PySem.W.isFn K (.ref f28) = true)
    (j28 : PySem.W.typeIn K (.ref f28) = some (.type "function"))
    (a29 : PySem.W.findIn K (.ref C_Rule) "ends" = some (some (.ref f29)))
    (l29 : K.lookup f29 = some ⟨oc29, od29, .func (PySem.W.fnOf "ends" "Rule.ends" (defArgs s_Rule_ends) (defBody s_Rule_ends) (defScope s_Rule_ends) .none kV29 dc29 pm29 an29 cd29 ct29), sl29⟩)
    (c29 : PySem.W.codeIn K cd29 "Rule.ends" = true)
    (k29 : PySem.W.keepIn K (.ref f29) = true)
    (i29 : PySem.W.isFn K (.ref f29) = true)
    (j29 : PySem.W.typeIn K (.ref f29) = some (.type "function"))
    (a30 : PySem.W.findIn K (.ref C_Form) "__str__" = some (some (.ref f30)))
    (l30 : K.lookup f30 = some ⟨oc30, od30, .func (PySem.W.fnOf "__str__" "Form.__str__" (defArgs s_Form___str__) (defBody s_Form___str__) (defScope s_Form___str__) .none kV30 dc30 pm30 an30 cd30 ct30), sl30⟩)
    (c30 : PySem.W.codeIn K cd30 "Form.__str__" = true)
    (k30 : PySem.W.keepIn K (.ref f30) = true)
    (i30 : PySem.W.isFn K (.ref f30) = true)
    (j30 : PySem.W.typeIn K (.ref f30) = some (.type "function"))
    (fm_Form : PySem.W.findIn K (.ref C_Form) "__format__" = some (some (.builtin "object.__format__"))) (ob_Form : PySem.W.mroIn K C_Form (.type "object") = some true)
    (a31 : PySem.W.findIn K (.ref C_Rule) "__init__" = some (some (.ref f31)))
    (l31 : K.lookup f31 = some ⟨oc31, od31, .func (PySem.W.fnOf "__init__" "Rule.__init__" (defArgs s_Rule___init__) (defBody s_Rule___init__) (defScope s_Rule___init__) .none (.ref kD31) dc31 pm31 an31 cd31 ct31), sl31⟩)
    (c31 : PySem.W.codeIn K cd31 "Rule.__init__" = true)
    (k31 : PySem.W.keepIn K (.ref f31) = true)
    (y31 : PySem.W.nsIn K kD31 "most" = some (some .none))
    (y31_1 : PySem.W.nsIn K kD31 "alone" = some (some (.bool true)))
    (y31_2 : PySem.W.nsIn K kD31 "tags" = some (some .none))
    (y31_3 : PySem.W.nsIn K kD31 "quiet" = some (some (.bool false)))
    (i31 : PySem.W.isFn K (.ref f31) = true)
    (j31 : PySem.W.typeIn K (.ref f31) = some (.type "function"))
    (a32 : PySem.W.findIn K (.ref C_Rule) "change" = some (some (.ref f32)))
    (l32 : K.lookup f32 = some ⟨oc32, od32, .func (PySem.W.fnOf "change" "Rule.change" (defArgs s_Rule_change) (defBody s_Rule_change) (defScope s_Rule_change) .none kV32 dc32 pm32 an32 cd32 ct32), sl32⟩)
    (c32 : PySem.W.codeIn K cd32 "Rule.change" = true)
    (k32 : PySem.W.keepIn K (.ref f32) = true)
    (i32 : PySem.W.isFn K (.ref f32) = true)
    (j32 : PySem.W.typeIn K (.ref f32) = some (.type "function"))
    (a33 : PySem.W.nsIn K mainGlobals "assign" = some (some (.ref f33)))
    (l33 : K.lookup f33 = some ⟨oc33, od33, .func (PySem.W.fnOf "assign" "assign" (defArgs s_assign) (defBody s_assign) (defScope s_assign) .none kV33 dc33 pm33 an33 cd33 ct33), sl33⟩)
    (c33 : PySem.W.codeIn K cd33 "assign" = true)
    (k33 : PySem.W.keepIn K (.ref f33) = true)
    (a34 : PySem.W.nsIn K mainGlobals "_law_value" = some (some (.ref f34)))
    (l34 : K.lookup f34 = some ⟨oc34, od34, .func (PySem.W.fnOf "_law_value" "_law_value" (defArgs s__law_value) (defBody s__law_value) (defScope s__law_value) .none kV34 dc34 pm34 an34 cd34 ct34), sl34⟩)
    (c34 : PySem.W.codeIn K cd34 "_law_value" = true)
    (k34 : PySem.W.keepIn K (.ref f34) = true)
    (a35 : PySem.W.nsIn K mainGlobals "_law_good" = some (some (.ref f35)))
    (l35 : K.lookup f35 = some ⟨oc35, od35, .func (PySem.W.fnOf "_law_good" "_law_good" (defArgs s__law_good) (defBody s__law_good) (defScope s__law_good) .none kV35 dc35 pm35 an35 cd35 ct35), sl35⟩)
    (c35 : PySem.W.codeIn K cd35 "_law_good" = true)
    (k35 : PySem.W.keepIn K (.ref f35) = true)
    (a36 : PySem.W.nsIn K mainGlobals "_law_fields" = some (some (.ref f36)))
    (l36 : K.lookup f36 = some ⟨oc36, od36, .func (PySem.W.fnOf "_law_fields" "_law_fields" (defArgs s__law_fields) (defBody s__law_fields) (defScope s__law_fields) .none kV36 dc36 pm36 an36 cd36 ct36), sl36⟩)
    (c36 : PySem.W.codeIn K cd36 "_law_fields" = true)
    (k36 : PySem.W.keepIn K (.ref f36) = true)
    (a37 : PySem.W.nsIn K mainGlobals "_law_due" = some (some (.ref f37)))
    (l37 : K.lookup f37 = some ⟨oc37, od37, .func (PySem.W.fnOf "_law_due" "_law_due" (defArgs s__law_due) (defBody s__law_due) (defScope s__law_due) .none kV37 dc37 pm37 an37 cd37 ct37), sl37⟩)
    (c37 : PySem.W.codeIn K cd37 "_law_due" = true)
    (k37 : PySem.W.keepIn K (.ref f37) = true)
    (a38 : PySem.W.nsIn K mainGlobals "_law_same" = some (some (.ref f38)))
    (l38 : K.lookup f38 = some ⟨oc38, od38, .func (PySem.W.fnOf "_law_same" "_law_same" (defArgs s__law_same) (defBody s__law_same) (defScope s__law_same) .none kV38 dc38 pm38 an38 cd38 ct38), sl38⟩)
    (c38 : PySem.W.codeIn K cd38 "_law_same" = true)
    (k38 : PySem.W.keepIn K (.ref f38) = true)
    (a39 : PySem.W.nsIn K mainGlobals "_law_tells" = some (some (.ref f39)))
    (l39 : K.lookup f39 = some ⟨oc39, od39, .func (PySem.W.fnOf "_law_tells" "_law_tells" (defArgs s__law_tells) (defBody s__law_tells) (defScope s__law_tells) .none kV39 dc39 pm39 an39 cd39 ct39), sl39⟩)
    (c39 : PySem.W.codeIn K cd39 "_law_tells" = true)
    (k39 : PySem.W.keepIn K (.ref f39) = true)
    (a40 : PySem.W.nsIn K mainGlobals "_law_refused" = some (some (.ref f40)))
    (l40 : K.lookup f40 = some ⟨oc40, od40, .func (PySem.W.fnOf "_law_refused" "_law_refused" (defArgs s__law_refused) (defBody s__law_refused) (defScope s__law_refused) .none kV40 dc40 pm40 an40 cd40 ct40), sl40⟩)
    (c40 : PySem.W.codeIn K cd40 "_law_refused" = true)
    (k40 : PySem.W.keepIn K (.ref f40) = true)
    (a41 : PySem.W.nsIn K mainGlobals "_law_below" = some (some (.ref f41)))
    (l41 : K.lookup f41 = some ⟨oc41, od41, .func (PySem.W.fnOf "_law_below" "_law_below" (defArgs s__law_below) (defBody s__law_below) (defScope s__law_below) .none kV41 dc41 pm41 an41 cd41 ct41), sl41⟩)
    (c41 : PySem.W.codeIn K cd41 "_law_below" = true)
    (k41 : PySem.W.keepIn K (.ref f41) = true)
    (a42 : PySem.W.nsIn K mainGlobals "_law_change" = some (some (.ref f42)))
    (l42 : K.lookup f42 = some ⟨oc42, od42, .func (PySem.W.fnOf "_law_change" "_law_change" (defArgs s__law_change) (defBody s__law_change) (defScope s__law_change) .none kV42 dc42 pm42 an42 cd42 ct42), sl42⟩)
    (c42 : PySem.W.codeIn K cd42 "_law_change" = true)
    (k42 : PySem.W.keepIn K (.ref f42) = true)
    (a43 : PySem.W.nsIn K mainGlobals "_law_strange" = some (some (.ref f43)))
    (l43 : K.lookup f43 = some ⟨oc43, od43, .func (PySem.W.fnOf "_law_strange" "_law_strange" (defArgs s__law_strange) (defBody s__law_strange) (defScope s__law_strange) .none kV43 dc43 pm43 an43 cd43 ct43), sl43⟩)
    (c43 : PySem.W.codeIn K cd43 "_law_strange" = true)
    (k43 : PySem.W.keepIn K (.ref f43) = true)
    (a44 : PySem.W.nsIn K mainGlobals "_law_assigned" = some (some (.ref f44)))
    (l44 : K.lookup f44 = some ⟨oc44, od44, .func (PySem.W.fnOf "_law_assigned" "_law_assigned" (defArgs s__law_assigned) (defBody s__law_assigned) (defScope s__law_assigned) .none kV44 dc44 pm44 an44 cd44 ct44), sl44⟩)
    (c44 : PySem.W.codeIn K cd44 "_law_assigned" = true)
    (k44 : PySem.W.keepIn K (.ref f44) = true)
    (a45 : PySem.W.nsIn K mainGlobals "_law_assigns" = some (some (.ref f45)))
    (l45 : K.lookup f45 = some ⟨oc45, od45, .func (PySem.W.fnOf "_law_assigns" "_law_assigns" (defArgs s__law_assigns) (defBody s__law_assigns) (defScope s__law_assigns) .none kV45 dc45 pm45 an45 cd45 ct45), sl45⟩)
    (c45 : PySem.W.codeIn K cd45 "_law_assigns" = true)
    (k45 : PySem.W.keepIn K (.ref f45) = true)
    (a46 : PySem.W.nsIn K mainGlobals "_law_changes" = some (some (.ref f46)))
    (l46 : K.lookup f46 = some ⟨oc46, od46, .func (PySem.W.fnOf "_law_changes" "_law_changes" (defArgs s__law_changes) (defBody s__law_changes) (defScope s__law_changes) .none kV46 dc46 pm46 an46 cd46 ct46), sl46⟩)
    (c46 : PySem.W.codeIn K cd46 "_law_changes" = true)
    (k46 : PySem.W.keepIn K (.ref f46) = true)
    (a47 : PySem.W.nsIn K mainGlobals "_law_rules" = some (some (.ref f47)))
    (l47 : K.lookup f47 = some ⟨oc47, od47, .func (PySem.W.fnOf "_law_rules" "_law_rules" (defArgs s__law_rules) (defBody s__law_rules) (defScope s__law_rules) .none kV47 dc47 pm47 an47 cd47 ct47), sl47⟩)
    (c47 : PySem.W.codeIn K cd47 "_law_rules" = true)
    (k47 : PySem.W.keepIn K (.ref f47) = true)
    (a48 : PySem.W.nsIn K mainGlobals "law" = some (some (.ref f48)))
    (l48 : K.lookup f48 = some ⟨oc48, od48, .func (PySem.W.fnOf "law" "law" (defArgs s_law) (defBody s_law) (defScope s_law) .none kV48 dc48 pm48 an48 cd48 ct48), sl48⟩)
    (c48 : PySem.W.codeIn K cd48 "law" = true)
    (k48 : PySem.W.keepIn K (.ref f48) = true)
    (z_ANY_SIGNS : PySem.W.nsIn K mainGlobals "ANY_SIGNS" = some (some (.str ((Str.ofString "<any>")) t_ANY_SIGNS)))
    (z_DIGIT_SIGNS : PySem.W.nsIn K mainGlobals "DIGIT_SIGNS" = some (some (.str ((Str.ofString "0123456789")) t_DIGIT_SIGNS)))
    (z_FIELDS : PySem.W.nsIn K mainGlobals "FIELDS" = some (some (.ref a_FIELDS)))
    (y_FIELDS : K.lookup a_FIELDS = some ⟨.type "tuple", td_FIELDS, .seq #[.str (Str.ofString "most") t_FIELDS_0, .str (Str.ofString "alone") t_FIELDS_1, .str (Str.ofString "tags") t_FIELDS_2, .str (Str.ofString "quiet") t_FIELDS_3] tn_FIELDS, tl_FIELDS⟩)
    (z_LETTER_SIGNS : PySem.W.nsIn K mainGlobals "LETTER_SIGNS" = some (some (.str ((Str.ofString "ABCDEFGHIJKLMNOPQRSTUVWXYZabcdefghijklmnopqrstuvwxyz")) t_LETTER_SIGNS)))
    (z_MOST_LINES : PySem.W.nsIn K mainGlobals "MOST_LINES" = some (some (.int (20) t_MOST_LINES)))
    (z_MOST_MARKS : PySem.W.nsIn K mainGlobals "MOST_MARKS" = some (some (.int (6) t_MOST_MARKS)))
    (z_MOST_PARTS : PySem.W.nsIn K mainGlobals "MOST_PARTS" = some (some (.int (4) t_MOST_PARTS)))
    (z_MOST_SIGNS : PySem.W.nsIn K mainGlobals "MOST_SIGNS" = some (some (.int (4) t_MOST_SIGNS)))
    (z_MOST_TAGS : PySem.W.nsIn K mainGlobals "MOST_TAGS" = some (some (.int (9) t_MOST_TAGS)))
    (z_OPEN_PARTS : PySem.W.nsIn K mainGlobals "OPEN_PARTS" = some (some (.ref a_OPEN_PARTS)))
    (y_OPEN_PARTS : K.lookup a_OPEN_PARTS = some ⟨.type "tuple", td_OPEN_PARTS, .seq #[.str (Str.ofString "<digits>") t_OPEN_PARTS_0, .str (Str.ofString "<word>") t_OPEN_PARTS_1, .str (Str.ofString "<any>") t_OPEN_PARTS_2] tn_OPEN_PARTS, tl_OPEN_PARTS⟩)
    (z_SIGNS : PySem.W.nsIn K mainGlobals "SIGNS" = some (some (.str ((Str.ofString " #-.0123456789:>ABCDEFGHIJKLMNOPQRSTUVWXYZabcdefghijklmnopqrstuvwxyz")) t_SIGNS)))
    (z_SOME_DIGITS : PySem.W.nsIn K mainGlobals "SOME_DIGITS" = some (some (.str ((Str.ofString "<digits>")) t_SOME_DIGITS)))
    (z_SOME_LETTERS : PySem.W.nsIn K mainGlobals "SOME_LETTERS" = some (some (.str ((Str.ofString "<word>")) t_SOME_LETTERS)))
    (z_all : PySem.W.nsIn K mainGlobals "all" = some none)
    (z_bool : PySem.W.nsIn K mainGlobals "bool" = some none)
    (z_int : PySem.W.nsIn K mainGlobals "int" = some none)
    (z_isinstance : PySem.W.nsIn K mainGlobals "isinstance" = some none)
    (z_len : PySem.W.nsIn K mainGlobals "len" = some none)
    (z_list : PySem.W.nsIn K mainGlobals "list" = some none)
    (z_max : PySem.W.nsIn K mainGlobals "max" = some none)
    (z_min : PySem.W.nsIn K mainGlobals "min" = some none)
    (z_range : PySem.W.nsIn K mainGlobals "range" = some none)
    (z_str : PySem.W.nsIn K mainGlobals "str" = some none)
    (z_tuple : PySem.W.nsIn K mainGlobals "tuple" = some none)
    (aC_Form : PySem.W.nsIn K mainGlobals "Form" = some (some (.ref C_Form)))
    (aC_GlueError : PySem.W.nsIn K mainGlobals "GlueError" = some (some (.ref C_GlueError)))
    (aC_NoRule : PySem.W.nsIn K mainGlobals "NoRule" = some (some (.ref C_NoRule)))
    (aC_Rule : PySem.W.nsIn K mainGlobals "Rule" = some (some (.ref C_Rule)))
    (pg_Form : PySem.W.plainGet K C_Form Str.empty = true) (hd_Form : PySem.W.hasDictIn K C_Form = true) (po_Form : PySem.W.plainOver K C_Form = true) (sa_Form : PySem.W.findIn K (.ref C_Form) "__setattr__" = some (some (.builtin "object.__setattr__"))) (mk_Form : PySem.W.makesIn K C_Form = true) (kc_Form : PySem.W.keepIn K (.ref C_Form) = true)
    (n_Form__cells : PySem.W.findIn K (.ref C_Form) "_cells" = some none)
    (n_Form__parts : PySem.W.findIn K (.ref C_Form) "_parts" = some none)
    (pg_Rule : PySem.W.plainGet K C_Rule Str.empty = true) (hd_Rule : PySem.W.hasDictIn K C_Rule = true) (po_Rule : PySem.W.plainOver K C_Rule = true) (sa_Rule : PySem.W.findIn K (.ref C_Rule) "__setattr__" = some (some (.builtin "object.__setattr__"))) (mk_Rule : PySem.W.makesIn K C_Rule = true) (kc_Rule : PySem.W.keepIn K (.ref C_Rule) = true)
    (n_Rule__alone : PySem.W.findIn K (.ref C_Rule) "_alone" = some none)
    (n_Rule__begins : PySem.W.findIn K (.ref C_Rule) "_begins" = some none)
    (n_Rule__ends : PySem.W.findIn K (.ref C_Rule) "_ends" = some none)
    (n_Rule__most : PySem.W.findIn K (.ref C_Rule) "_most" = some none)
    (n_Rule__quiet : PySem.W.findIn K (.ref C_Rule) "_quiet" = some none)
    (n_Rule__tags : PySem.W.findIn K (.ref C_Rule) "_tags" = some none)
    (xl_GlueError : K.lookup C_GlueError = some (excClassObj nm_GlueError qn_GlueError C_GlueError nd_GlueError bs_GlueError [.type "ValueError", .type "Exception", .type "BaseException", .type "object"] true sn_GlueError su_GlueError ab_GlueError co_GlueError dd_GlueError m0_GlueError m1_GlueError m2_GlueError m3_GlueError m5_GlueError "ValueError.__new__"))
    (xs_GlueError : PySem.W.findIn K (.ref C_GlueError) "__setattr__" = some (some (.builtin "object.__setattr__"))) (xg_GlueError : PySem.W.findIn K (.ref C_GlueError) "__getattribute__" = some (some (.builtin "BaseException.__getattribute__"))) (xh_GlueError : PySem.W.findIn K (.ref C_GlueError) "__getattr__" = some none)
    (xe_GlueError : PySem.W.subIn K (.ref C_GlueError) (.type "BaseException") = some true) (xt_GlueError : PySem.W.typeIn K (.ref C_GlueError) = some (.type "type")) (xk_GlueError : PySem.W.keepIn K (.ref C_GlueError) = true) (xd_GlueError : PySem.W.hasDictIn K C_GlueError = true) (xi_GlueError : PySem.W.isClsIn K C_GlueError = true) (xu_GlueError : PySem.W.subIn K (.ref C_GlueError) (.ref C_GlueError) = some true)
    (xa_GlueError : PySem.W.findIn K (.ref C_GlueError) "__class__" = some (some (.builtin "object.__class__"))) (xn_GlueError : PySem.W.specialIn K (.builtin "object.__class__") "__get__" = some (some (.builtin "getset_descriptor.__get__"))) (xp_GlueError : PySem.W.takesIn K (.builtin "object.__class__") = some true) (xm_GlueError : PySem.W.mroIn K C_GlueError (.type "object") = some true)
    (xl_NoRule : K.lookup C_NoRule = some (excClassObj nm_NoRule qn_NoRule C_NoRule nd_NoRule bs_NoRule [.ref C_GlueError, .type "ValueError", .type "Exception", .type "BaseException", .type "object"] true sn_NoRule su_NoRule ab_NoRule co_NoRule dd_NoRule m0_NoRule m1_NoRule m2_NoRule m3_NoRule m5_NoRule "ValueError.__new__"))
    (xs_NoRule : PySem.W.findIn K (.ref C_NoRule) "__setattr__" = some (some (.builtin "object.__setattr__"))) (xg_NoRule : PySem.W.findIn K (.ref C_NoRule) "__getattribute__" = some (some (.builtin "BaseException.__getattribute__"))) (xh_NoRule : PySem.W.findIn K (.ref C_NoRule) "__getattr__" = some none)
    (xe_NoRule : PySem.W.subIn K (.ref C_NoRule) (.type "BaseException") = some true) (xt_NoRule : PySem.W.typeIn K (.ref C_NoRule) = some (.type "type")) (xk_NoRule : PySem.W.keepIn K (.ref C_NoRule) = true) (xd_NoRule : PySem.W.hasDictIn K C_NoRule = true) (xi_NoRule : PySem.W.isClsIn K C_NoRule = true) (xu_NoRule : PySem.W.subIn K (.ref C_NoRule) (.ref C_NoRule) = some true)
    (xa_NoRule : PySem.W.findIn K (.ref C_NoRule) "__class__" = some (some (.builtin "object.__class__"))) (xn_NoRule : PySem.W.specialIn K (.builtin "object.__class__") "__get__" = some (some (.builtin "getset_descriptor.__get__"))) (xp_NoRule : PySem.W.takesIn K (.builtin "object.__class__") = some true) (xm_NoRule : PySem.W.mroIn K C_NoRule (.type "object") = some true)
    (xf_NoRule_field : PySem.W.findIn K (.ref C_NoRule) "field" = some none)
    (q_g1 : PySem.W.subIn K (.ref C_GlueError) (.type "BaseException") = some true)
    (q_g2 : PySem.W.hasDictIn K C_GlueError = true)
    (q_g3 : PySem.W.typeIn K (.ref C_GlueError) = some (.type "type"))
    (q_g4 : PySem.W.subIn K (.ref C_NoRule) (.ref C_GlueError) = some true)
    (q_gs : PySem.W.kitOne K (.ref C_NoRule) (.ref C_NoRule) = some true)
    : ∃ fd : FuncData, (∀ (s : Shared) (v : Value), BindsTo s fd ⟨[v], []⟩ [("script", v)]) ∧ ∀ base : Heap, K.In base → base.Ns mainGlobals mg → FnOk l.prog w K mg base CX0 12 fa fd ["script"] (spLaw K) := by
  have e := hfa.symm.trans (PySem.W.mg_of X G a48)
  cases e
  have T : Txt K mg a_FIELDS a_OPEN_PARTS C_Form C_GlueError C_NoRule C_Rule := { c_ANY_SIGNS := ⟨_, PySem.W.mg_of X G z_ANY_SIGNS, ⟨_, rfl⟩⟩, c_DIGIT_SIGNS := ⟨_, PySem.W.mg_of X G z_DIGIT_SIGNS, ⟨_, rfl⟩⟩, c_FIELDS := ⟨_, PySem.W.mg_of X G z_FIELDS, rfl⟩, o_FIELDS := ⟨_, _, _, y_FIELDS, rfl, rfl, sz_of (by simp), (.cons ⟨_, rfl⟩ (.cons ⟨_, rfl⟩ (.cons ⟨_, rfl⟩ (.cons ⟨_, rfl⟩ .nil))))⟩, c_LETTER_SIGNS := ⟨_, PySem.W.mg_of X G z_LETTER_SIGNS, ⟨_, rfl⟩⟩, c_MOST_LINES := ⟨_, PySem.W.mg_of X G z_MOST_LINES, ⟨_, rfl⟩⟩, c_MOST_MARKS := ⟨_, PySem.W.mg_of X G z_MOST_MARKS, ⟨_, rfl⟩⟩, c_MOST_PARTS := ⟨_, PySem.W.mg_of X G z_MOST_PARTS, ⟨_, rfl⟩⟩, c_MOST_SIGNS := ⟨_, PySem.W.mg_of X G z_MOST_SIGNS, ⟨_, rfl⟩⟩, c_MOST_TAGS := ⟨_, PySem.W.mg_of X G z_MOST_TAGS, ⟨_, rfl⟩⟩, c_OPEN_PARTS := ⟨_, PySem.W.mg_of X G z_OPEN_PARTS, rfl⟩, o_OPEN_PARTS := ⟨_, _, _, y_OPEN_PARTS, rfl, rfl, sz_of (by simp), (.cons ⟨_, rfl⟩ (.cons ⟨_, rfl⟩ (.cons ⟨_, rfl⟩ .nil)))⟩, c_SIGNS := ⟨_, PySem.W.mg_of X G z_SIGNS, ⟨_, rfl⟩⟩, c_SOME_DIGITS := ⟨_, PySem.W.mg_of X G z_SOME_DIGITS, ⟨_, rfl⟩⟩, c_SOME_LETTERS := ⟨_, PySem.W.mg_of X G z_SOME_LETTERS, ⟨_, rfl⟩⟩, n_all := PySem.W.mg_none_of X G z_all, n_bool := PySem.W.mg_none_of X G z_bool, n_int := PySem.W.mg_none_of X G z_int, n_isinstance := PySem.W.mg_none_of X G z_isinstance, n_len := PySem.W.mg_none_of X G z_len, n_list := PySem.W.mg_none_of X G z_list, n_max := PySem.W.mg_none_of X G z_max, n_min := PySem.W.mg_none_of X G z_min, n_range := PySem.W.mg_none_of X G z_range, n_str := PySem.W.mg_none_of X G z_str, n_tuple := PySem.W.mg_none_of X G z_tuple, c_GlueError := ⟨_, PySem.W.mg_of X G aC_GlueError, rfl⟩, c_NoRule := ⟨_, PySem.W.mg_of X G aC_NoRule, rfl⟩, k_Form := ⟨pg_Form, hd_Form, po_Form, sa_Form⟩, a_Form__cells := n_Form__cells, a_Form__parts := n_Form__parts, k_Rule := ⟨pg_Rule, hd_Rule, po_Rule, sa_Rule⟩, a_Rule__alone := n_Rule__alone, a_Rule__begins := n_Rule__begins, a_Rule__ends := n_Rule__ends, a_Rule__most := n_Rule__most, a_Rule__quiet := n_Rule__quiet, a_Rule__tags := n_Rule__tags, x_GlueError := ⟨⟨⟨_, _, _, _, _, _, _, _, _, _, _, _, _, _, _, xl_GlueError, by rfl⟩, xs_GlueError, xe_GlueError, xt_GlueError, xk_GlueError⟩, ⟨xg_GlueError, xh_GlueError, xe_GlueError, xd_GlueError⟩, xi_GlueError, xa_GlueError, xn_GlueError, xp_GlueError, xm_GlueError, PySem.W.exm_ref xe_GlueError xd_GlueError xt_GlueError xu_GlueError⟩, m_GlueError := PySem.W.mg_of X G aC_GlueError, x_NoRule := ⟨⟨⟨_, _, _, _, _, _, _, _, _, _, _, _, _, _, _, xl_NoRule, by rfl⟩, xs_NoRule, xe_NoRule, xt_NoRule, xk_NoRule⟩, ⟨xg_NoRule, xh_NoRule, xe_NoRule, xd_NoRule⟩, xi_NoRule, xa_NoRule, xn_NoRule, xp_NoRule, xm_NoRule, PySem.W.exm_ref xe_NoRule xd_NoRule xt_NoRule xu_NoRule⟩, m_NoRule := PySem.W.mg_of X G aC_NoRule, f_NoRule_field := xf_NoRule_field, q_g1 := q_g1, q_g2 := q_g2, q_g3 := q_g3, q_g4 := q_g4, q_gs := q_gs }
  have F0 := fun_mk (st := s__law_take) l0 c0 k0
  have b0 := F0.binds (ps := ["pool", "many"]) fun _ _ _ _ _ _ us hl => match us, hl with | [_, _], _ => rfl
  have F1 := fun_mk (st := s__law_pool) l1 c1 k1
  have b1 := F1.binds (ps := ["script", "k"]) fun _ _ _ _ _ _ us hl => match us, hl with | [_, _], _ => rfl
  have F2 := fun_mk (st := s__law_all_signs) l2 c2 k2
  have b2 := F2.binds (ps := []) fun _ _ _ _ _ _ us hl => match us, hl with | [], _ => rfl
  have F3 := fun_mk (st := s_is_line) l3 c3 k3
  have b3 := F3.binds (ps := ["thing"]) fun _ _ _ _ _ _ us hl => match us, hl with | [_], _ => rfl
  have F4 := fun_mk (st := s__takes) l4 c4 k4
  have b4 := F4.binds (ps := ["cell", "sign"]) fun _ _ _ _ _ _ us hl => match us, hl with | [_, _], _ => rfl
  have F5 := fun_mk (st := s__closed) l5 c5 k5
  have b5 := F5.binds (ps := ["cells", "positions"]) fun _ _ _ _ _ _ us hl => match us, hl with | [_, _], _ => rfl
  have F6 := fun_mk (st := s_started) l6 c6 k6
  have b6 := F6.binds (ps := ["cells"]) fun _ _ _ _ _ _ us hl => match us, hl with | [_], _ => rfl
  have F7 := fun_mk (st := s_moved) l7 c7 k7
  have b7 := F7.binds (ps := ["cells", "positions", "sign"]) fun _ _ _ _ _ _ us hl => match us, hl with | [_, _, _], _ => rfl
  have F8 := fun_mk (st := s_is_done) l8 c8 k8
  have b8 := F8.binds (ps := ["cells", "positions"]) fun _ _ _ _ _ _ us hl => match us, hl with | [_, _], _ => rfl
  have F9 := fun_mk (st := s_cells_of) l9 c9 k9
  have b9 := F9.binds (ps := ["parts"]) fun _ _ _ _ _ _ us hl => match us, hl with | [_], _ => rfl
  have F10 := fun_mk (st := s__law_text) l10 c10 k10
  have b10 := F10.binds (ps := ["pool"]) fun _ _ _ _ _ _ us hl => match us, hl with | [_], _ => rfl
  have F11 := fun_mk (st := s__law_parts) l11 c11 k11
  have b11 := F11.binds (ps := ["pool"]) fun _ _ _ _ _ _ us hl => match us, hl with | [_], _ => rfl
  have F12 := fun_mk (st := s__is_allowed) l12 c12 k12
  have b12 := F12.binds (ps := ["parts", "at"]) fun _ _ _ _ _ _ us hl => match us, hl with | [_, _], _ => rfl
  have F13 := fun_mk (st := s_Form___init__) l13 c13 k13
  have F14 := fun_mk (st := s_Form_parts) l14 c14 k14
  have b14 := F14.binds (ps := ["self"]) fun _ _ _ _ _ _ us hl => match us, hl with | [_], _ => rfl
  have F15 := fun_mk (st := s_Form___contains__) l15 c15 k15
  have b15 := F15.binds (ps := ["self", "line"]) fun _ _ _ _ _ _ us hl => match us, hl with | [_, _], _ => rfl
  have F16 := fun_mk (st := s__law_form) l16 c16 k16
  have b16 := F16.binds (ps := ["parts"]) fun _ _ _ _ _ _ us hl => match us, hl with | [_], _ => rfl
  have F17 := fun_mk (st := s__is_number) l17 c17 k17
  have b17 := F17.binds (ps := ["value", "low", "high"]) fun _ _ _ _ _ _ us hl => match us, hl with | [_, _, _], _ => rfl
  have F18 := fun_mk (st := s_NoRule___init__) l18 c18 k18
  have b18 := F18.binds (ps := ["self", "field"]) fun _ _ _ _ _ _ us hl => match us, hl with | [_, _], _ => rfl
  have F19 := fun_mk (st := s__check) l19 c19 k19
  have b19 := F19.binds (ps := ["field", "value"]) fun _ _ _ _ _ _ us hl => match us, hl with | [_, _], _ => rfl
  have F20 := fun_mk (st := s_Rule_most) l20 c20 k20
  have b20 := F20.binds (ps := ["self"]) fun _ _ _ _ _ _ us hl => match us, hl with | [_], _ => rfl
  have F21 := fun_mk (st := s_Rule_alone) l21 c21 k21
  have b21 := F21.binds (ps := ["self"]) fun _ _ _ _ _ _ us hl => match us, hl with | [_], _ => rfl
  have F22 := fun_mk (st := s_Rule_tags) l22 c22 k22
  have b22 := F22.binds (ps := ["self"]) fun _ _ _ _ _ _ us hl => match us, hl with | [_], _ => rfl
  have F23 := fun_mk (st := s_Rule_quiet) l23 c23 k23
  have b23 := F23.binds (ps := ["self"]) fun _ _ _ _ _ _ us hl => match us, hl with | [_], _ => rfl
  have F24 := fun_mk (st := s_Rule_most__set) l24 c24 k24
  have b24 := F24.binds (ps := ["self", "value"]) fun _ _ _ _ _ _ us hl => match us, hl with | [_, _], _ => rfl
  have F25 := fun_mk (st := s_Rule_alone__set) l25 c25 k25
  have b25 := F25.binds (ps := ["self", "value"]) fun _ _ _ _ _ _ us hl => match us, hl with | [_, _], _ => rfl
  have F26 := fun_mk (st := s_Rule_tags__set) l26 c26 k26
  have b26 := F26.binds (ps := ["self", "value"]) fun _ _ _ _ _ _ us hl => match us, hl with | [_, _], _ => rfl
  have F27 := fun_mk (st := s_Rule_quiet__set) l27 c27 k27
  have b27 := F27.binds (ps := ["self", "value"]) fun _ _ _ _ _ _ us hl => match us, hl with | [_, _], _ => rfl
  have F28 := fun_mk (st := s_Rule_begins) l28 c28 k28
  have b28 := F28.binds (ps := ["self"]) fun _ _ _ _ _ _ us hl => match us, hl with | [_], _ => rfl
  have F29 := fun_mk (st := s_Rule_ends) l29 c29 k29
  have b29 := F29.binds (ps := ["self"]) fun _ _ _ _ _ _ us hl => match us, hl with | [_], _ => rfl
  have F30 := fun_mk (st := s_Form___str__) l30 c30 k30
  have b30 := F30.binds (ps := ["self"]) fun _ _ _ _ _ _ us hl => match us, hl with | [_], _ => rfl
  have F31 := fun_mk (st := s_Rule___init__) l31 c31 k31
  have F32 := fun_mk (st := s_Rule_change) l32 c32 k32
  have F33 := fun_mk (st := s_assign) l33 c33 k33
  have b33 := F33.binds (ps := ["rule", "field", "value"]) fun _ _ _ _ _ _ us hl => match us, hl with | [_, _, _], _ => rfl
  have F34 := fun_mk (st := s__law_value) l34 c34 k34
  have b34 := F34.binds (ps := ["pool", "k"]) fun _ _ _ _ _ _ us hl => match us, hl with | [_, _], _ => rfl
  have F35 := fun_mk (st := s__law_good) l35 c35 k35
  have b35 := F35.binds (ps := ["k", "value"]) fun _ _ _ _ _ _ us hl => match us, hl with | [_, _], _ => rfl
  have F36 := fun_mk (st := s__law_fields) l36 c36 k36
  have b36 := F36.binds (ps := []) fun _ _ _ _ _ _ us hl => match us, hl with | [], _ => rfl
  have F37 := fun_mk (st := s__law_due) l37 c37 k37
  have b37 := F37.binds (ps := ["values", "asked"]) fun _ _ _ _ _ _ us hl => match us, hl with | [_, _], _ => rfl
  have F38 := fun_mk (st := s__law_same) l38 c38 k38
  have b38 := F38.binds (ps := ["one", "other"]) fun _ _ _ _ _ _ us hl => match us, hl with | [_, _], _ => rfl
  have F39 := fun_mk (st := s__law_tells) l39 c39 k39
  have b39 := F39.binds (ps := ["rule", "values", "begins", "ends"]) fun _ _ _ _ _ _ us hl => match us, hl with | [_, _, _, _], _ => rfl
  have F40 := fun_mk (st := s__law_refused) l40 c40 k40
  have b40 := F40.binds (ps := ["begins", "ends", "values"]) fun _ _ _ _ _ _ us hl => match us, hl with | [_, _, _], _ => rfl
  have F41 := fun_mk (st := s__law_below) l41 c41 k41
  have b41 := F41.binds (ps := ["begins", "ends", "values"]) fun _ _ _ _ _ _ us hl => match us, hl with | [_, _, _], _ => rfl
  have F42 := fun_mk (st := s__law_change) l42 c42 k42
  have b42 := F42.binds (ps := ["rule", "values", "asked"]) fun _ _ _ _ _ _ us hl => match us, hl with | [_, _, _], _ => rfl
  have F43 := fun_mk (st := s__law_strange) l43 c43 k43
  have b43 := F43.binds (ps := ["rule", "value"]) fun _ _ _ _ _ _ us hl => match us, hl with | [_, _], _ => rfl
  have F44 := fun_mk (st := s__law_assigned) l44 c44 k44
  have b44 := F44.binds (ps := ["rule", "field", "value"]) fun _ _ _ _ _ _ us hl => match us, hl with | [_, _, _], _ => rfl
  have F45 := fun_mk (st := s__law_assigns) l45 c45 k45
  have b45 := F45.binds (ps := ["pool", "rule", "values", "begins", "ends"]) fun _ _ _ _ _ _ us hl => match us, hl with | [_, _, _, _, _], _ => rfl
  have F46 := fun_mk (st := s__law_changes) l46 c46 k46
  have b46 := F46.binds (ps := ["pool", "rule", "values", "begins", "ends"]) fun _ _ _ _ _ _ us hl => match us, hl with | [_, _, _, _, _], _ => rfl
  have F47 := fun_mk (st := s__law_rules) l47 c47 k47
  have b47 := F47.binds (ps := ["pool", "begins", "ends", "values"]) fun _ _ _ _ _ _ us hl => match us, hl with | [_, _, _, _], _ => rfl
  have F48 := fun_mk (st := s_law) l48 c48 k48
  refine ⟨PySem.W.fnOf "law" "law" (defArgs s_law) (defBody s_law) (defScope s_law) .none kV48 dc48 pm48 an48 cd48 ct48, fun s v => .of_eq rfl, fun base _ _ => ?_⟩
  have D__law_take : Df l.prog w K mg base "_law_take" ["pool", "many"] 1 spTake := ⟨f0, _, PySem.W.mg_of X G a0, k0, b0, ok__law_take F0 T⟩
  have D__law_pool : Df l.prog w K mg base "_law_pool" ["script", "k"] 1 (spPool K) := ⟨f1, _, PySem.W.mg_of X G a1, k1, b1, ok__law_pool F1 T⟩
  have D__law_all_signs : Df l.prog w K mg base "_law_all_signs" [] 1 (spK (.str signsS)) := ⟨f2, _, PySem.W.mg_of X G a2, k2, b2, ok__law_all_signs F2⟩
  have D_is_line : Df l.prog w K mg base "is_line" ["thing"] 1 (spIsLine K) := ⟨f3, _, PySem.W.mg_of X G a3, k3, b3, ok_is_line F3 T⟩
  have D__takes : Df l.prog w K mg base "_takes" ["cell", "sign"] 1 spTakes := ⟨f4, _, PySem.W.mg_of X G a4, k4, b4, ok__takes F4 T⟩
  have D__closed : Df l.prog w K mg base "_closed" ["cells", "positions"] 1 (spClosed K) := ⟨f5, _, PySem.W.mg_of X G a5, k5, b5, ok__closed F5 T⟩
  have D_started : Df l.prog w K mg base "started" ["cells"] 2 (spStarted K) := ⟨f6, _, PySem.W.mg_of X G a6, k6, b6, ok_started F6 T D__closed⟩
  have D_moved : Df l.prog w K mg base "moved" ["cells", "positions", "sign"] 2 (spMoved K) := ⟨f7, _, PySem.W.mg_of X G a7, k7, b7, ok_moved F7 T D__takes D__closed⟩
  have D_is_done : Df l.prog w K mg base "is_done" ["cells", "positions"] 1 (spIsDone K) := ⟨f8, _, PySem.W.mg_of X G a8, k8, b8, ok_is_done F8 T⟩
  have D_cells_of : Df l.prog w K mg base "cells_of" ["parts"] 1 (spCells K) := ⟨f9, _, PySem.W.mg_of X G a9, k9, b9, ok_cells_of F9 T⟩
  have D_cells_of__t : Df l.prog w K mg base "cells_of" ["parts"] 1 (spCellsT K) := ⟨f9, _, PySem.W.mg_of X G a9, k9, b9, ok_cells_of__t F9 T⟩
  have D__law_text : Df l.prog w K mg base "_law_text" ["pool"] 2 (spPT lawText) := ⟨f10, _, PySem.W.mg_of X G a10, k10, b10, ok__law_text F10 T D__law_take D__law_all_signs⟩
  have D__law_parts : Df l.prog w K mg base "_law_parts" ["pool"] 3 spRich := ⟨f11, _, PySem.W.mg_of X G a11, k11, b11, ok__law_parts F11 T D__law_take D__law_text⟩
  have D__is_allowed : Df l.prog w K mg base "_is_allowed" ["parts", "at"] 2 (spAllowed K) := ⟨f12, _, PySem.W.mg_of X G a12, k12, b12, ok__is_allowed F12 T D_is_line⟩
  have D_Form___init__ : DfS l.prog w K mg base "Form" C_Form 3 (spForm C_Form) := ⟨f13, ⟨mk_Form, a13, i13, kc_Form⟩, PySem.W.mg_of X G aC_Form, ok_Form___init__ F13 T D__is_allowed D_cells_of__t⟩
  have D_Form_parts : DfM l.prog w K mg base C_Form "parts" ["self"] 1 (spParts C_Form) := ⟨f14, _, ⟨a14, i14, k14⟩, b14, ok_Form_parts F14 T⟩
  have D_Form___contains__ : DfC l.prog w K mg base C_Form "__contains__" ["self", "line"] 3 (spIn C_Form) := ⟨f15, _, a15, j15, b15, ok_Form___contains__ F15 T D_is_line D_started D_moved D_is_done⟩
  have D__law_form : Df l.prog w K mg base "_law_form" ["parts"] 5 (spLawForm K C_Form) := ⟨f16, _, PySem.W.mg_of X G a16, k16, b16, ok__law_form F16 T D_Form___init__⟩
  have D__is_number : Df l.prog w K mg base "_is_number" ["value", "low", "high"] 1 spIsNum := ⟨f17, _, PySem.W.mg_of X G a17, k17, b17, ok__is_number F17 T⟩
  have D_NoRule___init__ : DfX l.prog w K mg base "NoRule" C_NoRule ["self", "field"] 1 (spXI C_NoRule "field") := ⟨f18, _, T.x_NoRule.o, a18, j18, PySem.W.mg_of X G aC_NoRule, b18, ok_NoRule___init__ F18 T⟩
  have D__check : DfR l.prog w K mg base "_check" ["field", "value"] 3 (spCheckX C_NoRule) := ⟨f19, _, PySem.W.mg_of X G a19, k19, b19, okx__check F19 T D__is_number D_NoRule___init__⟩
  have D_Rule_most : DfP l.prog w K mg base C_Rule "most" 1 (getSp C_Rule "_most") := ⟨p20, f20, _, ⟨a20, g20, t20, ⟨_, r20⟩⟩, b20, ok_Rule_most F20 T⟩
  have D_Rule_alone : DfP l.prog w K mg base C_Rule "alone" 1 (getSp C_Rule "_alone") := ⟨p21, f21, _, ⟨a21, g21, t21, ⟨_, r21⟩⟩, b21, ok_Rule_alone F21 T⟩
  have D_Rule_tags : DfP l.prog w K mg base C_Rule "tags" 1 (getSp C_Rule "_tags") := ⟨p22, f22, _, ⟨a22, g22, t22, ⟨_, r22⟩⟩, b22, ok_Rule_tags F22 T⟩
  have D_Rule_quiet : DfP l.prog w K mg base C_Rule "quiet" 1 (getSp C_Rule "_quiet") := ⟨p23, f23, _, ⟨a23, g23, t23, ⟨_, r23⟩⟩, b23, ok_Rule_quiet F23 T⟩
  have D_Rule_most__set : DfPS l.prog w K mg base C_Rule "most" 4 (spSetX C_Rule C_NoRule 0) := ⟨p24, f24, _, a24, t24, ⟨_, _, r24⟩, b24, okx_Rule_most__set F24 T D__check⟩
  have D_Rule_alone__set : DfPS l.prog w K mg base C_Rule "alone" 4 (spSetX C_Rule C_NoRule 1) := ⟨p25, f25, _, a25, t25, ⟨_, _, r25⟩, b25, okx_Rule_alone__set F25 T D__check⟩
  have D_Rule_tags__set : DfPS l.prog w K mg base C_Rule "tags" 4 (spSetX C_Rule C_NoRule 2) := ⟨p26, f26, _, a26, t26, ⟨_, _, r26⟩, b26, okx_Rule_tags__set F26 T D__check⟩
  have D_Rule_quiet__set : DfPS l.prog w K mg base C_Rule "quiet" 4 (spSetX C_Rule C_NoRule 3) := ⟨p27, f27, _, a27, t27, ⟨_, _, r27⟩, b27, okx_Rule_quiet__set F27 T D__check⟩
  have D_Rule_begins : DfM l.prog w K mg base C_Rule "begins" ["self"] 1 (spMarks C_Rule true) := ⟨f28, _, ⟨a28, i28, k28⟩, b28, ok_Rule_begins F28 T⟩
  have D_Rule_ends : DfM l.prog w K mg base C_Rule "ends" ["self"] 1 (spMarks C_Rule false) := ⟨f29, _, ⟨a29, i29, k29⟩, b29, ok_Rule_ends F29 T⟩
  have D_Form___str__ : DfSt l.prog w K mg base C_Form ["self"] 1 (spStrF C_Form) := ⟨f30, _, ⟨⟨a30, i30⟩, fm_Form, ob_Form⟩, b30, ok_Form___str__ F30 T⟩
  have B31 := kbn_defs (K := K) (D := kD31) (fd := PySem.W.fnOf "__init__" "Rule.__init__" (defArgs s_Rule___init__) (defBody s_Rule___init__) (defScope s_Rule___init__) .none (.ref kD31) dc31 pm31 an31 cd31 ct31) (ps := ["self", "begins", "ends", "most", "alone", "tags", "quiet"]) (n := 3) (qs := [("most", .none), ("alone", .bool true), ("tags", .none), ("quiet", .bool false)]) (dvs := [.non, .bl true, .non, .bl false]) (List.forall_mem_cons.2 ⟨y31, (List.forall_mem_cons.2 ⟨y31_1, (List.forall_mem_cons.2 ⟨y31_2, (List.forall_mem_cons.2 ⟨y31_3, (fun _ h => nomatch h)⟩)⟩)⟩)⟩) (.cons rfl (.cons rfl (.cons rfl (.cons rfl .nil)))) fun us h => match us, h with | [_, _, _], _ => ⟨_, ((nsGet kD31 "most" >>= _) >>= _), _, _, rfl, ⟨_, _, _, _, rfl, rfl, ⟨_, _, _, _, rfl, rfl, ⟨_, _, _, _, rfl, rfl, ⟨_, _, _, _, rfl, rfl, rfl⟩⟩⟩⟩, rfl⟩
  have D_Rule___init__ : DfIWX l.prog w K mg base "Rule" C_Rule 4 (spRuleW C_Rule C_NoRule K) := ⟨f31, ⟨mk_Rule, a31, i31, kc_Rule⟩, PySem.W.mg_of X G aC_Rule, fn_kwo (n := 3) (ks0 := ["most", "alone", "tags", "quiet"]) (okx_Rule___init__ F31 T D__check D_NoRule___init__) ⟨fun s us ws _ h1 h2 => match us, h1, ws, h2 with | [_, _, _], _, [_, _, _, _], _ => .of_eq rfl, fun r1 r2 => r1.append r2⟩ B31⟩
  have D_Rule_change : DfWX l.prog w K mg base C_Rule "change" 5 (fun ks zs vs H Q E => ks ∈ ksAll ∧ spW (spChgX C_Rule C_NoRule) ks zs vs H Q E) := ⟨f32, ⟨a32, i32, k32⟩, okx_Rule_change F32 T D__check D_NoRule___init__⟩
  have D_assign : DfR l.prog w K mg base "assign" ["rule", "field", "value"] 7 (spAsgX C_Rule C_NoRule) := ⟨f33, _, PySem.W.mg_of X G a33, k33, b33, okx_assign F33 T D_Rule_most__set D_Rule_alone__set D_Rule_tags__set D_Rule_quiet__set D_NoRule___init__⟩
  have D__law_value : Df l.prog w K mg base "_law_value" ["pool", "k"] 2 spVal := ⟨f34, _, PySem.W.mg_of X G a34, k34, b34, ok__law_value F34 T D__law_take⟩
  have D__law_good : Df l.prog w K mg base "_law_good" ["k", "value"] 1 spGood := ⟨f35, _, PySem.W.mg_of X G a35, k35, b35, ok__law_good F35 T⟩
  have D__law_fields : Df l.prog w K mg base "_law_fields" [] 1 spFields := ⟨f36, _, PySem.W.mg_of X G a36, k36, b36, ok__law_fields F36 T⟩
  have D__law_due : Df l.prog w K mg base "_law_due" ["values", "asked"] 2 spDue26 := ⟨f37, _, PySem.W.mg_of X G a37, k37, b37, ok__law_due F37 T D__law_good D__law_fields⟩
  have D__law_same : Df l.prog w K mg base "_law_same" ["one", "other"] 1 spSame := ⟨f38, _, PySem.W.mg_of X G a38, k38, b38, ok__law_same F38 T⟩
  have D__law_tells : Df l.prog w K mg base "_law_tells" ["rule", "values", "begins", "ends"] 4 (spTells C_Rule C_Form) := ⟨f39, _, PySem.W.mg_of X G a39, k39, b39, ok__law_tells F39 T D_Rule_most D_Rule_alone D_Rule_tags D_Rule_quiet D__law_same D_Rule_begins D_Rule_ends D_Form___str__⟩
  have D__law_refused : Df l.prog w K mg base "_law_refused" ["begins", "ends", "values"] 7 spRef26 := ⟨f40, _, PySem.W.mg_of X G a40, k40, b40, ok__law_refused F40 T D_Rule___init__⟩
  have D__law_below : Df l.prog w K mg base "_law_below" ["begins", "ends", "values"] 7 spBel26 := ⟨f41, _, PySem.W.mg_of X G a41, k41, b41, ok__law_below F41 T D_Rule___init__⟩
  have D__law_change : Df l.prog w K mg base "_law_change" ["rule", "values", "asked"] 7 (spChange26 C_Rule) := ⟨f42, _, PySem.W.mg_of X G a42, k42, b42, ok__law_change F42 T D_Rule_change⟩
  have D__law_strange : Df l.prog w K mg base "_law_strange" ["rule", "value"] 7 (spStrange C_Rule) := ⟨f43, _, PySem.W.mg_of X G a43, k43, b43, ok__law_strange F43 T D_Rule_change⟩
  have D__law_assigned : Df l.prog w K mg base "_law_assigned" ["rule", "field", "value"] 8 (spAsgd C_Rule) := ⟨f44, _, PySem.W.mg_of X G a44, k44, b44, ok__law_assigned F44 T D_assign⟩
  have D__law_assigns : Df l.prog w K mg base "_law_assigns" ["pool", "rule", "values", "begins", "ends"] 9 (spAssigns C_Rule C_Form) := ⟨f45, _, PySem.W.mg_of X G a45, k45, b45, ok__law_assigns F45 T D__law_take D__law_value D__law_due D__law_fields D__law_assigned D__law_tells⟩
  have D__law_changes : Df l.prog w K mg base "_law_changes" ["pool", "rule", "values", "begins", "ends"] 10 (spChanges C_Rule C_Form) := ⟨f46, _, PySem.W.mg_of X G a46, k46, b46, ok__law_changes F46 T D__law_take D__law_value D__law_due D__law_assigns D__law_change D__law_strange D__law_tells⟩
  have D__law_rules : Df l.prog w K mg base "_law_rules" ["pool", "begins", "ends", "values"] 11 (spRules26 C_Form) := ⟨f47, _, PySem.W.mg_of X G a47, k47, b47, ok__law_rules F47 T D_Form___str__ D_Rule___init__ D_Form___init__ D_Rule_begins D_Rule_ends D__law_tells D__law_changes⟩
  exact ok_law F48 T D__law_pool D__law_take D__law_parts D__law_form D__law_value D__law_due D__law_refused D__law_rules D__law_below
theorem walk {l : PySem.W.OpenLaw} {q : Program} {loose : List Str} {XP : (Str → Option Value) → Heap → Prop} {YP : World → Heap → Prop} {d : DefRec} {K : Params → PySem.W.Frag} (hn : l.most = some 63) (hdf : d.params.defaults = [])
    (hY : ∀ (w : World) (h : Heap), YP w h → (K w.params).In h)
    (F : ∀ (w : World) (mg : Str → Option Value) (fa : Addr) (h : Heap), (K w.params).In h → h.Ns mainGlobals mg → mg d.name = some (.ref fa) →
      ∃ fd : FuncData, (∀ (s : Shared) (u : Value), BindsTo s fd ⟨[u], []⟩ [("script", u)]) ∧ ∀ base : Heap, (K w.params).In base → base.Ns mainGlobals mg → FnOk l.prog w (K w.params) mg base CX0 12 fa fd ["script"] (spLaw (K w.params))) :
    PySem.W.WalkO q loose XP YP l.row.toRowW d [] (fun f vs => PySem.call f vs) :=
  L2.walk_of (n := 63) (k := 12) (x := "script") (CX := fun _ => CX0) (sp := fun w => spLaw (K w.params)) hn (by decide) hdf ⟨rfl, by decide, by decide⟩ hY F (fun _ _ a ns hl _ hS => ⟨a, ns, rfl, hS, hl, fun _ => rfl⟩) fun _ _ _ _ _ z => z
end Q

open PySem PySem.W PyProof.Rows in
set_option maxRecDepth 100000 in
set_option maxHeartbeats 0 in
theorem PySem.Challenge.cw_gluedlines_k26_rules_made_and_changed_holds : PySem.Challenge.rw_gluedlines_k26_rules_made_and_changed.Holds := by
  w_on; o_law; k_head; (case hw => w_witness2)
  k_fill
  refine Q.walk (l := PySem.Challenge.rw_gluedlines_k26_rules_made_and_changed) rfl rfl (fun w h Y => PySem.W.kIn_of Y) ?F
  case F =>
    intro w mg fa h KX G hmg
    refine' Q.all_mk KX G hmg ?a0 ?l0 ?c0 ?k0 ?a1 ?l1 ?c1 ?k1 ?a2 ?l2 ?c2 ?k2 ?a3 ?l3 ?c3 ?k3 ?a4 ?l4 ?c4 ?k4 ?a5 ?l5 ?c5 ?k5 ?a6 ?l6 ?c6 ?k6 ?a7 ?l7 ?c7 ?k7 ?a8 ?l8 ?c8 ?k8 ?a9 ?l9 ?c9 ?k9 ?a10 ?l10 ?c10 ?k10 ?a11 ?l11 ?c11 ?k11 ?a12 ?l12 ?c12 ?k12 ?a13 ?l13 ?c13 ?k13 ?i13 ?j13 ?a14 ?l14 ?c14 ?k14 ?i14 ?j14 ?a15 ?l15 ?c15 ?k15 ?i15 ?j15 ?a16 ?l16 ?c16 ?k16 ?a17 ?l17 ?c17 ?k17 ?a18 ?l18 ?c18 ?k18 ?i18 ?j18 ?a19 ?l19 ?c19 ?k19 ?a20 ?g20 ?t20 ?r20 ?l20 ?c20 ?k20 ?a21 ?g21 ?t21 ?r21 ?l21 ?c21 ?k21 ?a22 ?g22 ?t22 ?r22 ?l22 ?c22 ?k22 ?a23 ?g23 ?t23 ?r23 ?l23 ?c23 ?k23 ?a24 ?t24 ?r24 ?l24 ?c24 ?k24 ?a25 ?t25 ?r25 ?l25 ?c25 ?k25 ?a26 ?t26 ?r26 ?l26 ?c26 ?k26 ?a27 ?t27 ?r27 ?l27 ?c27 ?k27 ?a28 ?l28 ?c28 ?k28 ?i28 ?j28 ?a29 ?l29 ?c29 ?k29 ?i29 ?j29 ?a30 ?l30 ?c30 ?k30 ?i30 ?j30 ?fm_Form ?ob_Form ?a31 ?l31 ?c31 ?k31 ?y31 ?y31_1 ?y31_2 ?y31_3 ?i31 ?j31 ?a32 ?l32 ?c32 ?k32 ?i32 ?j32 ?a33 ?l33 ?c33 ?k33 ?a34 ?l34 ?c34 ?k34 ?a35 ?l35 ?c35 ?k35 ?a36 ?l36 ?c36 ?k36 ?a37 ?l37 ?c37 ?k37 ?a38 ?l38 ?c38 ?k38 ?a39 ?l39 ?c39 ?k39 ?a40 ?l40 ?c40 ?k40 ?a41 ?l41 ?c41 ?k41 ?a42 ?l42 ?c42 ?k42 ?a43 ?l43 ?c43 ?k43 ?a44 ?l44 ?c44 ?k44 ?a45 ?l45 ?c45 ?k45 ?a46 ?l46 ?c46 ?k46 ?a47 ?l47 ?c47 ?k47 ?a48 ?l48 ?c48 ?k48 ?z_ANY_SIGNS ?z_DIGIT_SIGNS ?z_FIELDS ?y_FIELDS ?z_LETTER_SIGNS ?z_MOST_LINES ?z_MOST_MARKS ?z_MOST_PARTS ?z_MOST_SIGNS ?z_MOST_TAGS ?z_OPEN_PARTS ?y_OPEN_PARTS ?z_SIGNS ?z_SOME_DIGITS ?z_SOME_LETTERS ?z_all ?z_bool ?z_int ?z_isinstance ?z_len ?z_list ?z_max ?z_min ?z_range ?z_str ?z_tuple ?aC_Form ?aC_GlueError ?aC_NoRule ?aC_Rule ?pg_Form ?hd_Form ?po_Form ?sa_Form ?mk_Form ?kc_Form ?n_Form__cells ?n_Form__parts ?pg_Rule ?hd_Rule ?po_Rule ?sa_Rule ?mk_Rule ?kc_Rule ?n_Rule__alone ?n_Rule__begins ?n_Rule__ends ?n_Rule__most ?n_Rule__quiet ?n_Rule__tags ?xl_GlueError ?xs_GlueError ?xg_GlueError ?xh_GlueError ?xe_GlueError ?xt_GlueError ?xk_GlueError ?xd_GlueError ?xi_GlueError ?xu_GlueError ?xa_GlueError ?xn_GlueError ?xp_GlueError ?xm_GlueError ?xl_NoRule ?xs_NoRule ?xg_NoRule ?xh_NoRule ?xe_NoRule ?xt_NoRule ?xk_NoRule ?xd_NoRule ?xi_NoRule ?xu_NoRule ?xa_NoRule ?xn_NoRule ?xp_NoRule ?xm_NoRule ?xf_NoRule_field ?q_g1 ?q_g2 ?q_g3 ?q_g4 ?q_gs
    (case aC_Form => k_is)
    (case aC_GlueError => k_is)
    (case aC_NoRule => k_is)
    (case aC_Rule => k_is)
    (case pg_Form => k_is)
    (case hd_Form => k_is)
    (case po_Form => k_is)
    (case sa_Form => k_is)
    (case mk_Form => k_is)
    (case kc_Form => k_is)
    (case n_Form__cells => k_is)
    (case n_Form__parts => k_is)
    (case pg_Rule => k_is)
    (case hd_Rule => k_is)
    (case po_Rule => k_is)
    (case sa_Rule => k_is)
    (case mk_Rule => k_is)
    (case kc_Rule => k_is)
    (case n_Rule__alone => k_is)
    (case n_Rule__begins => k_is)
    (case n_Rule__ends => k_is)
    (case n_Rule__most => k_is)
    (case n_Rule__quiet => k_is)
    (case n_Rule__tags => k_is)
    (case xl_GlueError => k_is)
    (case xs_GlueError => k_is)
    (case xg_GlueError => k_is)
    (case xh_GlueError => k_is)
    (case xe_GlueError => k_is)
    (case xt_GlueError => k_is)
    (case xk_GlueError => k_is)
    (case xd_GlueError => k_is)
    (case xi_GlueError => k_is)
    (case xu_GlueError => first | rfl | k_is)
    (case xa_GlueError => k_is)
    (case xn_GlueError => k_is)
    (case xp_GlueError => k_is)
    (case xm_GlueError => k_is)
    (case xl_NoRule => k_is)
    (case xs_NoRule => k_is)
    (case xg_NoRule => k_is)
    (case xh_NoRule => k_is)
    (case xe_NoRule => k_is)
    (case xt_NoRule => k_is)
    (case xk_NoRule => k_is)
    (case xd_NoRule => k_is)
    (case xi_NoRule => k_is)
    (case xu_NoRule => first | rfl | k_is)
    (case xa_NoRule => k_is)
    (case xn_NoRule => k_is)
    (case xp_NoRule => k_is)
    (case xm_NoRule => k_is)
    (case xf_NoRule_field => k_is)
    (case a0 => k_is)
    (case l0 => k_is)
    (case c0 => k_is)
    (case k0 => k_is)
    (case a1 => k_is)
    (case l1 => k_is)
    (case c1 => k_is)
    (case k1 => k_is)
    (case a2 => k_is)
    (case l2 => k_is)
    (case c2 => k_is)
    (case k2 => k_is)
    (case a3 => k_is)
    (case l3 => k_is)
    (case c3 => k_is)
    (case k3 => k_is)
    (case a4 => k_is)
    (case l4 => k_is)
    (case c4 => k_is)
    (case k4 => k_is)
    (case a5 => k_is)
    (case l5 => k_is)
    (case c5 => k_is)
    (case k5 => k_is)
    (case a6 => k_is)
    (case l6 => k_is)
    (case c6 => k_is)
    (case k6 => k_is)
    (case a7 => k_is)
    (case l7 => k_is)
    (case c7 => k_is)
    (case k7 => k_is)
    (case a8 => k_is)
    (case l8 => k_is)
    (case c8 => k_is)
    (case k8 => k_is)
    (case a9 => k_is)
    (case l9 => k_is)
    (case c9 => k_is)
    (case k9 => k_is)
    (case a10 => k_is)
    (case l10 => k_is)
    (case c10 => k_is)
    (case k10 => k_is)
    (case a11 => k_is)
    (case l11 => k_is)
    (case c11 => k_is)
    (case k11 => k_is)
    (case a12 => k_is)
    (case l12 => k_is)
    (case c12 => k_is)
    (case k12 => k_is)
    (case a13 => k_is)
    (case l13 => k_is)
    (case c13 => k_is)
    (case k13 => k_is)
    (case i13 => k_is)
    (case j13 => k_is)
    (case a14 => k_is)
    (case l14 => k_is)
    (case c14 => k_is)
    (case k14 => k_is)
    (case i14 => k_is)
    (case j14 => k_is)
    (case a15 => k_is)
    (case l15 => k_is)
    (case c15 => k_is)
    (case k15 => k_is)
    (case i15 => k_is)
    (case j15 => k_is)
    (case a16 => k_is)
    (case l16 => k_is)
    (case c16 => k_is)
    (case k16 => k_is)
    (case a17 => k_is)
    (case l17 => k_is)
    (case c17 => k_is)
    (case k17 => k_is)
    (case a18 => k_is)
    (case l18 => k_is)
    (case c18 => k_is)
    (case k18 => k_is)
    (case i18 => k_is)
    (case j18 => k_is)
    (case a19 => k_is)
    (case l19 => k_is)
    (case c19 => k_is)
    (case k19 => k_is)
    (case a20 => k_is)
    (case g20 => k_is)
    (case t20 => k_is)
    (case r20 => k_is)
    (case l20 => k_is)
    (case c20 => k_is)
    (case k20 => k_is)
    (case a21 => k_is)
    (case g21 => k_is)
    (case t21 => k_is)
    (case r21 => k_is)
    (case l21 => k_is)
    (case c21 => k_is)
    (case k21 => k_is)
    (case a22 => k_is)
    (case g22 => k_is)
    (case t22 => k_is)
    (case r22 => k_is)
    (case l22 => k_is)
    (case c22 => k_is)
    (case k22 => k_is)
    (case a23 => k_is)
    (case g23 => k_is)
    (case t23 => k_is)
    (case r23 => k_is)
    (case l23 => k_is)
    (case c23 => k_is)
    (case k23 => k_is)
    (case a24 => k_is)
    (case t24 => k_is)
    (case r24 => k_is)
    (case l24 => k_is)
    (case c24 => k_is)
    (case k24 => k_is)
    (case a25 => k_is)
    (case t25 => k_is)
    (case r25 => k_is)
    (case l25 => k_is)
    (case c25 => k_is)
    (case k25 => k_is)
    (case a26 => k_is)
    (case t26 => k_is)
    (case r26 => k_is)
    (case l26 => k_is)
    (case c26 => k_is)
    (case k26 => k_is)
    (case a27 => k_is)
    (case t27 => k_is)
    (case r27 => k_is)
    (case l27 => k_is)
    (case c27 => k_is)
    (case k27 => k_is)
    (case a28 => k_is)
    (case l28 => k_is)
    (case c28 => k_is)
    (case k28 => k_is)
    (case i28 => k_is)
    (case j28 => k_is)
    (case a29 => k_is)
    (case l29 => k_is)
    (case c29 => k_is)
    (case k29 => k_is)
    (case i29 => k_is)
    (case j29 => k_is)
    (case a30 => k_is)
    (case l30 => k_is)
    (case c30 => k_is)
    (case k30 => k_is)
    (case i30 => k_is)
    (case j30 => k_is)
    (case fm_Form => k_is)
    (case ob_Form => k_is)
    (case a31 => k_is)
    (case l31 => k_is)
    (case c31 => k_is)
    (case k31 => k_is)
    (case y31 => k_is)
    (case y31_1 => k_is)
    (case y31_2 => k_is)
    (case y31_3 => k_is)
    (case i31 => k_is)
    (case j31 => k_is)
    (case a32 => k_is)
    (case l32 => k_is)
    (case c32 => k_is)
    (case k32 => k_is)
    (case i32 => k_is)
    (case j32 => k_is)
    (case a33 => k_is)
    (case l33 => k_is)
    (case c33 => k_is)
    (case k33 => k_is)
    (case a34 => k_is)
    (case l34 => k_is)
    (case c34 => k_is)
    (case k34 => k_is)
    (case a35 => k_is)
    (case l35 => k_is)
    (case c35 => k_is)
    (case k35 => k_is)
    (case a36 => k_is)
    (case l36 => k_is)
    (case c36 => k_is)
    (case k36 => k_is)
    (case a37 => k_is)
    (case l37 => k_is)
    (case c37 => k_is)
    (case k37 => k_is)
    (case a38 => k_is)
    (case l38 => k_is)
    (case c38 => k_is)
    (case k38 => k_is)
    (case a39 => k_is)
    (case l39 => k_is)
    (case c39 => k_is)
    (case k39 => k_is)
    (case a40 => k_is)
    (case l40 => k_is)
    (case c40 => k_is)
    (case k40 => k_is)
    (case a41 => k_is)
    (case l41 => k_is)
    (case c41 => k_is)
    (case k41 => k_is)
    (case a42 => k_is)
    (case l42 => k_is)
    (case c42 => k_is)
    (case k42 => k_is)
    (case a43 => k_is)
    (case l43 => k_is)
    (case c43 => k_is)
    (case k43 => k_is)
    (case a44 => k_is)
    (case l44 => k_is)
    (case c44 => k_is)
    (case k44 => k_is)
    (case a45 => k_is)
    (case l45 => k_is)
    (case c45 => k_is)
    (case k45 => k_is)
    (case a46 => k_is)
    (case l46 => k_is)
    (case c46 => k_is)
    (case k46 => k_is)
    (case a47 => k_is)
    (case l47 => k_is)
    (case c47 => k_is)
    (case k47 => k_is)
    (case a48 => k_is)
    (case l48 => k_is)
    (case c48 => k_is)
    (case k48 => k_is)
    (case z_ANY_SIGNS => k_is)
    (case z_DIGIT_SIGNS => k_is)
    (case z_FIELDS => k_is)
    (case y_FIELDS => k_is)
    (case z_LETTER_SIGNS => k_is)
    (case z_MOST_LINES => k_is)
    (case z_MOST_MARKS => k_is)
    (case z_MOST_PARTS => k_is)
    (case z_MOST_SIGNS => k_is)
    (case z_MOST_TAGS => k_is)
    (case z_OPEN_PARTS => k_is)
    (case y_OPEN_PARTS => k_is)
    (case z_SIGNS => k_is)
    (case z_SOME_DIGITS => k_is)
    (case z_SOME_LETTERS => k_is)
    (case z_all => k_is)
    (case z_bool => k_is)
    (case z_int => k_is)
    (case z_isinstance => k_is)
    (case z_len => k_is)
    (case z_list => k_is)
    (case z_max => k_is)
    (case z_min => k_is)
    (case z_range => k_is)
    (case z_str => k_is)
    (case z_tuple => k_is)
    (case q_g1 => first | k_is | kit_is)
    (case q_g2 => first | k_is | kit_is)
    (case q_g3 => first | k_is | kit_is)
    (case q_g4 => first | k_is | kit_is)
    (case q_gs => first | k_is | kit_is)
