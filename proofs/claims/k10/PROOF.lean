import PyProof.Rows.All
import Wide.All
import OpenK.AllK
import Wide.FinOn
import HandS.ForMost
import HandS.Evl
import HandS.Style
import HandS.Wide
import HandS.IsInst
import HandS.Walk
import HandS.EndBits
import HandS.Conv
import HandS.More
import HandS.Star
import HandS.OwnEq
import HandS.ExcInit
import HandS.ExcField
import HandS.ExcOwn
import HandS.HotCalls
import HandS.WordsExc
import HandS.ClsMeth
import HandS.ExcIs
import KE.KExcIs
import HandS.Set
import HandS.Strs
import HandS.Zip
import KE.GoesMore
import KE.GoesZip
import KE.GoesEnum
import HandS.FStr
import HandS.Text
import KE.KOpsOwn
import KE.KFmtOwn
import KE.KCallOwn
import HandS.Dict
import HandS.SortInts
import KE.KDictSum
import KE.KDictList
import PyProof.Rows.SortShell
import HandS.SetBool
import OpenK.KOps
import OpenK.KMeth
import HandS.Replace
import HandS.ReplaceLit
import HandS.ReplaceList
import PySem.Challenge.RW_gluedlines_k10_shared_lines
set_option Elab.async false
set_option linter.all false
set_option maxRecDepth 100000
set_option maxHeartbeats 2000000
/-! Fw: what every law's proof here rests on: defs and constants at hand, a pool that draws change, texts walked, lists compared. -/
namespace Kz
open PySem PySem.Spec PyProof.Rows L2 Evl StX

/-! ### constants and defs of the text at hand -/
def Cst (mg : Str → Option Value) (x : Str) (v : V) : Prop := ∃ u, mg x = some u ∧ RelV v u
theorem pe_cst {X : Cx} {x : Str} {v : V} {pos : Pos} (h : Cst X.mg x v) (hg : Gl X x) (hd : (x == ("__debug__" : Str)) = false := by decide) : PE X (.Name x pos) (tC v) := by
  obtain ⟨u, hm, r⟩ := h
  exact pe_glob hg hm r hd
def Df (P : Program) (w : World) (K : PySem.W.Frag) (mg : Str → Option Value) (base : Heap) (x : Str) (ps : List Str) (k : Nat) (sp : Sp) : Prop :=
  ∃ (f : Addr) (fd : FuncData), mg x = some (.ref f) ∧ PySem.W.keepIn K (.ref f) = true ∧ Binds K fd ps [] ∧ FnOk P w K mg base CX0 k f fd ps sp
theorem pe_df {X : Cx} {k : Nat} {ps : List Str} {sp : Sp} {x : Str} {p pos : Pos} {e : Expr} {es : List Expr} {t : TA} (D : Df X.prog X.w X.K X.mg X.base x ps k sp) (hr : Room k X.A) (hg : Gl X x)
    (ha : PA X (e :: es) t) (hdb : (x == ("__debug__" : Str)) = false := by decide) (he : starEach (e :: es) X.env = (false, eval e X.env) :: starEach es X.env := by rfl) (hpl : (backTo pos (starEach es X.env)).any (·.1) = false := by rfl) :
    PE X (.Call (.Name x p) (e :: es) [] pos) (tCall sp [] E0 t) := by
  obtain ⟨f, fd, hm, hk, hb, F⟩ := D
  exact pe_call F hr hg hm hk hb .nil pass0 ha hdb he hpl
theorem pe_df0 {X : Cx} {k : Nat} {ps : List Str} {sp : Sp} {x : Str} {p pos : Pos} (D : Df X.prog X.w X.K X.mg X.base x ps k sp) (hr : Room k X.A) (hg : Gl X x)
    (hdb : (x == ("__debug__" : Str)) = false := by decide) : PE X (.Call (.Name x p) [] [] pos) (tCall sp [] E0 tNil) := by
  obtain ⟨f, fd, hm, hk, hb, F⟩ := D
  exact pe_call0 F hr hg hm hk hb .nil pass0 hdb

/-- a tuple that the text's top made -/
def WT (K : PySem.W.Frag) (a : Addr) (xs : List V) : Prop := ∃ (o : Obj) (its : Array Value) (n : Nat), K.lookup a = some o ∧ o.cls = .type "tuple" ∧ o.data = .seq its n ∧ its.size ≤ sizeLine ∧ Vals xs its.toList
theorem WT.at_ {K : PySem.W.Frag} {a : Addr} {xs : List V} {H : Hp} (h : WT K a xs) : SqT K H a xs := .inr h

/-! ### within a comprehension: the rules at the written part K itself -/
section
variable {X : Cx}
theorem op_in_seqK (K : PySem.W.Frag) (e : X.K = K) : OpR X (compareOp .In) (rIn K false) := e ▸ op_in_seq
theorem op_notIn_seqK (K : PySem.W.Frag) (e : X.K = K) : OpR X (compareOp .NotIn) (rIn K true) := e ▸ op_notIn_seq
theorem op_eqDK (K : PySem.W.Frag) (e : X.K = K) (hu : X.A.units + 64 < cLine) : OpR X (compareOp .Eq) (rEqD K) := e ▸ op_eqD hu
theorem op_neDK (K : PySem.W.Frag) (e : X.K = K) (hu : X.A.units + 64 < cLine) : OpR X (compareOp .NotEq) (rNeD K) := e ▸ op_neD hu
theorem ix_listK (K : PySem.W.Frag) (e : X.K = K) : IxR X (rIxL K) := e ▸ ix_list
theorem ix_tupK (K : PySem.W.Frag) (e : X.K = K) : IxR X (rIxT K) := e ▸ ix_tup
theorem call_len_seqK (K : PySem.W.Frag) (e : X.K = K) : CallR X (.builtin "len") (fun xs H Q => ∃ p ys, xs = [.ref p] ∧ (SqL K H p ys ∨ SqT K H p ys) ∧ Q (.int ys.length) H) := e ▸ call_len_seq
theorem call_isiK' (K : PySem.W.Frag) (e : X.K = K) : CallR X (.builtin "isinstance") (rIsi K) := e ▸ call_isi
theorem pi_listK {tg l : Expr} {tl : TE} (K : PySem.W.Frag) (e : X.K = K) (h : PE X l tl) : PI X tg l (iList K tl) := e ▸ pi_list h
theorem pi_tupK {tg l : Expr} {tl : TE} (K : PySem.W.Frag) (e : X.K = K) (h : PE X l tl) : PI X tg l (iTup K tl) := e ▸ pi_tup h
theorem call_isiTK (K : PySem.W.Frag) (e : X.K = K) : CallR X (.builtin "isinstance") (rIsiT K) := e ▸ call_isiT
end

/-! ### a pool that draws change: all else stays -/
def pl (s : Int × Int) : HO := .lst [.int s.1, .int s.2]
def hide (p : Addr) (H : Hp) : Hp := fun a => if a = p then none else H a
theorem hide_at {p : Addr} {H : Hp} : hide p H p = none := if_pos rfl
theorem hide_ne {p a : Addr} {H : Hp} (h : a ≠ p) : hide p H a = H a := if_neg h
theorem hide_some {p a : Addr} {H : Hp} {o : HO} (h : hide p H a = some o) : a ≠ p ∧ H a = some o := by
  by_cases e : a = p
  · rw [e, hide_at] at h
    cases h
  · rw [hide_ne e] at h
    exact ⟨e, h⟩
theorem hide_le {p : Addr} {H : Hp} : Ex (hide p H) H := fun _ _ h => (hide_some h).2
theorem hx_of {p : Addr} {H H' : Hp} (e : Ex H H') : Ex (hide p H) H' := hide_le.trans e
theorem hx_hide {p : Addr} {H H' : Hp} (e : Ex (hide p H) H') : Ex (hide p H) (hide p H') := fun a o h => by
  rw [hide_ne (hide_some h).1]
  exact e a o h
theorem hx_trans {p : Addr} {H H1 H2 : Hp} (a : Ex (hide p H) H1) (b : Ex (hide p H1) H2) : Ex (hide p H) H2 := (hx_hide a).trans b
theorem hx_upd {p : Addr} {H : Hp} {o : HO} : Ex (hide p H) (upd H p o) := fun a u h => by
  rw [upd_ne (hide_some h).1]
  exact (hide_some h).2

structure Kn (G : Hp) (p : Addr) (s : Int × Int) (H : Hp) : Prop where
  ex : Ex G H
  at_ : H p = some (pl s)
  fr : G p = none
theorem Kn.next {G H H' : Hp} {p : Addr} {s s' : Int × Int} (k : Kn G p s H) (e : Ex (hide p H) H') (h : H' p = some (pl s')) : Kn G p s' H' :=
  ⟨fun a o ha => e a o (by
    have ne : a ≠ p := fun z => by
      rw [z, k.fr] at ha
      cases ha
    rw [hide_ne ne]
    exact k.ex a o ha), h, k.fr⟩
theorem Kn.same {G H H' : Hp} {p : Addr} {s : Int × Int} (k : Kn G p s H) (e : Ex H H') : Kn G p s H' := k.next (hx_of e) (e p _ k.at_)
theorem Kn.here {H : Hp} {p : Addr} {s : Int × Int} (h : H p = some (pl s)) : Kn (hide p H) p s H := ⟨hide_le, h, hide_at⟩
/-- what is known besides -/
theorem Kn.more {G G' H : Hp} {p : Addr} {s : Int × Int} (k : Kn G p s H) (e : Ex G' H) (h : G' p = none) : Kn G' p s H := ⟨e, k.at_, h⟩

def EvP (te : TE) (σ : L2.St) (G : Hp) (p : Addr) (s : Int × Int) (v : V) (s' : Int × Int) : Prop := ∀ H, Kn G p s H → ∀ Q : VK, (∀ H', Ex (hide p H) H' → H' p = some (pl s') → Q v H') → te σ H Q
def EvAP (ta : TA) (σ : L2.St) (G : Hp) (p : Addr) (s : Int × Int) (vs : List V) (s' : Int × Int) : Prop := ∀ H, Kn G p s H → ∀ Q : List V → Hp → Prop, (∀ H', Ex (hide p H) H' → H' p = some (pl s') → Q vs H') → ta σ H Q
def EvTP (t : TT) (σ : L2.St) (G : Hp) (p : Addr) (s : Int × Int) (b : Bool) (s' : Int × Int) : Prop := ∀ H, Kn G p s H → ∀ Q : Bool → Hp → Prop, (∀ H', Ex (hide p H) H' → H' p = some (pl s') → Q b H') → t σ H Q
def SpP (sp : Sp) (vs : List V) (G : Hp) (p : Addr) (s : Int × Int) (v : V) (s' : Int × Int) : Prop := ∀ H, Kn G p s H → ∀ Q : VK, (∀ H', Ex (hide p H) H' → H' p = some (pl s') → Q v H') → ∀ E : XK, sp vs H Q E
section
variable {K : PySem.W.Frag} {σ : L2.St} {G H : Hp} {p : Addr} {s s1 s2 s3 : Int × Int} {ta tb te : TE} {t u : TT} {x y z v : V} {r : R2}
theorem EvP.of (h : Ev te σ G v) : EvP te σ G p s v s := fun H k Q q => h H k.ex Q fun H' e => q H' (hx_of e) (e p _ k.at_)
theorem EvTP.of {b : Bool} (h : EvT t σ G b) : EvTP t σ G p s b s := fun H k Q q => h H k.ex Q fun H' e => q H' (hx_of e) (e p _ k.at_)
theorem EvAP.of {ta : TA} {vs : List V} (h : EvA ta σ G vs) : EvAP ta σ G p s vs s := fun H k Q q => h H k.ex Q fun H' e => q H' (hx_of e) (e p _ k.at_)
theorem evp_op (ha : EvP ta σ G p s x s1) (hb : EvP tb σ G p s1 y s2) (hr : RV r x y G z) : EvP (tOp r ta tb) σ G p s z s2 := fun H k Q q =>
  ha H k _ fun H1 e1 h1 => hb H1 (k.next e1 h1) _ fun H2 e2 h2 => hr H2 ((k.next e1 h1).next e2 h2).ex Q fun H3 e3 => q H3 (hx_trans (hx_trans e1 e2) (hx_of e3)) (e3 p _ h2)
theorem evp_is {w : V} (h : EvP te σ G p s v s1) (e : v = w) : EvP te σ G p s w s1 := e ▸ h
theorem eap_cons {tr : TA} {vs : List V} (h : EvP ta σ G p s x s1) (hr : EvAP tr σ G p s1 vs s2) : EvAP (tCons ta tr) σ G p s (x :: vs) s2 := fun H k Q q =>
  h H k _ fun H1 e1 h1 => hr H1 (k.next e1 h1) _ fun H2 e2 h2 => q H2 (hx_trans e1 e2) h2
theorem eap_nil : EvAP tNil σ G p s [] s := EvAP.of ea_nil
theorem evp_call {sp : Sp} {E : XK} {ta : TA} {vs : List V} (h : EvAP ta σ G p s vs s1) (hs : SpP sp (vs ++ []) G p s1 z s2) : EvP (tCall sp [] E ta) σ G p s z s2 := fun H k Q q =>
  h H k _ fun H1 e1 h1 => hs H1 (k.next e1 h1) Q (fun H2 e2 h2 => q H2 (hx_trans e1 e2) h2) E
theorem evtp_test {b : Bool} (h : EvP te σ G p s (.bl b) s1) : EvTP (tTest te) σ G p s b s1 := fun H k Q q => h H k _ fun H1 e1 h1 => ⟨b, rfl, q H1 e1 h1⟩
theorem evtp_B {b : Bool} (h : EvP te σ G p s (.bl b) s1) : EvTP (tB te) σ G p s b s1 := fun H k Q q => h H k _ fun H1 e1 h1 => ⟨b, rfl, q H1 e1 h1⟩
theorem evtp_is {a b : Bool} (h : EvTP t σ G p s a s1) (e : a = b) : EvTP t σ G p s b s1 := e ▸ h
theorem evtp_or {a b : Bool} (h1 : EvTP t σ G p s a s1) (h2 : a = false → EvTP u σ G p s1 b s2) (h3 : a = true → s2 = s1) : EvTP (tOr t u) σ G p s (a || b) s2 := fun H k Q q => h1 H k _ fun H1 e1 g1 => by
  cases a with
  | true =>
    show Q true H1
    rw [h3 rfl] at q
    exact q H1 e1 g1
  | false =>
    show u σ H1 Q
    exact h2 rfl H1 (k.next e1 g1) Q fun H2 e2 g2 => q H2 (hx_trans e1 e2) g2
theorem evtp_and {a b : Bool} (h1 : EvTP t σ G p s a s1) (h2 : a = true → EvTP u σ G p s1 b s2) (h3 : a = false → s2 = s1) : EvTP (tAnd t u) σ G p s (a && b) s2 := fun H k Q q => h1 H k _ fun H1 e1 g1 => by
  cases a with
  | true =>
    show u σ H1 Q
    exact h2 rfl H1 (k.next e1 g1) Q fun H2 e2 g2 => q H2 (hx_trans e1 e2) g2
  | false =>
    show Q false H1
    rw [h3 rfl] at q
    exact q H1 e1 g1
theorem evtp_orI {a b : Bool} (h1 : EvTP t σ G p s a s1) (h2 : a = false → EvTP u σ G p s1 b s2) : EvTP (tOr t u) σ G p s (a || b) (if a = true then s1 else s2) := by
  cases a with
  | true => exact evtp_or h1 (fun z => by cases z) (fun _ => rfl)
  | false => exact evtp_or h1 (fun z => h2 z) (fun z => by cases z)
theorem evtp_andI {a b : Bool} (h1 : EvTP t σ G p s a s1) (h2 : a = true → EvTP u σ G p s1 b s2) : EvTP (tAnd t u) σ G p s (a && b) (if a = true then s2 else s1) := by
  cases a with
  | true => exact evtp_and h1 (fun z => h2 z) (fun z => by cases z)
  | false => exact evtp_and h1 (fun z => by cases z) (fun _ => rfl)
theorem evtp_not {a : Bool} (h1 : EvTP t σ G p s a s1) : EvTP (tNot t) σ G p s (!a) s1 := fun H k Q q => h1 H k _ fun H1 e1 g1 => q H1 e1 g1

/-! statements -/
variable {D : Ends} {tu tw tz : TS} {g : TG}
theorem sp_asg {i : Nat} (k : Kn G p s H) (h : EvP te σ G p s v s1) (nx : ∀ H', Kn G p s1 H' → Ex (hide p H) H' → D.nx (σ.set i (some v)) H') : tAsg te (gName i) D σ H := h H k _ fun H' e g => nx H' (k.next e g) e
theorem qp_asg {i : Nat} (k : Kn G p s H) (h : EvP te σ G p s v s1) (nx : ∀ H', Kn G p s1 H' → Ex (hide p H) H' → tz D (σ.set i (some v)) H') : tSeq (tAsg te (gName i)) tz D σ H := sp_asg (D := { D with nx := tz D }) k h nx
theorem sp_ret (k : Kn G p s H) (h : EvP te σ G p s v s1) (nx : ∀ H', Kn G p s1 H' → Ex (hide p H) H' → D.rt v H') : tRet te D σ H := h H k _ fun H' e g => nx H' (k.next e g) e
theorem sp_if {b : Bool} (k : Kn G p s H) (h : EvTP t σ G p s b s1) (h1 : b = true → ∀ H', Kn G p s1 H' → Ex (hide p H) H' → tu D σ H') (h2 : b = false → ∀ H', Kn G p s1 H' → Ex (hide p H) H' → tw D σ H') : tIfS t tu tw D σ H := h H k _ fun H' e g => by
  cases b with
  | true =>
    show tu D σ H'
    exact h1 rfl H' (k.next e g) e
  | false =>
    show tw D σ H'
    exact h2 rfl H' (k.next e g) e
theorem qp_if {b : Bool} (k : Kn G p s H) (h : EvTP t σ G p s b s1) (h1 : b = true → ∀ H', Kn G p s1 H' → Ex (hide p H) H' → tu { D with nx := tz D } σ H') (h2 : b = false → ∀ H', Kn G p s1 H' → Ex (hide p H) H' → tw { D with nx := tz D } σ H') : tSeq (tIfS t tu tw) tz D σ H :=
  sp_if (D := { D with nx := tz D }) k h h1 h2
theorem qp_when {b : Bool} (k : Kn G p s H) (h : EvTP t σ G p s b s1) (h1 : b = true → ∀ H', Kn G p s1 H' → Ex (hide p H) H' → tu { D with nx := tz D } σ H') (h2 : b = false → ∀ H', Kn G p s1 H' → Ex (hide p H) H' → tz D σ H') : tSeq (tIfS t tu tNext) tz D σ H :=
  sp_if (D := { D with nx := tz D }) k h h1 h2
theorem Kn.mut {l : Addr} {o : HO} (k : Kn G p s H) (h : G l = none) (ne : p ≠ l) : Kn G p s (upd H l o) := ⟨Ex.mut k.ex h, by rw [upd_ne ne]; exact k.at_, k.fr⟩
/-- xs.append(a draw) -/
theorem sp_app {K : PySem.W.Frag} {l : Addr} {i : Nat} {xs : List V} (k : Kn G p s H) (hl : H l = some (.lst xs)) (ne : l ≠ p) (hi : σ[i]? = some (some (.ref l))) (h : EvP te σ G p s v s1) (hz : xs.length < 100000) (nx : ∀ H', Kn G p s1 H' → Ex (hide p H) H' → D.nx σ (upd H' l (.lst (xs ++ [v])))) :
    tDrop (tBM K "list" rAppend (tVar i) (tCons te tNil)) D σ H := ⟨_, hi, Or.inl ⟨rfl, xs, sq_of hl⟩, h H k _ fun H' e g => ⟨l, xs, v, rfl, rfl, e l _ (by rw [hide_ne ne]; exact hl), sz_lt hz, nx H' (k.next e g) e⟩⟩
/-- a new list of draws -/
theorem qp_asgLst {ta : TA} {i : Nat} {vs : List V} (k : Kn G p s H) (h : EvAP ta σ G p s vs s1) (hl : vs.length ≤ 100000) (nx : ∀ l H', Kn G p s1 H' → Ex (hide p H) H' → H' l = some (.lst vs) → tz D (σ.set i (some (.ref l))) H') : tSeq (tAsg (tLst ta) (gName i)) tz D σ H :=
  h H k _ fun H' e g => ⟨sz_of hl, fun l nl => nx l _ ((k.next e g).same (Ex.new nl)) (e.trans (Ex.new nl)) upd_same⟩
theorem sp_forR1 {ta : TA} {j : Nat} {n : Int} (k : Kn G p s H) (h : EvAP ta σ G p s [.int n] s1) (hn : 0 ≤ n ∧ n ≤ 100000) (Pv : Nat → L2.St → Hp → Prop) (h0 : ∀ H1, Kn G p s1 H1 → Ex (hide p H) H1 → Pv 0 σ H1)
    (hs : ∀ (i : Nat) σ' H', (i : Int) < n → Pv i σ' H' → tu { D with nx := Pv (i + 1), ct := Pv (i + 1), bk := D.nx } (σ'.set j (some (.int (i : Int)))) H') (hd : ∀ σ' H', Pv n.toNat σ' H' → D.nx σ' H') : tFor (iRng1 ta) (gName j) tu D σ H :=
  h H k _ fun H1 e g1 => ⟨n, rfl, by omega, by omega, for_range (lo := 0) (n := n.toNat) Pv (h0 H1 (k.next e g1) e) (fun i σ' H' hi q => by
    have e0 : (0 : Int) + (i : Int) = (i : Int) := Int.zero_add _
    show tu { D with nx := Pv (i + 1), ct := Pv (i + 1), bk := D.nx } (σ'.set j (some (.int ((0 : Int) + (i : Int))))) H'
    rw [e0]
    exact hs i σ' H' (by omega) q) hd⟩
theorem qp_forR1 {ta : TA} {j : Nat} {n : Int} (k : Kn G p s H) (h : EvAP ta σ G p s [.int n] s1) (hn : 0 ≤ n ∧ n ≤ 100000) (Pv : Nat → L2.St → Hp → Prop) (h0 : ∀ H1, Kn G p s1 H1 → Ex (hide p H) H1 → Pv 0 σ H1)
    (hs : ∀ (i : Nat) σ' H', (i : Int) < n → Pv i σ' H' → tu { D with nx := Pv (i + 1), ct := Pv (i + 1), bk := tz D } (σ'.set j (some (.int (i : Int)))) H') (hd : ∀ σ' H', Pv n.toNat σ' H' → tz D σ' H') : tSeq (tFor (iRng1 ta) (gName j) tu) tz D σ H :=
  sp_forR1 (D := { D with nx := tz D }) k h hn Pv h0 hs hd
end

/-! ### values by operators -/
section
variable {K : PySem.W.Frag} {σ : L2.St} {G H : Hp} {ta tb te : TE} {t : TT} {x y z v : V} {r : R2}
theorem rv_add {i j : Int} : RV (rI0 fun i j => .int (i + j)) (.int i) (.int j) H (.int (i + j)) := rv_I0
theorem rv_mul {i j : Int} (h : (-(2 ^ 64) < i ∧ i < 2 ^ 64) ∨ (-(2 ^ 64) < j ∧ j < 2 ^ 64)) : RV (rI CMul fun i j => .int (i * j)) (.int i) (.int j) H (.int (i * j)) := rv_I h
theorem ev_neg {i : Int} (h : Ev te σ H (.int i)) : Ev (tUn (rU fun i => .int (-i)) te) σ H (.int (-i)) := ev_un h ru_neg
theorem at_last {xs : List V} (h : xs ≠ []) : atI xs (-1) = xs.getLast? := by
  have hl := List.length_pos_iff.mpr h
  unfold atI ixN
  rw [if_neg (by omega), if_pos (by omega), List.getLast?_eq_getElem?]
  show xs[((-1 : Int) + (xs.length : Int)).toNat]? = _
  congr 1
  omega
theorem rv_mod {i j : Int} (h : 0 < j) : RV (rI (fun _ j => 0 < j) fun i j => .int (i % j)) (.int i) (.int j) H (.int (i % j)) := rv_I h
theorem rv_div {i j : Int} (h : 0 < j) (h2 : j < 2 ^ 64) : RV (rI CDivW fun i j => .int (i / j)) (.int i) (.int j) H (.int (i / j)) := rv_I (wide_div (b := 64) h (by omega) (by decide) (by decide))
theorem rv_cat {a b : Str} (h : a.length + b.length ≤ 100000) : RV (fun x y H Q => ∃ i j, x = .str i ∧ y = .str j ∧ i.length + j.length ≤ sizeLine ∧ Q (.str (i ++ j)) H) (.str a) (.str b) H (.str (a ++ b)) :=
  fun H1 _ _ q => ⟨a, b, rfl, rfl, sz_of h, q H1 (Ex.refl H1)⟩
theorem rv_sgn {c : Nat} {z : Str} : RV (fun x y H Q => ∃ (c : Nat) (z : Str), x = .str ⟨#[c]⟩ ∧ y = .str z ∧ Q (.bl (decide (c ∈ z.cps.toList))) H) (.str ⟨#[c]⟩) (.str z) H (.bl (decide (c ∈ z.cps.toList))) :=
  fun H1 _ _ q => ⟨c, z, rfl, rfl, q H1 (Ex.refl H1)⟩
theorem rv_nsgn {c : Nat} {z : Str} : RV (fun x y H Q => ∃ (c : Nat) (z : Str), x = .str ⟨#[c]⟩ ∧ y = .str z ∧ Q (.bl (!decide (c ∈ z.cps.toList))) H) (.str ⟨#[c]⟩) (.str z) H (.bl (!decide (c ∈ z.cps.toList))) :=
  fun H1 _ _ q => ⟨c, z, rfl, rfl, q H1 (Ex.refl H1)⟩
theorem rv_notB {a b : Bool} : RV rNotB (.bl a) (.bl b) H (.bl (!decide (a = b))) := fun H1 _ _ q => ⟨a, b, rfl, rfl, q H1 (Ex.refl H1)⟩
theorem rv_isB {a b : Bool} : RV rIsB (.bl a) (.bl b) H (.bl (decide (a = b))) := fun H1 _ _ q => ⟨a, b, rfl, rfl, q H1 (Ex.refl H1)⟩
/-- int(n), int(truth) -/
theorem ev_int {i : Int} (h : Ev te σ H (.int i)) : Ev (tCB (fun xs H Q => (∃ i, xs = [.int i] ∧ Q (.int i) H) ∨ ∃ k, xs = [.bl k] ∧ Q (.int (if k then 1 else 0)) H) (tCons te tNil)) σ H (.int i) := fun H1 e Q q =>
  h H1 e _ fun H2 e2 => .inl ⟨i, rfl, q H2 e2⟩
theorem ev_intB {b : Bool} (h : Ev te σ H (.bl b)) : Ev (tCB (fun xs H Q => (∃ i, xs = [.int i] ∧ Q (.int i) H) ∨ ∃ k, xs = [.bl k] ∧ Q (.int (if k then 1 else 0)) H) (tCons te tNil)) σ H (.int (if b then 1 else 0)) := fun H1 e Q q =>
  h H1 e _ fun H2 e2 => .inr ⟨b, rfl, q H2 e2⟩
theorem ev_lenS {z : Str} (h : Ev te σ H (.str z)) (hz : z.length ≤ 100000) : Ev (tCB (fun xs H Q => ∃ z, xs = [.str z] ∧ z.length ≤ sizeLine ∧ Q (.int z.length) H) (tCons te tNil)) σ H (.int z.length) := fun H1 e Q q =>
  h H1 e _ fun H2 e2 => ⟨z, rfl, sz_of hz, q H2 e2⟩
theorem ev_lenL {p : Addr} {xs : List V} (h : Ev te σ H (.ref p)) (hx : SqL K H p xs) : Ev (tCB (fun xs H Q => ∃ p ys, xs = [.ref p] ∧ (SqL K H p ys ∨ SqT K H p ys) ∧ Q (.int ys.length) H) (tCons te tNil)) σ H (.int xs.length) := fun H1 e Q q =>
  h H1 e _ fun H2 e2 => ⟨p, xs, rfl, .inl (ex_l (e.trans e2) hx), q H2 e2⟩
theorem ev_min2 {i j : Int} (ha : Ev ta σ H (.int i)) (hb : Ev tb σ H (.int j)) : Ev (tCB (fun xs H Q => ∃ i j, xs = [.int i, .int j] ∧ Q (.int (if j < i then j else i)) H) (tCons ta (tCons tb tNil))) σ H (.int (if j < i then j else i)) := fun H1 e Q q =>
  ha H1 e _ fun H2 e2 => hb H2 (e.trans e2) _ fun H3 e3 => ⟨i, j, rfl, q H3 (e2.trans e3)⟩
theorem ev_max {i j : Int} (ha : Ev ta σ H (.int i)) (hb : Ev tb σ H (.int j)) : Ev (tCB (fun xs H Q => ∃ i j, xs = [.int i, .int j] ∧ Q (.int (if j > i then j else i)) H) (tCons ta (tCons tb tNil))) σ H (.int (if j > i then j else i)) := fun H1 e Q q =>
  ha H1 e _ fun H2 e2 => hb H2 (e.trans e2) _ fun H3 e3 => ⟨i, j, rfl, q H3 (e2.trans e3)⟩
theorem tyx_mono {H H' : Hp} {x : V} {t : Value} (e : Ex H H') (h : TyX K H x t) : TyX K H' x t := by
  cases h with
  | base b =>
    cases b with
    | non => exact .base .non
    | bl x => exact .base (.bl x)
    | int x => exact .base (.int x)
    | str x => exact .base (.str x)
    | flt x => exact .base (.flt x)
    | lst q => exact .base (.lst (e _ _ q))
    | frz q => exact .base (.frz (e _ _ q))
    | tup q => exact .base (.tup (e _ _ q))
    | dK q => exact .base (.dK (e _ _ q))
    | dT q => exact .base (.dT (e _ _ q))
    | ins q cl ha hn htk hm => exact .base (.ins (e _ _ q) cl ha hn htk hm)
  | byt b => exact .byt b
  | set q => exact .set (e _ _ q)
  | kList q c => exact .kList q c
  | kTuple q c => exact .kTuple q c
  | kDict q c => exact .kDict q c
  | fTuple q => exact .fTuple (e _ _ q)
  | fDict q => exact .fDict (e _ _ q)
/-- isinstance(x, T), T a built-in type -/
theorem ev_isi {a c : String} {b : Bool} (h : Ev te σ H x) (ty : TyX K H x (.type a)) (hk : kitB a c = some b) : Ev (tCB (rIsi K) (tCons te (tCons (tC (.ty c)) tNil))) σ H (.bl b) := fun H1 e Q q =>
  h H1 e _ fun H2 e2 => ⟨x, .ty c, .type a, .type c, b, rfl, .ty c, tyx_mono (e.trans e2) ty, kit_ty hk, q H2 e2⟩
/-- all(a new list of truths) -/
theorem ev_all {bs : List Bool} (h : EvL te σ H (bs.map V.bl)) : Ev (tCB (rAll K) (tCons te tNil)) σ H (.bl (bs.all id)) := fun H1 e Q q =>
  h H1 e _ fun p H2 _ e2 h2 => ⟨p, bs, rfl, sq_of h2, q H2 e2⟩
theorem ev_any {bs : List Bool} (h : EvL te σ H (bs.map V.bl)) : Ev (tCB (rAny K) (tCons te tNil)) σ H (.bl (bs.any id)) := fun H1 e Q q =>
  h H1 e _ fun p H2 _ e2 h2 => ⟨p, bs, rfl, sq_of h2, q H2 e2⟩
theorem et_yes : EvT tYes σ H true := fun H1 _ _ q => q H1 (Ex.refl H1)
/-- a comprehension over a text's signs -/
theorem el_lcS {zt : Str} {tl : TE} {j : Nat} {vs : List Nat} (f : Nat → Bool) (w : Nat → V) (h : Ev tl σ H (.str zt)) (hz : zt.cps.size ≤ 40000) (hw : ∀ x, wipe ((wipe σ vs).set j (some x)) vs = wipe σ vs)
    (ht : ∀ (i : Nat) (c : Nat) H1, Ex H H1 → zt.cps[i]? = some c → EvT t ((wipe σ vs).set j (some (.str ⟨#[c]⟩))) H1 (f i)) (he : ∀ (i : Nat) (c : Nat) H1, Ex H H1 → zt.cps[i]? = some c → f i = true → Ev te ((wipe σ vs).set j (some (.str ⟨#[c]⟩))) H1 (w i)) :
    EvL (tLc (iStr tl) (gName j) t te vs) σ H (given zt.cps.size f w) := fun H0 e Q q => h H0 e _ fun H1 e1 => ⟨zt, rfl, fun Dl hD =>
  lc_it walk_str (Cw H1 f w Dl) ⟨hD, Ex.new hD, upd_same⟩ (fun _ _ _ _ => trivial) (fun i x H' H'' hi pc y => by
    obtain ⟨rfl, c, hc, rfl⟩ := y
    exact ⟨hw _, cw_turn pc (by omega) (ht i c H1 (e.trans e1) hc) (fun hf => he i c H1 (e.trans e1) hc hf)⟩)
    (fun H' pc => q Dl H' (fresh_back e1 pc.1) (e1.trans pc.2.1) pc.2.2)⟩
/-- for c in text -/
theorem s_forS {zt : Str} {tl : TE} {j : Nat} {D : Ends} {tu : TS} (h : Ev tl σ H (.str zt)) (Pv : Nat → L2.St → Hp → Prop) (h0 : ∀ H1, Ex H H1 → Pv 0 σ H1)
    (hs : ∀ (i : Nat) (c : Nat) σ' H', zt.cps[i]? = some c → Pv i σ' H' → tu { D with nx := Pv (i + 1), ct := Pv (i + 1), bk := D.nx } (σ'.set j (some (.str ⟨#[c]⟩))) H') (hd : ∀ σ' H', Pv zt.cps.size σ' H' → D.nx σ' H') : tFor (iStr tl) (gName j) tu D σ H :=
  h H (Ex.refl H) _ fun H1 e => ⟨zt, rfl, for_it walk_str Pv (h0 H1 e) (fun _ _ _ _ _ => trivial) (fun i x σ' H' H'' hi pc y => by
    obtain ⟨rfl, c, hc, rfl⟩ := y
    exact hs i c σ' H'' hc pc) hd⟩
theorem q_forS {zt : Str} {tl : TE} {j : Nat} {D : Ends} {tu tz : TS} (h : Ev tl σ H (.str zt)) (Pv : Nat → L2.St → Hp → Prop) (h0 : ∀ H1, Ex H H1 → Pv 0 σ H1)
    (hs : ∀ (i : Nat) (c : Nat) σ' H', zt.cps[i]? = some c → Pv i σ' H' → tu { D with nx := Pv (i + 1), ct := Pv (i + 1), bk := tz D } (σ'.set j (some (.str ⟨#[c]⟩))) H') (hd : ∀ σ' H', Pv zt.cps.size σ' H' → tz D σ' H') : tSeq (tFor (iStr tl) (gName j) tu) tz D σ H :=
  s_forS (D := { D with nx := tz D }) h Pv h0 hs hd

theorem rv_eqI {i j : Int} : RV rEq (.int i) (.int j) H (.bl (decide (i = j))) := fun H1 e Q q => rv_eq (H := H) (x := .int i) (y := .int j) rfl H1 e Q fun H2 e2 => by
  rw [dec_int, show (i == j) = decide (i = j) from rfl]
  exact q H2 e2
theorem rv_neI {i j : Int} : RV rNe (.int i) (.int j) H (.bl (!decide (i = j))) := fun H1 e Q q => rv_ne (H := H) (x := .int i) (y := .int j) rfl H1 e Q fun H2 e2 => by
  rw [dec_int, show (i == j) = decide (i = j) from rfl]
  exact q H2 e2
theorem rv_eqS {i j : Str} : RV rEq (.str i) (.str j) H (.bl (decide (i = j))) := fun H1 e Q q => rv_eq (H := H) (x := .str i) (y := .str j) rfl H1 e Q fun H2 e2 => by
  rw [show decide (V.str i = V.str j) = decide (i = j) from by by_cases h : i = j <;> simp [h]]
  exact q H2 e2
theorem rv_neS {i j : Str} : RV rNe (.str i) (.str j) H (.bl (!decide (i = j))) := fun H1 e Q q => rv_ne (H := H) (x := .str i) (y := .str j) rfl H1 e Q fun H2 e2 => by
  rw [show decide (V.str i = V.str j) = decide (i = j) from by by_cases h : i = j <;> simp [h]]
  exact q H2 e2
theorem rv_neB {i j : Bool} : RV rNe (.bl i) (.bl j) H (.bl (!decide (i = j))) := fun H1 e Q q => rv_ne (H := H) (x := .bl i) (y := .bl j) rfl H1 e Q fun H2 e2 => by
  rw [show decide (V.bl i = V.bl j) = decide (i = j) from by by_cases h : i = j <;> simp [h]]
  exact q H2 e2
theorem rv_eqB {i j : Bool} : RV rEq (.bl i) (.bl j) H (.bl (decide (i = j))) := fun H1 e Q q => rv_eq (H := H) (x := .bl i) (y := .bl j) rfl H1 e Q fun H2 e2 => by
  rw [show decide (V.bl i = V.bl j) = decide (i = j) from by by_cases h : i = j <;> simp [h]]
  exact q H2 e2
/-- a comprehension's list by places is one by items -/
theorem given_eq {α : Type} (l : List α) (d : α) (F : α → Bool) (W : α → V) : given l.length (fun i => F (l.getD i d)) (fun i => W (l.getD i d)) = (l.filter F).map W := by
  have e : l = (List.range l.length).map fun i => l.getD i d := by
    apply List.ext_getElem
    · simp
    · intro i h1 h2
      simp [h1]
  unfold given
  conv => rhs; rw [e, List.filter_map, List.map_map]
  rfl
theorem codes_at {zt : Str} {i c : Nat} (h : zt.cps[i]? = some c) : zt.cps.toList.getD i 0 = c ∧ c ∈ zt.cps.toList := by
  have h2 : zt.cps.toList[i]? = some c := by
    rw [← h]
    simp
  exact ⟨by rw [List.getD_eq_getElem?_getD, h2]; rfl, List.mem_of_getElem? h2⟩
/-- a comprehension over a text, said sign by sign -/
theorem el_lcT {zt : Str} {tl : TE} {j : Nat} {vs : List Nat} (F : Nat → Bool) (W : Nat → V) (h : Ev tl σ H (.str zt)) (hz : zt.length ≤ 40000) (hw : ∀ x, wipe ((wipe σ vs).set j (some x)) vs = wipe σ vs)
    (ht : ∀ (c : Nat) H1, Ex H H1 → c ∈ zt.cps.toList → EvT t ((wipe σ vs).set j (some (.str ⟨#[c]⟩))) H1 (F c)) (he : ∀ (c : Nat) H1, Ex H H1 → c ∈ zt.cps.toList → F c = true → Ev te ((wipe σ vs).set j (some (.str ⟨#[c]⟩))) H1 (W c)) :
    EvL (tLc (iStr tl) (gName j) t te vs) σ H ((zt.cps.toList.filter F).map W) := by
  have e := el_lcS (σ := σ) (H := H) (te := te) (t := t) (zt := zt) (tl := tl) (j := j) (vs := vs) (fun i => F (zt.cps.toList.getD i 0)) (fun i => W (zt.cps.toList.getD i 0)) h hz hw
    (fun i c H1 e1 hc => by rw [(codes_at hc).1]; exact ht c H1 e1 (codes_at hc).2) (fun i c H1 e1 hc hf => by rw [(codes_at hc).1] at hf ⊢; exact he c H1 e1 (codes_at hc).2 hf)
  have e2 : zt.cps.size = zt.cps.toList.length := by simp
  rw [e2, given_eq] at e
  exact e
/-- a comprehension over a list that stands, its items r of the xs -/
theorem el_lcM {α : Type} {a : Addr} {xs : List α} {r : α → V} {tl : TE} {j : Nat} {vs : List Nat} (d : α) (F : α → Bool) (W : α → V) (h : Ev tl σ H (.ref a)) (hx : SqL K H a (xs.map r)) (hz : xs.length ≤ 40000) (hw : ∀ x, wipe ((wipe σ vs).set j (some x)) vs = wipe σ vs)
    (ht : ∀ (x : α) H1, Ex H H1 → x ∈ xs → EvT t ((wipe σ vs).set j (some (r x))) H1 (F x)) (he : ∀ (x : α) H1, Ex H H1 → x ∈ xs → F x = true → Ev te ((wipe σ vs).set j (some (r x))) H1 (W x)) :
    EvL (tLc (iList K tl) (gName j) t te vs) σ H ((xs.filter F).map W) := by
  have key : ∀ (i : Nat) (x : V), (xs.map r)[i]? = some x → r (xs.getD i d) = x ∧ xs.getD i d ∈ xs := fun i x hi => by
    rw [List.getElem?_map] at hi
    cases hy : xs[i]? with
    | none =>
      rw [hy] at hi
      cases hi
    | some y =>
      rw [hy] at hi
      rw [List.getD_eq_getElem?_getD, hy]
      exact ⟨Option.some.inj hi, List.mem_of_getElem? hy⟩
  have e := el_lcL (K := K) (σ := σ) (H := H) (te := te) (t := t) (a := a) (xs := xs.map r) (tl := tl) (j := j) (vs := vs) (fun i => F (xs.getD i d)) (fun i => W (xs.getD i d)) h hx (by rw [List.length_map]; exact hz) hw
    (fun i x H1 e1 hc => by rw [← (key i x hc).1]; exact ht _ H1 e1 (key i x hc).2) (fun i x H1 e1 hc hf => by rw [← (key i x hc).1]; exact he _ H1 e1 (key i x hc).2 hf)
  rw [List.length_map, given_eq] at e
  exact e
/-- a comprehension over a new list -/
theorem el_lcNM {α : Type} {xs : List α} {r : α → V} {tl : TE} {j : Nat} {vs : List Nat} (d : α) (F : α → Bool) (W : α → V) (h : EvL tl σ H (xs.map r)) (hz : xs.length ≤ 40000) (hw : ∀ x, wipe ((wipe σ vs).set j (some x)) vs = wipe σ vs)
    (ht : ∀ (x : α) H1, Ex H H1 → x ∈ xs → EvT t ((wipe σ vs).set j (some (r x))) H1 (F x)) (he : ∀ (x : α) H1, Ex H H1 → x ∈ xs → F x = true → Ev te ((wipe σ vs).set j (some (r x))) H1 (W x)) :
    EvL (tLc (iList K tl) (gName j) t te vs) σ H ((xs.filter F).map W) := by
  have key : ∀ (i : Nat) (x : V), (xs.map r)[i]? = some x → r (xs.getD i d) = x ∧ xs.getD i d ∈ xs := fun i x hi => by
    rw [List.getElem?_map] at hi
    cases hy : xs[i]? with
    | none =>
      rw [hy] at hi
      cases hi
    | some y =>
      rw [hy] at hi
      rw [List.getD_eq_getElem?_getD, hy]
      exact ⟨Option.some.inj hi, List.mem_of_getElem? hy⟩
  have e := el_lcNL (K := K) (σ := σ) (H := H) (te := te) (t := t) (xs := xs.map r) (tl := tl) (j := j) (vs := vs) (fun i => F (xs.getD i d)) (fun i => W (xs.getD i d)) h (by rw [List.length_map]; exact hz) hw
    (fun i x H1 e1 hc => by rw [← (key i x hc).1]; exact ht _ H1 e1 (key i x hc).2) (fun i x H1 e1 hc hf => by rw [← (key i x hc).1]; exact he _ H1 e1 (key i x hc).2 hf)
  rw [List.length_map, given_eq] at e
  exact e
/-- a comprehension over a tuple that stands -/
theorem el_lcUM {α : Type} {a : Addr} {xs : List α} {r : α → V} {tl : TE} {j : Nat} {vs : List Nat} (d : α) (F : α → Bool) (W : α → V) (h : Ev tl σ H (.ref a)) (hx : SqT K H a (xs.map r)) (hz : xs.length ≤ 40000) (hw : ∀ x, wipe ((wipe σ vs).set j (some x)) vs = wipe σ vs)
    (ht : ∀ (x : α) H1, Ex H H1 → x ∈ xs → EvT t ((wipe σ vs).set j (some (r x))) H1 (F x)) (he : ∀ (x : α) H1, Ex H H1 → x ∈ xs → F x = true → Ev te ((wipe σ vs).set j (some (r x))) H1 (W x)) :
    EvL (tLc (iTup K tl) (gName j) t te vs) σ H ((xs.filter F).map W) := by
  have key : ∀ (i : Nat) (x : V), (xs.map r)[i]? = some x → r (xs.getD i d) = x ∧ xs.getD i d ∈ xs := fun i x hi => by
    rw [List.getElem?_map] at hi
    cases hy : xs[i]? with
    | none =>
      rw [hy] at hi
      cases hi
    | some y =>
      rw [hy] at hi
      rw [List.getD_eq_getElem?_getD, hy]
      exact ⟨Option.some.inj hi, List.mem_of_getElem? hy⟩
  have e : EvL (tLc (iTup K tl) (gName j) t te vs) σ H (given (xs.map r).length (fun i => F (xs.getD i d)) (fun i => W (xs.getD i d))) := fun H0 e Q q => h H0 e _ fun H1 e1 => ⟨a, rfl, ⟨xs.map r, ex_t (e.trans e1) hx⟩, fun Dl hD =>
    lc_it walk_tup (Cw H1 (fun i => F (xs.getD i d)) (fun i => W (xs.getD i d)) Dl) ⟨hD, Ex.new hD, upd_same⟩ (fun i H' _ pc => ex_t ((e.trans e1).trans pc.2.1) hx) (fun i x H' H'' hi pc y => by
      obtain ⟨rfl, hy⟩ := y
      obtain ⟨k1, k2⟩ := key i x hy
      rw [List.length_map] at hi
      exact ⟨hw _, cw_turn pc (by omega) (by rw [← k1]; exact ht _ H1 (e.trans e1) k2) (fun hf => by rw [← k1]; exact he _ H1 (e.trans e1) k2 hf)⟩)
      (fun H' pc => q Dl H' (fresh_back e1 pc.1) (e1.trans pc.2.1) pc.2.2)⟩
  rw [List.length_map, given_eq] at e
  exact e
theorem ex_fresh {p : Addr} {H1 H2 H3 : Hp} (hp : H1 p = none) (e2 : Ex H1 H2) (e3 : Ex (hide p H2) H3) : Ex H1 H3 := fun a o h => e3 a o (by
  rw [hide_ne (ne_of_none h hp)]
  exact e2 a o h)
theorem filter_yes {α : Type} (l : List α) : l.filter (fun _ => true) = l := List.filter_eq_self.mpr fun _ _ => rfl

/-! ### flat lists compared -/
def toD : V → PyData
  | .bl b => .bool b
  | .int i => .int i
  | .str x => .str x
  | _ => .none
/-- None, truths, ints and texts of signs that there are -/
def okV : V → Bool
  | .non => true
  | .bl _ => true
  | .int _ => true
  | .str x => x.cps.all (· < 0x110000)
  | _ => false
theorem dp_toD {v : V} (h : okV v = true) : Dp K H v (toD v) := by
  cases v with
  | non => exact .non
  | bl b => exact .bl b
  | int i => exact .int i
  | str x => exact .str x
  | byt _ => cases h
  | flt _ => cases h
  | ref _ => cases h
  | ty _ => cases h
theorem dpAll_toD : ∀ {vs : List V}, (∀ v ∈ vs, okV v = true) → DpAll K H vs (vs.map toD)
  | [], _ => .nil
  | v :: vs, h => .cons (dp_toD (h v List.mem_cons_self)) (dpAll_toD fun u hu => h u (List.mem_cons_of_mem _ hu))
theorem lay_toD {v : V} (h : okV v = true) : (toD v).canLay0 = true ∧ (toD v).depth = 0 := by
  cases v with
  | non => exact ⟨by simp [toD, PyData.canLay0], by simp [toD, PyData.depth]⟩
  | bl b => exact ⟨by simp [toD, PyData.canLay0], by simp [toD, PyData.depth]⟩
  | int i => exact ⟨by simp [toD, PyData.canLay0], by simp [toD, PyData.depth]⟩
  | str x => exact ⟨by simp only [toD, PyData.canLay0]; exact h, by simp [toD, PyData.depth]⟩
  | byt _ => cases h
  | flt _ => cases h
  | ref _ => cases h
  | ty _ => cases h
theorem layAll_toD : ∀ {vs : List V}, (∀ v ∈ vs, okV v = true) → PyData.canLayAll0 (vs.map toD) = true ∧ PyData.depthAll (vs.map toD) = 0
  | [], _ => ⟨by simp [PyData.canLayAll0], by simp [PyData.depthAll]⟩
  | v :: vs, h => by
    have h1 := lay_toD (h v List.mem_cons_self)
    have h2 := layAll_toD (vs := vs) fun u hu => h u (List.mem_cons_of_mem _ hu)
    exact ⟨by simp [PyData.canLayAll0, h1.1, h2.1], by simp [PyData.depthAll, h1.2, h2.2]⟩
theorem shaped_l {vs : List V} (h : ∀ v ∈ vs, okV v = true) : SeqAt.shaped (.list (vs.map toD)) = true := by
  have h2 := layAll_toD h
  show (PyData.canLay0 (.list (vs.map toD)) && decide (PyData.depth (.list (vs.map toD)) ≤ 64)) = true
  rw [Bool.and_eq_true]
  exact ⟨by simp only [PyData.canLay0]; exact h2.1, decide_eq_true (by simp only [PyData.depth]; omega)⟩
theorem shaped_t {vs : List V} (h : ∀ v ∈ vs, okV v = true) : SeqAt.shaped (.tuple (vs.map toD)) = true := by
  have h2 := layAll_toD h
  show (PyData.canLay0 (.tuple (vs.map toD)) && decide (PyData.depth (.tuple (vs.map toD)) ≤ 64)) = true
  rw [Bool.and_eq_true]
  exact ⟨by simp only [PyData.canLay0]; exact h2.1, decide_eq_true (by simp only [PyData.depth]; omega)⟩
/-- equal, item by item -/
def eqF : List V → List V → Bool
  | [], [] => true
  | x :: xs, y :: ys => PyData.eqv (toD x) (toD y) && eqF xs ys
  | _, _ => false
theorem eqvAll_toD : ∀ xs ys : List V, PyData.eqvAll (xs.map toD) (ys.map toD) = eqF xs ys
  | [], [] => by simp [PyData.eqvAll, eqF]
  | x :: xs, y :: ys => by simp only [List.map_cons, PyData.eqvAll, eqF, eqvAll_toD xs ys]
  | [], _ :: _ => by simp [PyData.eqvAll, eqF]
  | _ :: _, [] => by simp [PyData.eqvAll, eqF]
theorem rv_eqL {p q : Addr} {xs ys : List V} (hx : SqL K H p xs) (hy : SqL K H q ys) (h1 : ∀ v ∈ xs, okV v = true) (h2 : ∀ v ∈ ys, okV v = true) : RV (rEqD K) (.ref p) (.ref q) H (.bl (eqF xs ys)) := fun H1 e Q k =>
  ⟨.list (xs.map toD), .list (ys.map toD), .lst (ex_l e hx) (dpAll_toD h1), .lst (ex_l e hy) (dpAll_toD h2), shaped_l h1, shaped_l h2, by
    rw [show PyData.eqv (.list (xs.map toD)) (.list (ys.map toD)) = eqF xs ys by simp only [PyData.eqv, eqvAll_toD]]
    exact k H1 (Ex.refl H1)⟩
theorem rv_neL {p q : Addr} {xs ys : List V} (hx : SqL K H p xs) (hy : SqL K H q ys) (h1 : ∀ v ∈ xs, okV v = true) (h2 : ∀ v ∈ ys, okV v = true) : RV (rNeD K) (.ref p) (.ref q) H (.bl (!eqF xs ys)) := fun H1 e Q k =>
  ⟨.list (xs.map toD), .list (ys.map toD), .lst (ex_l e hx) (dpAll_toD h1), .lst (ex_l e hy) (dpAll_toD h2), shaped_l h1, shaped_l h2, by
    rw [show PyData.eqv (.list (xs.map toD)) (.list (ys.map toD)) = eqF xs ys by simp only [PyData.eqv, eqvAll_toD]]
    exact k H1 (Ex.refl H1)⟩
theorem rv_eqT {p q : Addr} {xs ys : List V} (hx : SqT K H p xs) (hy : SqT K H q ys) (h1 : ∀ v ∈ xs, okV v = true) (h2 : ∀ v ∈ ys, okV v = true) : RV (rEqD K) (.ref p) (.ref q) H (.bl (eqF xs ys)) := fun H1 e Q k =>
  ⟨.tuple (xs.map toD), .tuple (ys.map toD), .tup (ex_t e hx) (dpAll_toD h1), .tup (ex_t e hy) (dpAll_toD h2), shaped_t h1, shaped_t h2, by
    rw [show PyData.eqv (.tuple (xs.map toD)) (.tuple (ys.map toD)) = eqF xs ys by simp only [PyData.eqv, eqvAll_toD]]
    exact k H1 (Ex.refl H1)⟩
theorem okV_str1 {c : Nat} (h : c < 0x110000) : okV (.str ⟨#[c]⟩) = true := by
  show ((#[c] : Array Nat).all fun x => decide (x < 0x110000)) = true
  simp
  omega
theorem rv_neT {p q : Addr} {xs ys : List V} (hx : SqT K H p xs) (hy : SqT K H q ys) (h1 : ∀ v ∈ xs, okV v = true) (h2 : ∀ v ∈ ys, okV v = true) : RV (rNeD K) (.ref p) (.ref q) H (.bl (!eqF xs ys)) := fun H1 e Q k =>
  ⟨.tuple (xs.map toD), .tuple (ys.map toD), .tup (ex_t e hx) (dpAll_toD h1), .tup (ex_t e hy) (dpAll_toD h2), shaped_t h1, shaped_t h2, by
    rw [show PyData.eqv (.tuple (xs.map toD)) (.tuple (ys.map toD)) = eqF xs ys by simp only [PyData.eqv, eqvAll_toD]]
    exact k H1 (Ex.refl H1)⟩
theorem eqF_nil (xs : List V) : eqF xs [] = xs.isEmpty := by
  cases xs <;> rfl
/-- of texts -/
theorem eqF_strs : ∀ xs ys : List Str, eqF (xs.map V.str) (ys.map V.str) = decide (xs = ys)
  | [], [] => rfl
  | x :: xs, y :: ys => by
    show (PyData.eqv (.str x) (.str y) && eqF (xs.map V.str) (ys.map V.str)) = _
    rw [eqF_strs xs ys, show PyData.eqv (.str x) (.str y) = (x == y) by simp only [PyData.eqv]]
    by_cases h : x = y
    · subst h
      by_cases h2 : xs = ys
      · subst h2
        simp
      · simp [h2]
    · simp [h]
  | [], _ :: _ => rfl
  | _ :: _, [] => rfl
theorem eqF_ints : ∀ xs ys : List Int, eqF (xs.map V.int) (ys.map V.int) = decide (xs = ys)
  | [], [] => rfl
  | x :: xs, y :: ys => by
    show (PyData.eqv (.int x) (.int y) && eqF (xs.map V.int) (ys.map V.int)) = _
    rw [eqF_ints xs ys, show PyData.eqv (.int x) (.int y) = (x == y) by simp only [PyData.eqv]]
    by_cases h : x = y
    · subst h
      by_cases h2 : xs = ys
      · subst h2
        simp
      · simp [h2]
    · simp [h]
  | [], _ :: _ => rfl
  | _ :: _, [] => rfl
theorem okV_ints {ns : List Int} : ∀ v ∈ ns.map V.int, okV v = true := fun v h => by
  obtain ⟨i, _, rfl⟩ := List.mem_map.mp h
  rfl
end

/-! ### drawing -/
/-- what a pool is between two draws -/
def Pk (s : Int × Int) : Prop := 0 ≤ s.2 ∧ s.2 < 2147483647
/-- a draw: its digit, and the pool behind it -/
def take (s : Int × Int) (n : Int) : Int × (Int × Int) :=
  if 0 < s.1 then (s.1 % n, (s.1 / n, s.2))
  else (((s.2 * 48271 + 11) % 2147483647 * ((s.2 * 48271 + 11) % 2147483647)) % 2147483629 / 64 % n, (s.1, (s.2 * 48271 + 11) % 2147483647))
theorem take_pos {s : Int × Int} {n : Int} (h : 0 < s.1) : take s n = (s.1 % n, (s.1 / n, s.2)) := if_pos h
theorem take_neg {s : Int × Int} {n : Int} (h : ¬ 0 < s.1) : take s n = (((s.2 * 48271 + 11) % 2147483647 * ((s.2 * 48271 + 11) % 2147483647)) % 2147483629 / 64 % n, (s.1, (s.2 * 48271 + 11) % 2147483647)) := if_neg h
theorem take_lt {s : Int × Int} {n : Int} (h : 0 < n) : 0 ≤ (take s n).1 ∧ (take s n).1 < n := by
  by_cases c : 0 < s.1
  · rw [take_pos c]
    exact ⟨Int.emod_nonneg _ (by omega), Int.emod_lt_of_pos _ h⟩
  · rw [take_neg c]
    exact ⟨Int.emod_nonneg _ (by omega), Int.emod_lt_of_pos _ h⟩
theorem take_pk {s : Int × Int} {n : Int} (h : Pk s) : Pk (take s n).2 := by
  by_cases c : 0 < s.1
  · rw [take_pos c]
    exact h
  · rw [take_neg c]
    exact ⟨Int.emod_nonneg _ (by omega), Int.emod_lt_of_pos _ (by omega)⟩
/-- the script's cell for k -/
def cellAt (ns : List Int) (k : Int) : Int := if ns = [] then 0 else ns.getD (k % (ns.length : Int)).toNat 0
def pool0 (ns : List Int) (k : Int) : Int × Int :=
  (cellAt ns k * (if decide (10 ^ 18 ≤ cellAt ns k) then 1 else 0), (cellAt ns k % 2147483629 + 104729 * k + 11) * 48271 % 2147483647)
theorem pool0_pk (ns : List Int) (k : Int) : Pk (pool0 ns k) := ⟨Int.emod_nonneg _ (by omega), Int.emod_lt_of_pos _ (by omega)⟩
/-- what a def that draws hands back: v, the pool at p then s' -/
def RetP (p : Addr) (s' : Int × Int) (v : V) (H : Hp) (Q : VK) : Prop := ∀ H', Ex (hide p H) H' → H' p = some (pl s') → Q v H'
def spTake : Sp := fun vs H Q _ => ∃ (p : Addr) (s : Int × Int) (n : Int), vs = [.ref p, .int n] ∧ H p = some (pl s) ∧ Pk s ∧ 0 < n ∧ n < 2 ^ 60 ∧ RetP p (take s n).2 (.int (take s n).1) H Q
theorem sp_take {G : Hp} {p : Addr} {s : Int × Int} {n : Int} (h : Pk s) (h0 : 0 < n) (h1 : n < 2 ^ 60) : SpP spTake [.ref p, .int n] G p s (.int (take s n).1) (take s n).2 := fun H k Q q _ =>
  ⟨p, s, n, rfl, k.at_, h, h0, h1, q⟩
def spPool (K : PySem.W.Frag) : Sp := fun vs H Q _ => ∃ (a : Addr) (ns : List Int) (k : Int), vs = [.ref a, .int k] ∧ SqL K H a (ns.map V.int) ∧ ns.length ≤ 63 ∧ 0 ≤ k ∧ k ≤ 1000 ∧ ∀ p H', H p = none → Ex H H' → H' p = some (pl (pool0 ns k)) → Q (.ref p) H'

/-! ### more rules: a text times a number, list(text) -/
def repS (z : Str) (k : Nat) : Str := ⟨((List.replicate k z.cps.toList).flatten).toArray⟩
theorem rep_fold (a : Array Nat) : ∀ (k : Nat) (acc : Array Nat), (List.replicate k a).foldl (· ++ ·) acc = acc ++ ((List.replicate k a.toList).flatten).toArray
  | 0, acc => by simp
  | k + 1, acc => by
    simp only [List.replicate_succ, List.foldl_cons, List.flatten_cons]
    rw [rep_fold a k]
    apply Array.ext'
    simp
theorem repS_len (z : Str) (k : Nat) : (repS z k).length = k * z.length := by
  show ((List.replicate k z.cps.toList).flatten).toArray.size = _
  rw [List.size_toArray, List.length_flatten, List.map_replicate, List.sum_replicate_nat]
  show k * z.cps.toList.length = k * z.cps.size
  simp
def rMulS : R2 := fun x y H Q => ∃ (z : Str) (n : Int), x = .str z ∧ y = .int n ∧ 0 ≤ n ∧ n ≤ 1000 ∧ z.length ≤ 1000 ∧ Q (.str (repS z n.toNat)) H
theorem op_mulS {X : Cx} : OpR X (binaryOp .Mult) rMulS := by
  intro pins s σ H x y v u Q I rx ry h
  obtain ⟨z, n, rfl, rfl, h0, h1, hz, q⟩ := h
  obtain ⟨t, rfl⟩ := rx
  obtain ⟨t', rfl⟩ := ry
  have hm : z.length * n.toNat ≤ 1000 * 1000 := Nat.mul_le_mul hz (by omega)
  refine PySem.P.mul_str (by rw [decide_eq_false (by omega), decide_eq_false (by omega)]; rfl) (fun _ _ hh => ?_) (fun _ _ => ?_) ?_
  · have h2 : (1000 : Int) ≤ (2 ^ 63 - 1) / n := by
      have hn : 0 < n := by omega
      rw [Int.le_ediv_iff_mul_le hn]
      have : 1000 * n ≤ 1000 * 1000 := by omega
      have e : (1000 : Int) * 1000 ≤ 2 ^ 63 - 1 := by decide
      omega
    omega
  · exact decide_eq_false (by
      have : (1000 * 1000 : Nat) ≤ sizeLine := by decide
      omega)
  · by_cases c : n < 1
    · rw [if_pos c]
      have e : repS z n.toNat = Str.empty := by
        rw [show n.toNat = 0 by omega]
        rfl
      exact ⟨by decide, .str (repS z n.toNat), H, I.tok _, ⟨_, by rw [e]⟩, q⟩
    · rw [if_neg c]
      by_cases d : (n == 1 || z.length == 0) = true
      · rw [if_pos d]
        have e : repS z n.toNat = z := by
          rcases Bool.or_eq_true _ _ ▸ d with d | d
          · have : n = 1 := by simpa using d
            rw [this]
            show (⟨((List.replicate 1 z.cps.toList).flatten).toArray⟩ : Str) = z
            cases z with
            | mk a => simp
          · have hz0 : z.cps.size = 0 := eq_of_beq d
            cases z with
            | mk a =>
              have : a = #[] := Array.eq_empty_of_size_eq_zero hz0
              subst this
              unfold repS
              have : ∀ k : Nat, (List.replicate k ([] : List Nat)).flatten = [] := fun k => by induction k with
                | zero => rfl
                | succ k ih => simpa [List.replicate_succ] using ih
              show (⟨((List.replicate n.toNat ([] : List Nat)).flatten).toArray⟩ : Str) = _
              rw [this]
        exact ⟨.str (repS z n.toNat), H, I, ⟨_, by rw [e]⟩, q⟩
      · rw [if_neg d]
        have e : (⟨(List.replicate n.toNat z.cps).foldl (· ++ ·) #[]⟩ : Str) = repS z n.toNat := by
          rw [rep_fold]
          unfold repS
          simp
        rw [e]
        have hl := repS_len z n.toNat
        refine ⟨?_, .str (repS z n.toNat), H, I.tok _, ⟨_, rfl⟩, q⟩
        rw [hl, Nat.mul_comm]
        have : (1000 * 1000 : Nat) ≤ sizeLine := by decide
        omega
/-- the signs of a text, a text each -/
def chars (z : Str) : List V := z.cps.toList.map fun c => V.str ⟨#[c]⟩
def rListStr : List V → Hp → VK → Prop := fun xs H Q => ∃ z : Str, xs = [.str z] ∧ z.length ≤ sizeLine ∧ ∀ l, H l = none → Q (.ref l) (upd H l (.lst (chars z)))
theorem call_listS {X : Cx} (hc : X.calm = true) : CallR X (.type "list") rListStr := by
  intro pins s σ H xs us Q I r h
  obtain ⟨z, rfl, hz, q⟩ := h
  obtain ⟨u, rfl, rx⟩ := vals1 r
  obtain ⟨t, rfl⟩ := rx
  refine PySem.call_list_str (I.ok.hd hc) z t (fun h' tk acc' c' hk e hi => ?_) (by simpa [Str.length] using hz)
  have hlen : (chars z).length = z.cps.size := by simp [chars]
  refine ⟨.ref s.heap.objs.size, upd H s.heap.objs.size (.lst (chars z)), I.laid hk (Nat.le_refl _) ⟨by rw [hlen]; exact hz, acc'.toList, c', ?_, by rw [Array.toArray_toList]; exact e⟩, rfl, q _ (I.hok.fresh (Nat.le_refl _))⟩
  refine vals_of_idx _ _ (by rw [hlen, Array.length_toList]; exact hi.1) fun j u hj => ?_
  obtain ⟨c, t', hc, rfl⟩ := hi.2 j u (by rw [← Array.getElem?_toList]; exact hj)
  refine ⟨.str ⟨#[c]⟩, ?_, ⟨_, rfl⟩⟩
  unfold chars
  rw [List.getElem?_map, Array.getElem?_toList, hc]
  rfl
section
variable {K : PySem.W.Frag} {σ : L2.St} {G H : Hp} {ta tb te : TE} {t : TT} {x y z v : V} {r : R2} {D : Ends} {tz : TS}
theorem rv_rep {zt : Str} {n : Int} (h0 : 0 ≤ n) (h1 : n ≤ 1000) (hz : zt.length ≤ 1000) : RV rMulS (.str zt) (.int n) H (.str (repS zt n.toNat)) := fun H1 _ _ q => ⟨zt, n, rfl, rfl, h0, h1, hz, q H1 (Ex.refl H1)⟩
theorem el_listS {zt : Str} (h : Ev te σ H (.str zt)) (hz : zt.length ≤ 100000) : EvL (tCB rListStr (tCons te tNil)) σ H (chars zt) := fun H1 e Q q =>
  h H1 e _ fun H2 e2 => ⟨zt, rfl, sz_of hz, fun l hl => q l _ (fresh_back e2 hl) (e2.trans (Ex.new hl)) upd_same⟩
theorem el_listL {a : Addr} {xs : List V} (h : Ev te σ H (.ref a)) (hx : SqL K H a xs) : EvL (tCB (fun xs H Q => ∃ p ys, xs = [.ref p] ∧ (SqL K H p ys ∨ SqT K H p ys) ∧ ∀ l, H l = none → Q (.ref l) (upd H l (.lst ys))) (tCons te tNil)) σ H xs := fun H1 e Q q =>
  h H1 e _ fun H2 e2 => ⟨a, xs, rfl, .inl (ex_l (e.trans e2) hx), fun l hl => q l _ (fresh_back e2 hl) (e2.trans (Ex.new hl)) upd_same⟩
/-- tuple(list) -/
theorem eu_tupL {a : Addr} {xs : List V} (h : Ev te σ H (.ref a)) (hx : SqL K H a xs) : EvU (tCB (fun xs H Q => ∃ p ys, xs = [.ref p] ∧ ((SqL K H p ys ∧ ∀ l, H l = none → Q (.ref l) (upd H l (.tup ys))) ∨ (SqT K H p ys ∧ Q (.ref p) H))) (tCons te tNil)) σ H xs := fun H1 e Q q =>
  h H1 e _ fun H2 e2 => ⟨a, xs, rfl, .inl ⟨ex_l (e.trans e2) hx, fun l hl => q l _ (fresh_back e2 hl) (e2.trans (Ex.new hl)) upd_same⟩⟩
theorem el_listRg {i j : Int} (ha : Ev ta σ H (.int i)) (hb : Ev tb σ H (.int j)) (h0 : 0 ≤ i) (h1 : i ≤ 100000) (h2 : 0 ≤ j) (h3 : j ≤ 100000) : EvL (tLstRg (tRg2 ta tb)) σ H (rgV i j) := fun H1 e Q q =>
  ha H1 e _ fun H2 e2 => hb H2 (e.trans e2) _ fun H3 e3 => ⟨i, j, rfl, rfl, RgOk.of_le h0 (by omega) (by omega) h2, fun l hl => q l _ (fresh_back (e2.trans e3) hl) ((e2.trans e3).trans (Ex.new hl)) upd_same⟩
theorem ev_slS {zt : Str} {tl th : TO} {lo hi : Option Int} (h : Ev te σ H (.str zt)) (h1 : EvO tl σ H lo) (h2 : EvO th σ H hi) (hz : zt.length ≤ 100000) : Ev (tSl rSlS te tl th) σ H (.str (cutS zt lo hi)) := fun H1 e _ q =>
  h H1 e _ fun H2 e2 => h1 H2 (e.trans e2) _ fun H3 e3 => h2 H3 ((e.trans e2).trans e3) _ fun H4 e4 => ⟨zt, rfl, sz_of hz, q H4 ((e2.trans e3).trans e4)⟩
/-- a list that stands and a new one, joined -/
theorem el_cat {a : Addr} {xs ys : List V} (ha : Ev ta σ H (.ref a)) (hx : H a = some (.lst xs)) (hb : EvL tb σ H ys) (hz : xs.length + ys.length ≤ 100000) : EvL (tOp rCat ta tb) σ H (xs ++ ys) := fun H1 e Q q =>
  ha H1 e _ fun H2 e2 => hb H2 (e.trans e2) _ fun b H3 hb3 e3 hy => ⟨a, b, xs, ys, rfl, rfl, e3 _ _ (e2 _ _ (e _ _ hx)), hy, sz_of hz, fun l hl => q l _ (fresh_back (e2.trans e3) hl) ((e2.trans e3).trans (Ex.new hl)) upd_same⟩
theorem el_catN {xs ys : List V} (ha : EvL ta σ H xs) (hb : EvL tb σ H ys) (hz : xs.length + ys.length ≤ 100000) : EvL (tOp rCat ta tb) σ H (xs ++ ys) := fun H1 e Q q =>
  ha H1 e _ fun a H2 ha2 e2 hx => hb H2 (e.trans e2) _ fun b H3 hb3 e3 hy => ⟨a, b, xs, ys, rfl, rfl, e3 _ _ hx, hy, sz_of hz, fun l hl => q l _ (fresh_back (e2.trans e3) hl) ((e2.trans e3).trans (Ex.new hl)) upd_same⟩
/-- xs.extend(a new list) -/
theorem s_extL {l : Addr} {xs ys : List V} (hl : H l = some (.lst xs)) (ha : Ev ta σ H (.ref l)) (h : EvL te σ H ys) (hz : xs.length + ys.length ≤ 100000) (k : ∀ p H1, H p = none → Ex H H1 → D.nx σ (upd H1 l (.lst (xs ++ ys)))) :
    tDrop (tBM K "list" rExtend ta (tCons te tNil)) D σ H := ha H (Ex.refl H) _ fun H1 e1 =>
  ⟨Or.inl ⟨rfl, xs, sq_of (e1 l _ hl)⟩, h H1 e1 _ fun p H2 hp e2 h2 => ⟨l, p, xs, ys, rfl, rfl, e2 l _ (e1 l _ hl), h2, sz_of hz, k p H2 (fresh_back e1 hp) (e1.trans e2)⟩⟩
theorem cut_lt {zt : Str} {b : Nat} : cutS zt none (some (b : Int)) = ⟨(zt.cps.toList.take b).toArray⟩ := by
  unfold cutS
  have e : zt.length = zt.cps.toList.length := by simp [Str.length]
  rw [HT.sIx_none, HT.sIx_nat, e]
  congr 2
  rw [List.drop_zero, Nat.sub_zero]
  by_cases h : b ≤ zt.cps.toList.length
  · rw [Nat.min_eq_left h]
  · rw [Nat.min_eq_right (by omega), List.take_of_length_le (Nat.le_refl _), List.take_of_length_le (by omega)]
theorem cut_ge {zt : Str} {a : Nat} : cutS zt (some (a : Int)) none = ⟨(zt.cps.toList.drop a).toArray⟩ := by
  unfold cutS
  have e : zt.length = zt.cps.toList.length := by simp [Str.length]
  rw [HT.sIx_none, HT.sIx_nat, e]
  congr 1
  by_cases h : a ≤ zt.cps.toList.length
  · rw [Nat.min_eq_left h, List.take_of_length_le (by rw [List.length_drop]; exact Nat.le_refl _)]
  · rw [Nat.min_eq_right (by omega), Nat.sub_self, List.take_zero, List.drop_of_length_le (by omega)]
theorem cut_in {zt : Str} {a b : Nat} : cutS zt (some (a : Int)) (some (b : Int)) = ⟨((zt.cps.toList.drop a).take (b - a)).toArray⟩ := by
  unfold cutS
  have e : zt.length = zt.cps.toList.length := by simp [Str.length]
  rw [HT.sIx_nat, HT.sIx_nat, e]
  congr 1
  by_cases h : a ≤ zt.cps.toList.length
  · rw [Nat.min_eq_left h]
    by_cases h2 : b ≤ zt.cps.toList.length
    · rw [Nat.min_eq_left h2]
    · rw [Nat.min_eq_right (by omega), List.take_of_length_le (by rw [List.length_drop]; exact Nat.le_refl _), List.take_of_length_le (by rw [List.length_drop]; omega)]
  · rw [Nat.min_eq_right (by omega : zt.cps.toList.length ≤ a), List.drop_of_length_le (Nat.le_refl _), List.drop_of_length_le (by omega)]
    simp
/-- a call that hands back a new tuple -/
def SpU (sp : Sp) (vs : List V) (H : Hp) (xs : List V) : Prop := ∀ H1, Ex H H1 → ∀ Q : VK, (∀ p H2, H1 p = none → Ex H1 H2 → H2 p = some (.tup xs) → Q (.ref p) H2) → ∀ E : XK, sp vs H1 Q E
theorem eu_call {sp : Sp} {dvs vs xs : List V} {E : XK} {ta : TA} (h : EvA ta σ H vs) (hs : SpU sp (vs ++ dvs) H xs) : EvU (tCall sp dvs E ta) σ H xs := fun H1 e Q q =>
  h H1 e _ fun H2 e2 => hs H2 (e.trans e2) Q (fun p H3 hp e3 h3 => q p H3 (fresh_back e2 hp) (e2.trans e3) h3) E
/-- a call of a new tuple, of a new list -/
theorem el_call1U {sp : Sp} {E : XK} {xs ys : List V} (h : EvU te σ H xs) (hs : ∀ p H1, H1 p = some (.tup xs) → Ex H H1 → SpL sp [.ref p] H1 ys) : EvL (tCall sp [] E (tCons te tNil)) σ H ys := fun H1 e Q q =>
  h H1 e _ fun p H2 hp e2 h2 => hs p H2 h2 (e.trans e2) H2 (Ex.refl _) Q (fun r H3 hr e3 h3 => q r H3 (fresh_back e2 hr) (e2.trans e3) h3) E
theorem ev_call1L {sp : Sp} {E : XK} {xs : List V} (h : EvL te σ H xs) (hs : ∀ p H1, H1 p = some (.lst xs) → Ex H H1 → SpV sp [.ref p] H1 z) : Ev (tCall sp [] E (tCons te tNil)) σ H z := fun H1 e Q q =>
  h H1 e _ fun p H2 hp e2 h2 => hs p H2 h2 (e.trans e2) H2 (Ex.refl _) Q (fun H3 e3 => q H3 (e2.trans e3)) E
/-- a slice of a drawn text -/
theorem evp_slS {zt : Str} {tl th : TO} {lo hi : Option Int} {p : Addr} {s s1 : Int × Int} (h : EvP te σ G p s (.str zt) s1) (h1 : EvO tl σ G lo) (h2 : EvO th σ G hi) (hz : zt.length ≤ 100000) : EvP (tSl rSlS te tl th) σ G p s (.str (cutS zt lo hi)) s1 := fun H k _ q =>
  h H k _ fun H2 e2 g2 => h1 H2 (k.next e2 g2).ex _ fun H3 e3 => h2 H3 ((k.next e2 g2).ex.trans e3) _ fun H4 e4 => ⟨zt, rfl, sz_of hz, q H4 (hx_trans e2 (hx_of (e3.trans e4))) (e4 _ _ (e3 _ _ g2))⟩
/-- if c: x = e, what x is behind it by a word -/
theorem q_ifAsgM {M : V → Hp → Prop} {b : Bool} {i : Nat} (h : EvT t σ H b) (h1 : b = true → ∀ H1, Ex H H1 → ∀ Q : VK, (∀ v H2, M v H2 → Q v H2) → te σ H1 Q) (h2 : b = false → ∀ H1, Ex H H1 → ∃ v, σ.set i (some v) = σ ∧ M v H1) (k : ∀ v H2, M v H2 → tz D (σ.set i (some v)) H2) :
    tSeq (tIfS t (tAsg te (gName i)) tNext) tz D σ H := q_when h (fun hb H1 e1 => h1 hb H1 e1 _ fun v H2 m => k v H2 m) (fun hb H1 e1 => by
  obtain ⟨v, hv, m⟩ := h2 hb H1 e1
  have := k v H1 m
  rw [hv] at this
  exact this)
theorem qp_ifAsgM {M : V → Hp → Prop} {b : Bool} {i : Nat} {p : Addr} {s s1 : Int × Int} (K0 : Kn G p s H) (h : EvTP t σ G p s b s1) (h1 : b = true → ∀ H1, Kn G p s1 H1 → Ex (hide p H) H1 → ∀ Q : VK, (∀ v H2, M v H2 → Q v H2) → te σ H1 Q) (h2 : b = false → ∀ H1, Kn G p s1 H1 → Ex (hide p H) H1 → ∃ v, σ.set i (some v) = σ ∧ M v H1) (k : ∀ v H2, M v H2 → tz D (σ.set i (some v)) H2) :
    tSeq (tIfS t (tAsg te (gName i)) tNext) tz D σ H := qp_when K0 h (fun hb H1 K1 e1 => h1 hb H1 K1 e1 _ fun v H2 m => k v H2 m) (fun hb H1 K1 e1 => by
  obtain ⟨v, hv, m⟩ := h2 hb H1 K1 e1
  have := k v H1 m
  rw [hv] at this
  exact this)
end

/-! ### own classes -/
/-- x in o, o an instance whose class has its own __contains__ -/
def rInOwn (C : Addr) (sp : Sp) (E : XK) : R2 := fun x y H Q => ∃ a dx fs, y = .ref a ∧ H a = some (.ins C dx fs) ∧ sp [.ref a, x] H (fun v H' => ∃ b, v = .bl b ∧ Q (.bl b) H') E
theorem contains_own {X : Cx} {CX : CXT} {C f : Addr} {fd : FuncData} {ps : List Str} {k : Nat} {sp : Sp} {E : XK} (hs : PySem.W.findIn X.K (.ref C) "__contains__" = some (some (.ref f))) (hf : PySem.W.typeIn X.K (.ref f) = some (.type "function"))
    (F : FnOk X.prog X.w X.K X.mg X.base CX k f fd ps sp) (hr : Room k X.A) (hb : Binds X.K fd ps []) (hx : Passes CX X E) {pins : List (Addr × Obj)} {s : Shared} {σ : L2.St} {H : Hp} {x : V} {v : Value} {a dx : Addr} {fs : List (Str × V)} {Q : Bool → Hp → Prop}
    (I : Inv X pins σ H s) (rx : RelV x v) (ha : H a = some (.ins C dx fs)) (h : sp [.ref a, x] H (fun v H' => ∃ b, v = .bl b ∧ Q b H') E) :
    wpAny (model X.prog X.w) X.A (contains (.ref a) v) (TP X pins σ Q) X.xe s := by
  obtain ⟨mA, J, _⟩ := ins_get I.hok ha
  obtain ⟨od, J, _⟩ := J.look
  unfold contains
  refine wpAny_holding ?_
  show wpAny _ _ (specialOf (.ref a) "__contains__" >>= fun r => _) _ _ s
  have hsp : ∀ {β : Type} {t : Option Value → Sem β} {Q' : β → Shared → Prop}, wpAny (model X.prog X.w) X.A (t (some (.ref f))) Q' X.xe s → wpAny (model X.prog X.w) X.A (specialOf (.ref a) "__contains__" >>= t) Q' X.xe s := fun z =>
    wpAny_bind (wpAny_bind (J.type.here ((PySem.W.looks_findIn I.kIn hs).here z)))
  refine hsp ?_
  show wpAny _ _ (callSpecialUnlessNone? (.ref a) "__contains__" [v] _ >>= fun r => _) _ _ s
  refine wpAny_bind ?_
  unfold callSpecialUnlessNone?
  refine hsp ?_
  show wpAny _ _ (holding [.ref a, v] (bindSpecial (.ref f) (.ref a) >>= fun p => _)) _ _ s
  refine wpAny_holding (wpAny_bind ((PySem.W.bind_fn I.kIn _ hf).here ?_))
  show wpAny _ _ (call (.ref f) [.ref a, v] >>= fun r => pure (some r)) _ _ s
  refine wpAny_bind (wpAny_mono (run_fn (us := [.ref a, v]) F hr hb .nil hx I (.cons (show RelV (.ref a) (Value.ref a) from rfl) (.cons rx .nil)) h) (fun r s' q => ?_) fun _ _ z => z)
  obtain ⟨z, H', I', rz, b, rfl, q⟩ := q
  cases (show r = Value.bool b from rz)
  refine wpAny_pure ?_
  exact wpAny_truthy_bool ⟨H', I', q⟩
theorem op_inOwn {X : Cx} {CX : CXT} {C f : Addr} {fd : FuncData} {ps : List Str} {k : Nat} {sp : Sp} {E : XK} (hs : PySem.W.findIn X.K (.ref C) "__contains__" = some (some (.ref f))) (hf : PySem.W.typeIn X.K (.ref f) = some (.type "function"))
    (F : FnOk X.prog X.w X.K X.mg X.base CX k f fd ps sp) (hr : Room k X.A) (hb : Binds X.K fd ps []) (hx : Passes CX X E) : OpR X (compareOp .In) (rInOwn C sp E) := by
  intro pins s σ H x y v u Q I rx ry h
  obtain ⟨a, dx, fs, rfl, ha, hsp⟩ := h
  cases (show u = Value.ref a from ry)
  show wpAny _ _ (contains (.ref a) v >>= fun b => (pure (Value.bool b) : Sem Value)) _ _ s
  refine wpAny_bind (wpAny_mono (contains_own (Q := fun b H' => Q (.bl b) H') hs hf F hr hb hx I rx ha hsp) (fun b s' q => ?_) fun _ _ z => z)
  obtain ⟨H', I', q⟩ := q
  exact wpAny_pure ⟨.bl b, H', I', rfl, q⟩
/-- a method; a special method; an __init__; an __init__ with a star -/
def DfM (P : Program) (w : World) (K : PySem.W.Frag) (mg : Str → Option Value) (base : Heap) (C : Addr) (m : Str) (ps : List Str) (k : Nat) (sp : Sp) : Prop :=
  ∃ (f : Addr) (fd : FuncData), Meth K C m f ∧ Binds K fd ps [] ∧ FnOk P w K mg base CX0 k f fd ps sp
def DfC (P : Program) (w : World) (K : PySem.W.Frag) (mg : Str → Option Value) (base : Heap) (C : Addr) (m : Str) (ps : List Str) (k : Nat) (sp : Sp) : Prop :=
  ∃ (f : Addr) (fd : FuncData), PySem.W.findIn K (.ref C) m = some (some (.ref f)) ∧ PySem.W.typeIn K (.ref f) = some (.type "function") ∧ Binds K fd ps [] ∧ FnOk P w K mg base CX0 k f fd ps sp
def DfI (P : Program) (w : World) (K : PySem.W.Frag) (mg : Str → Option Value) (base : Heap) (x : Str) (C : Addr) (ps : List Str) (k : Nat) (sp : Sp) : Prop :=
  ∃ (f : Addr) (fd : FuncData), Mk K C f ∧ mg x = some (.ref C) ∧ Binds K fd ps [] ∧ FnOk P w K mg base CX0 k f fd ps sp
def DfS (P : Program) (w : World) (K : PySem.W.Frag) (mg : Str → Option Value) (base : Heap) (x : Str) (C : Addr) (k : Nat) (sp : Sp) : Prop :=
  ∃ f : Addr, Mk K C f ∧ mg x = some (.ref C) ∧ FnR P w K mg base CX0 k f sp
section
variable {X : Cx} {k : Nat} {ps : List Str} {sp : Sp} {C : Addr} {x m : Str} {p pos apos : Pos} {o e : Expr} {es : List Expr} {t : TA} {ta : TE}
theorem pe_mk (D : DfI X.prog X.w X.K X.mg X.base x C ps k sp) (hr : Room (k + 1) X.A) (hg : Gl X x) (ha : PA X (e :: es) t) (hdb : (x == ("__debug__" : Str)) = false := by decide)
    (he : starEach (e :: es) X.env = (false, eval e X.env) :: starEach es X.env := by rfl) (hpl : (backTo pos (starEach es X.env)).any (·.1) = false := by rfl) : PE X (.Call (.Name x p) (e :: es) [] pos) (tMake C sp [] E0 t) := by
  obtain ⟨f, fd, M, hm, hb, F⟩ := D
  exact pe_make M F hr hg hm hb .nil pass0 ha hdb he hpl
theorem pe_mkS (D : DfS X.prog X.w X.K X.mg X.base x C k sp) (hr : Room (k + 1) X.A) (hg : Gl X x) (ha : PA X (e :: es) t) (hdb : (x == ("__debug__" : Str)) = false := by decide)
    (he : starEach (e :: es) X.env = (false, eval e X.env) :: starEach es X.env := by rfl) (hpl : (backTo pos (starEach es X.env)).any (·.1) = false := by rfl) : PE X (.Call (.Name x p) (e :: es) [] pos) (tMakeR C sp E0 t) := by
  obtain ⟨f, M, hm, F⟩ := D
  exact pe_makeR M F hr hg hm pass0 ha hdb he hpl
theorem pe_mth0 {pl : Sem Bool} (c : Cls X.K C) (D : DfM X.prog X.w X.K X.mg X.base C m ps k sp) (hr : Room k X.A) (he : PE X o ta)
    (ht : eval (.Call (.Attribute o m apos) [] [] pos) X.env = (do let ov ← eval o X.env; standAt apos.atName; let (f, first) ← holding [ov] (getMethod ov m pl); callWith pos f first (backTo pos (starEach [] X.env)) (backToKw pos (keywordEach [] X.env))) := by rfl) :
    PE X (.Call (.Attribute o m apos) [] [] pos) (tMeth C m sp [] E0 ta tNil) := by
  obtain ⟨f, fd, hm, hb, F⟩ := D
  exact pe_meth0 he c hm F hr hb .nil pass0 ht
theorem pe_mth {pl : Sem Bool} (c : Cls X.K C) (D : DfM X.prog X.w X.K X.mg X.base C m ps k sp) (hr : Room k X.A) (he : PE X o ta) (ha : PA X (e :: es) t)
    (hst : starEach (e :: es) X.env = (false, eval e X.env) :: starEach es X.env := by rfl) (hpl : (backTo pos (starEach es X.env)).any (·.1) = false := by rfl)
    (ht : eval (.Call (.Attribute o m apos) (e :: es) [] pos) X.env = (do let ov ← eval o X.env; standAt apos.atName; let (f, first) ← holding [ov] (getMethod ov m pl); callWith pos f first (backTo pos (starEach (e :: es) X.env)) (backToKw pos (keywordEach [] X.env))) := by rfl) :
    PE X (.Call (.Attribute o m apos) (e :: es) [] pos) (tMeth C m sp [] E0 ta t) := by
  obtain ⟨f, fd, hm, hb, F⟩ := D
  exact pe_meth he c hm F hr hb .nil pass0 ha hst hpl ht
theorem op_in_df (D : DfC X.prog X.w X.K X.mg X.base C "__contains__" ps k sp) (hr : Room k X.A) : OpR X (compareOp .In) (rInOwn C sp E0) := by
  obtain ⟨f, fd, h1, h2, hb, F⟩ := D
  exact op_inOwn h1 h2 F hr hb pass0
end
end Kz
namespace Kz
open PySem PySem.Spec PyProof.Rows L2 Evl StX
/-! ### own exceptions: made and raised, passed on, caught, asked -/
/-- class C, named x, whose own __init__ keeps sp -/
structure XIn (K : PySem.W.Frag) (C : Addr) : Prop where
  o : OexC K C
  x : XfC K C
  h : (PySem.W.clsIn K C).isSome = true
  a : PySem.W.findIn K (.ref C) "__class__" = some (some (.builtin "object.__class__"))
  n : PySem.W.specialIn K (.builtin "object.__class__") "__get__" = some (some (.builtin "getset_descriptor.__get__"))
  t : PySem.W.takesIn K (.builtin "object.__class__") = some true
  m : PySem.W.mroIn K C (.type "object") = some true
  s : PySem.W.exmOne K (.ref C) (.ref C) = some true
def DfX (P : Program) (w : World) (K : PySem.W.Frag) (mg : Str → Option Value) (base : Heap) (x : Str) (C : Addr) (ps : List Str) (k : Nat) (sp : Sp) : Prop :=
  ∃ (f : Addr) (fd : FuncData), OexC K C ∧ PySem.W.findIn K (.ref C) "__init__" = some (some (.ref f)) ∧ PySem.W.typeIn K (.ref f) = some (.type "function") ∧ mg x = some (.ref C) ∧ Binds K fd ps [] ∧ FnOk P w K mg base CX0 k f fd ps sp
/-- an own class whose starred __init__ may raise -/
def DfSX (P : Program) (w : World) (K : PySem.W.Frag) (mg : Str → Option Value) (base : Heap) (x : Str) (C : Addr) (k : Nat) (sp : Sp) : Prop :=
  ∃ f : Addr, Mk K C f ∧ mg x = some (.ref C) ∧ FnR P w K mg base (L2.CX P w) k f sp
/-- a def that may raise -/
def DfR (P : Program) (w : World) (K : PySem.W.Frag) (mg : Str → Option Value) (base : Heap) (x : Str) (ps : List Str) (k : Nat) (sp : Sp) : Prop :=
  ∃ (f : Addr) (fd : FuncData), mg x = some (.ref f) ∧ PySem.W.keepIn K (.ref f) = true ∧ Binds K fd ps [] ∧ FnOk P w K mg base (L2.CX P w) k f fd ps sp
section
variable {X : Cx} {k : Nat} {ps : List Str} {sp : Sp} {C : Addr} {x : Str} {p pos pos2 : Pos} {e : Expr} {es : List Expr} {t : TA} {W : WX}
theorem ps_raiseX (D : DfX X.prog X.w X.K X.mg X.base x C ps k sp) (hr : Room (k + 1) X.A) (hg : Gl X x) (hc : X.calm = true) (tk : Takes X W) (ha : PA X (e :: es) t) (hdb : (x == ("__debug__" : Str)) = false := by decide)
    (he : starEach (e :: es) X.env = (false, eval e X.env) :: starEach es X.env := by rfl) (hpl : (backTo pos (starEach es X.env)).any (·.1) = false := by rfl) :
    PS X (.Raise (some (.Call (.Name x p) (e :: es) [] pos)) none pos2) (fun _ σ H => tMkO C sp [] t σ H fun cls d H' => W cls d σ H') := by
  obtain ⟨f, fd, h1, h2, h3, h4, h5, F⟩ := D
  exact ps_raise hc tk (pmk_oex h1 h2 h3 F hr h5 .nil pass0 hg h4 ha hdb he hpl)
theorem pe_mkSX {E : XK} (D : DfSX X.prog X.w X.K X.mg X.base x C k sp) (hr : Room (k + 1) X.A) (hg : Gl X x) (tk : Takes X (fun cls d _ H => E cls d H)) (ha : PA X (e :: es) t) (hdb : (x == ("__debug__" : Str)) = false := by decide)
    (he : starEach (e :: es) X.env = (false, eval e X.env) :: starEach es X.env := by rfl) (hpl : (backTo pos (starEach es X.env)).any (·.1) = false := by rfl) : PE X (.Call (.Name x p) (e :: es) [] pos) (tMakeR C sp E t) := by
  obtain ⟨f, M, hm, F⟩ := D
  exact pe_makeR M F hr hg hm (passes_call tk fun _ _ _ _ h => h) ha hdb he hpl
theorem pe_mkSX0 {E : XK} (D : DfSX X.prog X.w X.K X.mg X.base x C k sp) (hr : Room (k + 1) X.A) (hg : Gl X x) (tk : Takes X (fun cls d _ H => E cls d H)) (hdb : (x == ("__debug__" : Str)) = false := by decide) :
    PE X (.Call (.Name x p) [] [] pos) (tMakeR C sp E tNil) := by
  obtain ⟨f, M, hm, F⟩ := D
  refine ⟨fun pins s σ H Q I h => wpAny_Call_Name_kw (ld_glob I hg hm (PySem.W.callWith_K0 I.kIn M.kp (run_makeR (us := []) M F hr (passes_call tk fun _ _ _ _ h => h) I .nil h)) hdb)⟩
theorem pe_dfR (D : DfR X.prog X.w X.K X.mg X.base x ps k sp) (hr : Room k X.A) (hg : Gl X x) (tk : Takes X W) (ha : PA X (e :: es) t) (hdb : (x == ("__debug__" : Str)) = false := by decide)
    (he : starEach (e :: es) X.env = (false, eval e X.env) :: starEach es X.env := by rfl) (hpl : (backTo pos (starEach es X.env)).any (·.1) = false := by rfl) : PE X (.Call (.Name x p) (e :: es) [] pos) (tCallS sp (WE W) t) := by
  obtain ⟨f, fd, hm, hk, hb, F⟩ := D
  exact pe_callS F hr hg hm hk hb (fun σ => passAt tk σ) ha hdb he hpl
end
/-- an __init__ that keeps its one argument at the field f -/
def spXI (C : Addr) (f : Str) : Sp := fun vs H Q _ => ∃ (a : Addr) (v : V), vs = [.ref a, v] ∧ H a = some (exo a C none) ∧ ∀ dx, H dx = none → dx ≠ a → Q .non (upd (upd H dx (exd dx [(f, v)])) a (exo a C (some dx)))
theorem mkX {C : Addr} {f : Str} {σ : L2.St} {H : Hp} {te : TE} {v : V} {Q : XK} (h : Ev te σ H v) (q : ∀ d H1, H d = none → Ex H H1 → H1 d = some (.xd [(f, v)]) → Q (.ref C) (some d) H1) : tMkO C (spXI C f) [] (tCons te tNil) σ H Q :=
  h H (Ex.refl _) _ fun H1 e1 => ⟨by simp, fun a ha => ⟨a, v, rfl, upd_same, fun dx hdx hne => by
    have hd1 : H1 dx = none := by
      rw [upd_ne hne] at hdx
      exact hdx
    refine ⟨rfl, dx, _, upd_same, by rw [upd_ne hne, upd_same], hd1, q dx _ (fresh_back e1 hd1) (e1.trans fun b o hb => ?_) upd_same⟩
    have nb : b ≠ dx := ne_of_none hb hd1
    have na : b ≠ a := ne_of_none hb ha
    rw [upd_ne nb, del_ne na, upd_ne na, upd_ne nb, upd_ne na]
    exact hb⟩⟩

/-! a def that is called with the caught exception -/
open L2H in
structure FnE (P : Program) (w : World) (K : PySem.W.Frag) (mg : Str → Option Value) (base : Heap) (k : Nat) (f : Addr) (fd : FuncData) (ps : List Str) (sp : Addr → Value → Option Addr → Sp) : Prop where
  len : ∀ a c d vs H Q E, sp a c d vs H Q E → vs.length = ps.length
  run : ∀ (a : Addr) (oe : Obj) (c : Value) (d : Option Addr), Zc c d oe → (∃ vs, oe.data = .fields vs) → ∀ (A : Around) (outer : List Env) (s : Shared) (H : Hp), RoomH k A → PinOk outer H s (a, oe) → Env0 P w K mg base A outer s H →
    ∀ (args : Args) (us : List Value) (vs : List V) (Q : VK) (E : XK), BindsTo s fd args (ps.zip us) → Vals vs us → sp a c d vs H Q E → codeAny (model P w) A (.call (.ref f) args) (CR CX0 outer P w H s Q E) s
def DfE (P : Program) (w : World) (K : PySem.W.Frag) (mg : Str → Option Value) (base : Heap) (x : Str) (ps : List Str) (k : Nat) (sp : Addr → Value → Option Addr → Sp) : Prop :=
  ∃ (f : Addr) (fd : FuncData), mg x = some (.ref f) ∧ PySem.W.keepIn K (.ref f) = true ∧ Binds K fd ps [] ∧ FnE P w K mg base k f fd ps sp
open L2H in
theorem Fun.okE {P : Program} {w : World} {K : PySem.W.Frag} {mg : Str → Option Value} {base : Heap} {x qual : Str} {st : Stmt} {f : Addr} {fd : FuncData} {N ps : List Str} {k : Nat} {sp : Addr → Value → Option Addr → Sp}
    (F : Fun K x qual st f fd) (S : FnScope N ps (defScope st)) (len : ∀ a c d vs H Q E, sp a c d vs H Q E → vs.length = ps.length)
    (walk : ∀ (a : Addr) (oe : Obj) (c : Value) (d : Option Addr), Zc c d oe → (∃ vs, oe.data = .fields vs) → ∀ (cdv : Value) (A : Around) (outer : List Env) (s : Shared) (H : Hp) (vs : List V) (Q : VK) (E : XK),
      RoomH k (A.deeper (envOfC qual (defScope st) s.heap.objs.size f cdv)) → sp a c d vs H Q E →
      ∃ t, PSs (cxH CX0 P w K mg base N qual (defScope st) f cdv A outer s H E (a, oe)) (defBody st) t ∧ t { nx := fun _ H' => Q .non H', rt := Q } (L2.start N vs) H) :
    FnE P w K mg base (k + 1) f fd ps sp := by
  obtain ⟨oc, od, kV, doc, pm, an, cdv, ct, osl, rfl, lk, hcd⟩ := F.ex
  refine ⟨len, ?_⟩
  intro a oe c d hz hf A outer s H hr pin e0 args us vs Q E hb r h
  have inn : K.In s.heap := e0.mod.kin.keeps fun b o z => (e0.bs b o z).1
  have nol : s.heap.NoLimit := e0.mod.nolimit.keeps fun b o z => (e0.bs b o z).1
  refine codeAny_call_function hr.depth (inn _ _ lk) rfl S.co S.gen rfl (PySem.W.codeRec_of inn hcd) (hb _ _ _ _ (wpAny_newFunctionEnv_cells S.kind ?_ ?_))
  · rintro ⟨n, v⟩ hy
    exact (S.par n (List.of_mem_zip hy).1).imp id fun q => ⟨q, PySem.W.cellsFrom_some _ _ _ (.inl q)⟩
  · rintro env rfl s1 ic
    refine ⟨nol.keeps ic.toInCall.keep, codeAny_func ?_⟩
    obtain ⟨t, ht, hq⟩ := walk a oe c d hz hf cdv A outer s H vs Q E (hr.deeper _) h
    have J0 := inv_startH (CX := CX0) (P := P) (w := w) (mg := mg) (base := base) (f := f) (E := E) S pin e0 (len _ _ _ _ _ _ _ h) r ic
    refine wpAny_mono (ht.run [] s1 _ H _ J0 hq) (fun fl s' z => ?_) fun er s' z => z
    match fl, z with
    | .ret u, z =>
      obtain ⟨v, σ', H', J, rv, q⟩ := z
      exact ⟨v, H', J.os, J.bare, J.base, J.hok, rv, q⟩
    | .next, z =>
      obtain ⟨σ', H', J, q⟩ := z
      exact ⟨V.non, H', J.os, J.bare, J.base, J.hok, rfl, q⟩
    | .brk, z => exact z.elim fun _ z => z.elim fun _ z => z.2.elim
    | .cont, z => exact z.elim fun _ z => z.elim fun _ z => z.2.elim
open L2H in
theorem pe_dfE {X : Cx} {k : Nat} {ps : List Str} {sp : Addr → Value → Option Addr → Sp} {x : Str} {p pos : Pos} {e : Expr} {es : List Expr} {t : TA} {a : Addr} {oe : Obj} {c : Value} {d : Option Addr} (D : DfE X.prog X.w X.K X.mg X.base x ps k sp) (hr : RoomH k X.A) (hg : Gl X x)
    (hp : (a, oe) ∈ X.pn) (hz : Zc c d oe) (hf : ∃ vs, oe.data = .fields vs) (ha : PA X (e :: es) t) (hdb : (x == ("__debug__" : Str)) = false := by decide)
    (he : starEach (e :: es) X.env = (false, eval e X.env) :: starEach es X.env := by rfl) (hpl : (backTo pos (starEach es X.env)).any (·.1) = false := by rfl) :
    PE X (.Call (.Name x p) (e :: es) [] pos) (tCall (sp a c d) [] E0 t) := by
  obtain ⟨f, fd, hm, hk, hb, F⟩ := D
  refine ⟨fun pins s σ H Q I h => wpAny_Call_Name_kw (ld_glob I hg hm ?_ hdb)⟩
  refine PySem.W.callWith_K (h₀ := X.base) I.ok.mod.kin hk (thn (ha.run pos pins s σ H _ I h) ?_) he hpl
  rintro us s1 ⟨vs, H1, J, r, q⟩
  refine ⟨J.kIn, ?_⟩
  rw [List.append_nil] at q
  have b := hb s1 us J.kIn (by rw [List.append_nil, ← r.length]; exact F.len _ _ _ _ _ _ _ q)
  rw [List.append_nil] at b
  obtain ⟨g1, g2, g3, g4, g5⟩ := J.pin (a, oe) (List.mem_append_left _ hp)
  refine wpAny_call (codeAny_mono (F.run a oe c d hz hf X.A X.stack s1 H1 hr ⟨g1, g2, fun hm => (List.mem_cons.mp (J.stkSub a hm)).elim g3 g4, g5⟩ J.env0 ⟨us, []⟩ us vs Q E0 b r q) fun z s' hq => ?_)
  match z, hq with
  | .error er, hq => exact hq.elim
  | .ok (.ret u), hq => exact J.after hq
  | .ok .next, hq => exact hq.elim
  | .ok .brk, hq => exact hq.elim
  | .ok .cont, hq => exact hq.elim
open L2H in
theorem roomS {X : Cx} {k : Nat} {a : Addr} {pn : List (Addr × Obj)} (hr : Room k X.A) : RoomH k (X.suite a pn).A := ⟨hr.dp, hr.un⟩
/-- isinstance(e, c), isinstance(e, (c1, ..)) of the exception that is held -/
def rXo (K : PySem.W.Frag) (a : Addr) (cls : Value) (d : Option Addr) : List V → Hp → VK → Prop := fun xs H Q => ∃ (D dd : Addr) (fs : List (Str × V)), cls = .ref D ∧ d = some dd ∧ H dd = some (.xd fs) ∧ XIn K D ∧
  ((∃ (c : V) (u : Value) (b : Bool), xs = [.ref a, c] ∧ ClsV c u ∧ PySem.W.kitOne K cls u = some b ∧ Q (.bl b) H) ∨
   (∃ (tp : Addr) (cs : List V) (us : List Value) (b : Bool), xs = [.ref a, .ref tp] ∧ H tp = some (.tup cs) ∧ Paired ClsV cs us ∧ PySem.W.kitAny K cls us = some b ∧ Q (.bl b) H))
theorem call_isX {X : Cx} {a : Addr} {oe : Obj} {c : Value} {d : Option Addr} (hp : (a, oe) ∈ X.pn) (hz : Zc c d oe) (hf : ∃ vs, oe.data = .fields vs) : CallR X (.builtin "isinstance") (rXo X.K a c d) := by
  intro pins s σ H xs us Q I r h
  obtain ⟨D, dd, fs, rfl, rfl, hd, T, h⟩ := h
  obtain ⟨g1, _⟩ := I.pin (a, oe) (List.mem_append_left _ hp)
  obtain ⟨mA, hns, _⟩ := (show ObjOk X.prog X.w H s.heap dd (.xd fs) from I.hok dd _ hd)
  obtain ⟨od, ho, _⟩ := lookIn_ns hns
  have J : PySem.W.InstAt s.heap a oe D (some od) := ⟨g1, hz.1, by
    obtain ⟨vs, e⟩ := hf
    unfold PySem.W.notCls
    rw [e] <;> rfl, by rw [hz.2]; exact ho⟩
  have Z := PySem.W.kitx_exc (x := a) (ox := oe) (od := some od) T.h T.x.ga T.x.gg T.x.exC T.a T.n T.t T.m
  rcases h with ⟨cc, u, b, rfl, k, e, q⟩ | ⟨tp, cs, ws, b, rfl, hT, k, e, q⟩
  · obtain ⟨u1, u2, rfl, r1, r2⟩ := vals2 r
    cases (show u1 = Value.ref a from r1)
    cases k.eq r2
    exact PySem.W.kia_one Z I.kIn J e (fun z => nomatch z) fun tk => ⟨.bl b, H, I.tok tk, rfl, q⟩
  · obtain ⟨u1, u2, rfl, r1, r2⟩ := vals2 r
    cases (show u1 = Value.ref a from r1)
    cases (show u2 = Value.ref tp from r2)
    obtain ⟨_, its, rv, o, h1, h2, n, h3⟩ := (show ObjOk X.prog X.w H s.heap tp (.tup cs) from I.hok tp _ hT)
    cases ClsV.all k rv
    obtain ⟨oc, od2, dt, sl⟩ := o
    simp only at h2 h3
    subst h2 h3
    exact PySem.W.kia_tup Z I.kIn J h1 e (fun z => nomatch z) fun tk => ⟨.bl b, H, I.tok tk, rfl, q⟩
theorem ev_xoT {K : PySem.W.Frag} {σ : L2.St} {H : Hp} {i : Nat} {a D dd : Addr} {fs : List (Str × V)} {cs : List V} {us : List Value} {b : Bool} {tb : TE} (T : XIn K D) (hi : σ[i]? = some (some (.ref a))) (hh : H dd = some (.xd fs)) (hb : EvU tb σ H cs) (hp : Paired ClsV cs us) (hk : PySem.W.kitAny K (.ref D) us = some b) :
    Ev (tCB (rXo K a (.ref D) (some dd)) (tCons (tVar i) (tCons tb tNil))) σ H (.bl b) := fun H1 e Q q =>
  ⟨_, hi, hb H1 e _ fun p H2 hp2 e2 h2 => ⟨D, dd, fs, rfl, rfl, e2 _ _ (e _ _ hh), T, .inr ⟨p, cs, us, b, rfl, h2, hp, hk, q H2 e2⟩⟩⟩
theorem ev_xo1 {K : PySem.W.Frag} {σ : L2.St} {H : Hp} {i : Nat} {a D dd : Addr} {fs : List (Str × V)} {c : V} {u : Value} {b : Bool} {tb : TE} (T : XIn K D) (hi : σ[i]? = some (some (.ref a))) (hh : H dd = some (.xd fs)) (hb : Ev tb σ H c) (hp : ClsV c u) (hk : PySem.W.kitOne K (.ref D) u = some b) :
    Ev (tCB (rXo K a (.ref D) (some dd)) (tCons (tVar i) (tCons tb tNil))) σ H (.bl b) := fun H1 e Q q =>
  ⟨_, hi, hb H1 e _ fun H2 e2 => ⟨D, dd, fs, rfl, rfl, e2 _ _ (e _ _ hh), T, .inl ⟨c, u, b, rfl, hp, hk, q H2 e2⟩⟩⟩
theorem ev_xf {σ : L2.St} {H : Hp} {i : Nat} {a C dd : Addr} {fs : List (Str × V)} {f : Str} {v : V} (hi : σ[i]? = some (some (.ref a))) (hh : H dd = some (.xd fs)) (hl : fs.lookup f = some v) : Ev (tXf a (.ref C) (some dd) C f (tVar i)) σ H v := fun H1 e Q q =>
  ⟨_, hi, rfl, rfl, dd, fs, v, rfl, e _ _ hh, hl, q H1 (Ex.refl _)⟩
end Kz
namespace Kz
open PySem PySem.Spec PyProof.Rows L2
/-! ### a set of texts: what it holds -/
def keyT (e : Int × Value) : Str := match e.2 with
  | .str k _ => k
  | _ => Str.empty
def GdT (w : World) (e : Int × Value) : Prop := ∃ (k : Str) (tk : Tok), e = (hashStr w k, Value.str k tk)
structure TSet (w : World) (es : Array (Int × Value)) (t : SetTable) (ks : List Str) : Prop where
  good : ∀ e ∈ es.toList, GdT w e
  nd : (es.toList.map keyT).Nodup
  mem : ∀ k, k ∈ es.toList.map keyT ↔ k ∈ ks
  le : es.size ≤ ks.length
  fits : t.fits es.size = true
  ris : Ris t.place.toList
  led : w.params.followText "set-order" = true ∨ t.led = true
def SetTx (w : World) (h : Heap) (a : Addr) (ks : List Str) : Prop := ∃ (o : Obj) (es : Array (Int × Value)) (ep : Nat) (t : SetTable), h.get? a = some o ∧ o.ExactSet ∧ o.data = .set es ep t ∧ TSet w es t ks
section
variable {P : Program} {w : World}
theorem gd_elems {l : List (Int × Value)} (g : ∀ e ∈ l, GdT w e) : ElemsOf (PySem.strKind P w) l := fun e he => by
  obtain ⟨k, tk, rfl⟩ := g e he
  exact ⟨⟨k, strKind_is P w k tk, rfl⟩, rfl⟩
theorem gd_is {e : Int × Value} (g : GdT w e) (k : Str) : (PySem.strKind P w).is k e.2 = true ↔ keyT e = k := by
  obtain ⟨k0, tk, rfl⟩ := g
  constructor
  · intro h
    have h' : Value.isStrOf k (.str k0 tk) = true := h
    obtain ⟨t, ht⟩ := Value.isStrOf_shape h'
    injection ht with h1 h2
  · intro h
    have h' : k0 = k := h
    rw [← h']
    exact strKind_is P w k0 tk
end
section
variable {P : Program} {w : World} {A : Around} {E : Value → Shared → Prop} {s : Shared} {a : Addr} {ks : List Str}
theorem SetTx.keep {h h' : Heap} (R : SetTx w h a ks) (k : ∀ o, h.get? a = some o → h'.get? a = some o) : SetTx w h' a ks :=
  let ⟨o, es, ep, t, ho, r⟩ := R
  ⟨o, es, ep, t, k o ho, r⟩
theorem tx_found {es : Array (Int × Value)} {t : SetTable} (T : TSet w es t ks) {k : Str} (h : k ∈ es.toList.map keyT) : TSet w es t (ks ++ [k]) :=
  { T with
    mem := fun i => by
      rw [T.mem i, List.mem_append, List.mem_singleton]
      exact ⟨.inl, fun z => z.elim id fun e => e ▸ (T.mem k).mp h⟩
    le := by
      rw [List.length_append]
      exact Nat.le_add_right_of_le T.le }
/-- the last steps of an add: stored, and laid anew where the table is too full -/
theorem tx_tail {g : Bool → Sem Unit} (hg : ∀ (b : Bool) (s₁ : Shared) (Q' : Unit → Shared → Prop), Q' () s₁ → wpAny (model P w) A (g b) Q' E s₁) {o : Obj} {es : Array (Int × Value)} {ep : Nat} {t : SetTable} (ho : s.heap.get? a = some o) (hx : o.ExactSet) (hd : o.data = .set es ep t)
    {es1 : Array (Int × Value)} {t2 : SetTable} (T : TSet w es1 t2 ks) (hk : ks.length < scanBound) {dummy : Bool} {R : Option Bool → Shared → Prop} (hR : ∀ h', Heap.SameBut a s.heap h' → SetTx w h' a ks → R (some true) { s with heap := h' }) :
    wpAny (model P w) A (storeSet a es1 t2 >>= fun _ =>
      if (!dummy && t2.tooFull) = true then g (relayAll t2 es1 (SetTable.grown es1.size)).2.2 >>= fun _ => storeSet a (relayAll t2 es1 (SetTable.grown es1.size)).1 (relayAll t2 es1 (SetTable.grown es1.size)).2.1 >>= fun _ => pure (some true)
      else pure (some true)) R E s := by
  have hb : es1.size < scanBound := Nat.lt_of_le_of_lt T.le hk
  refine wpAny_bind (wpAny_storeSet_of ho hd ?_ (fits_of_scanBound hb))
  have ho1 := store_at (es' := es1) (t' := t2) ho hd
  have same1 := Heap.SameBut.update s.heap a (Obj.putSet es1 t2)
  by_cases hc : (!dummy && t2.tooFull) = true
  · rw [if_pos hc]
    have p1 := relayAll_perm t2 es1 (SetTable.grown es1.size)
    have p2 := relayAll_fits t2 es1 (SetTable.grown es1.size)
    have p3 := relayAll_ris t2 es1 (SetTable.grown es1.size)
    have p4 := relayAll_led t2 es1 (SetTable.grown es1.size)
    generalize relayAll t2 es1 (SetTable.grown es1.size) = Z at p1 p2 p3 p4 ⊢
    have hsz : Z.1.size = es1.size := by
      have := p1.length_eq
      simpa using this
    refine wpAny_bind (hg _ _ _ (wpAny_bind (wpAny_storeSet_of ho1 rfl ?_ (fits_of_scanBound (by rw [hsz]; exact hb)))))
    have ho2 := store_at (es' := Z.1) (t' := Z.2.1) ho1 rfl
    exact wpAny_pure (hR _ (same1.trans (Heap.SameBut.update _ a _)) ⟨_, Z.1, _, Z.2.1, ho2, hx, rfl, {
      good := fun e he => T.good e (p1.mem_iff.mp he)
      nd := (p1.map keyT).nodup_iff.mpr T.nd
      mem := fun k => (p1.map keyT).mem_iff.trans (T.mem k)
      le := by rw [hsz]; exact T.le
      fits := p2
      ris := p3
      led := T.led.imp id fun z => by rw [p4]; exact z }⟩)
  · rw [if_neg hc]
    exact wpAny_pure (hR _ same1 ⟨_, es1, _, t2, ho1, hx, rfl, T⟩)
/-- a text added -/
theorem tx_add {k : Str} {tk : Tok} {Q : Bool → Shared → Prop} (R : SetTx w s.heap a ks) (room : ks.length + 1 < scanBound) (hQ : ∀ b h', Heap.SameBut a s.heap h' → SetTx w h' a (ks ++ [k]) → Q b { s with heap := h' }) :
    wpAny (model P w) A (setAddHashed a (.str k tk) (hashStr w k)) Q E s := by
  obtain ⟨o, es, ep, t, ho, hx, hd, T⟩ := R
  have isk : (PySem.strKind P w).is k (.str k tk) = true := strKind_is P w k tk
  have scn : (Value.str k tk).scannable = true := rfl
  have els : ElemsOf (PySem.strKind P w) es.toList := gd_elems T.good
  have hb : es.size < scanBound := by have := T.le; omega
  unfold setAddHashed setAddHashedIn
  refine wpAny_holding (wpAny_bind (wpAny_setState_of ho hd T.fits ?_))
  dsimp only
  rw [byScan_of scn hb els]
  simp only [↓reduceIte]
  unfold setAddByScan
  refine wpAny_bind (wpAny_bind (wpAny_rule (wpAny_bind (wpAny_setScan_of (knd := PySem.strKind P w) isk ho hd T.fits els ?_))))
  cases hf : List.findIdx? (fun e => (PySem.strKind P w).is k e.2) es.toList with
  | some j =>
    dsimp only
    obtain ⟨hj, pj, _⟩ := List.findIdx?_eq_some_iff_getElem.mp hf
    have hm : k ∈ es.toList.map keyT := List.mem_map.mpr ⟨_, List.getElem_mem hj, (gd_is (P := P) (T.good _ (List.getElem_mem hj)) k).mp pj⟩
    exact wpAny_pure (wpAny_pure (hQ _ s.heap (Heap.SameBut.refl a s.heap) ⟨o, es, ep, t, ho, hx, hd, tx_found T hm⟩))
  | none =>
    dsimp only
    have hno : k ∉ es.toList.map keyT := fun z => by
      obtain ⟨e, he, q⟩ := List.mem_map.mp z
      have c := List.findIdx?_eq_none_iff.mp hf e he
      rw [(gd_is (P := P) (T.good e he) k).mpr q] at c
      cases c
    have p1 := layNew_perm t es (hashStr w k) (.str k tk)
    have p2 := layNew_fits t es (hashStr w k) (.str k tk)
    have p3 := layNew_ris t es (hashStr w k) (.str k tk) T.ris
    have p4 := layNew_led t es (hashStr w k) (.str k tk)
    have pass : ∀ (b : Bool) {s₁ : Shared} {Q' : Unit → Shared → Prop}, Q' () s₁ → wpAny (model P w) A (match b with | true => rule "set.scan.the-table-gave-way" | false => pure ()) Q' E s₁ := fun b s₁ Q' q => by
      cases b
      · exact wpAny_pure q
      · exact wpAny_rule q
    generalize layNew t es (hashStr w k) (.str k tk) = Z at p1 p2 p3 p4 ⊢
    obtain ⟨es1, t1, dummy, gave⟩ := Z
    dsimp only at p1 p2 p3 p4 ⊢
    rw [Array.toList_push] at p1
    have pc : es1.toList.Perm ((hashStr w k, Value.str k tk) :: es.toList) := p1.trans (List.perm_append_singleton _ _)
    have pk : (es1.toList.map keyT).Perm (k :: es.toList.map keyT) := pc.map keyT
    have T1 : ∀ t', t'.fits es1.size = true → Ris t'.place.toList → (w.params.followText "set-order" = true ∨ t'.led = true) → TSet w es1 t' (ks ++ [k]) := fun t' h1 h2 h3 => {
      good := fun e he => (List.mem_cons.mp (pc.mem_iff.mp he)).elim (fun z => ⟨k, tk, z⟩) (T.good e)
      nd := pk.nodup_iff.mpr (List.nodup_cons.mpr ⟨hno, T.nd⟩)
      mem := fun i => by
        rw [pk.mem_iff, List.mem_cons, List.mem_append, List.mem_singleton, T.mem i]
        exact Or.comm
      le := by
        have h := pc.length_eq
        rw [Array.length_toList, List.length_cons, Array.length_toList] at h
        rw [List.length_append, List.length_singleton]
        have := T.le
        omega
      fits := h1
      ris := h2
      led := h3 }
    have hled : w.params.followText "set-order" = true ∨ t1.led = true := T.led.imp id fun z => by rw [p4]; exact z
    have hkl : (ks ++ [k]).length < scanBound := by
      rw [List.length_append, List.length_singleton]
      exact room
    refine wpAny_bind (pass _ ?_)
    split
    · refine wpAny_bind ?_
      rw [hashByValue_scannable 8 scn]
      refine wpAny_pure (tx_tail (ks := ks ++ [k]) (fun b s₁ Q' q => by cases b <;> first | exact wpAny_pure q | exact wpAny_rule q) ho hx hd (T1 _ ?_ ?_ ?_) hkl fun h' sb r => ?_)
      · first | (split <;> first | exact p2 | exact SetTable.fits_plain_off p2) | exact p2
      · first | (split <;> exact p3) | exact p3
      · first | (split <;> exact hled) | exact hled
      · dsimp only
        exact wpAny_pure (hQ _ h' sb r)
    · refine wpAny_bind (wpAny_pure ?_)
      simp only [↓reduceIte]
      refine tx_tail (ks := ks ++ [k]) (fun b s₁ Q' q => by cases b <;> first | exact wpAny_pure q | exact wpAny_rule q) ho hx hd (T1 _ p2 p3 hled) hkl fun h' sb r => ?_
      dsimp only
      exact wpAny_pure (hQ _ h' sb r)
/-- walking what is to be added -/
theorem tx_loop {R : Result → Shared → Prop} {I : Addr} {fp wr : List Addr} {G : Array GenState → Array GenState → Prop} {n : Nat} {Pv : Nat → Value → Prop} {St : Nat → Shared → Prop} (W : WalksS P w A.in1 I fp wr G n Pv St) (S : Addr) (hS : S ∉ fp) (xs : List Str) (hn : xs.length = n) (room : n + 1 < scanBound)
    (hval : ∀ i v, Pv i v → ∃ t, v = .str (xs.getD i Str.empty) t) : ∀ (k i : Nat) (s : Shared), n - i = k → i ≤ n → St i s → SetTx w s.heap S (xs.take i) →
      (∀ s', Moved (S :: wr) G s s' → SetTx w s'.heap S xs → R (.ok (.ret .none)) s') → codeAny (model P w) A (.builtin "set.update.loop" ⟨[.ref S, .ref I], []⟩) R s := by
  have hSw : S ∉ wr := fun h => hS (W.sub _ h)
  have more : ∀ b ∈ wr, b ∈ S :: wr := fun b hb => List.mem_cons_of_mem _ hb
  intro k
  induction k with
  | zero =>
    intro i s hk hi st hs hR
    obtain rfl : i = n := by omega
    refine codeAny_builtin PyProof.Rows.F.entry_set_update_loop ?_
    rw [Around.under_plainId PyProof.Rows.F.plain_set_update_loop _]
    show wpAny _ A.in1 (pyNext (.ref I) >>= _) _ _ s
    refine wpAny_bind (W.done s _ _ st fun s' hm => ?_)
    show wpAny _ A.in1 (ret Value.none) _ _ s'
    rw [List.take_of_length_le (by omega)] at hs
    exact wpAny_pure (hR s' (hm.mono more) (hs.keep fun o ho => hm.heap S o hSw ho))
  | succ k ih =>
    intro i s hk hi st hs hR
    have hlt : i < n := by omega
    refine codeAny_builtin PyProof.Rows.F.entry_set_update_loop ?_
    rw [Around.under_plainId PyProof.Rows.F.plain_set_update_loop _]
    show wpAny _ A.in1 (pyNext (.ref I) >>= _) _ _ s
    refine wpAny_bind (W.item i s _ _ hlt st fun v s' hP st' hm => ?_)
    obtain ⟨t, rfl⟩ := hval i v hP
    have hs' : SetTx w s'.heap S (xs.take i) := hs.keep fun o ho => hm.heap S o hSw ho
    have tk1 : xs.take i ++ [xs.getD i Str.empty] = xs.take (i + 1) := by
      rw [List.take_add_one, List.getD_eq_getElem?_getD, List.getElem?_eq_getElem (by omega)]
      rfl
    show wpAny _ A.in1 (holding [Value.str (xs.getD i Str.empty) t] (setAdd S (.str (xs.getD i Str.empty) t)) >>= _) _ _ s'
    refine wpAny_bind (wpAny_holding ?_)
    unfold setAdd
    refine wpAny_holding (wpAny_bind ((PySem.strKind P w).pyHash (k := xs.getD i Str.empty) (strKind_is _ _ _ _) ?_))
    have len : (xs.take i).length + 1 < scanBound := by
      rw [List.length_take]
      omega
    refine tx_add (s := { s' with toks := s'.toks + 1 }) hs' len fun b h' sb r => ?_
    rw [tk1] at r
    refine wpAny_pure ⟨plainId_quiet PyProof.Rows.F.plain_set_update_loop _, ih (i + 1) _ (by omega) hlt (W.frame _ s' _ _ st' (Nat.le_succ _) fun b hb o e => ?_) r fun s'' hm2 hs2 => ?_⟩
    · rw [sb.2 b (fun z => hS (z ▸ hb))]
      exact e
    · refine hR s'' (Moved.trans W.gtrans ((hm.mono more).then_heap (Nat.le_succ _) fun b o hb e => ?_) hm2) hs2
      rw [sb.2 b (fun z => hb (by rw [z]; exact List.mem_cons_self))]
      exact e
/-- sorted(a set of texts) -/
theorem tx_sorted {Q : Value → Shared → Prop} (R : SetTx w s.heap a ks) (hh : A.handled = none) (h64 : ks.length < 64)
    (hQ : ∀ s' p (out : Array Value) (c : Nat) (ys : List Str), (∀ b o, s.heap.get? b = some o → s'.heap.get? b = some o) → s'.gens = s.gens → s'.os = s.os → s.heap.objs.size ≤ p → s'.heap.get? p = some (seqObj "list" out c) →
      StrsAre out.toList ys → sortedS ys = true → ys.Nodup → (∀ k, k ∈ ys ↔ k ∈ ks) → ys.length ≤ ks.length → Q (.ref p) s') : wpAny (model P w) A (call (.builtin "sorted") [.ref a]) Q E s := by
  obtain ⟨o, es, ep, t, ho, hx, hd, T⟩ := R
  have hb : es.size < scanBound := by
    have := T.le
    unfold scanBound
    omega
  refine Calls.call_function_entry kind_sorted plain_sorted entry_sorted (args_sorted1 _) ?_
  unfold Builtin.«sorted»
  refine wpAny_bind (m := checkCount "sorted" 1 1 _) (wpAny_pure ?_)
  refine wpAny_bind (collect_set (A := A.in1) hh ⟨o, ho, hx.1, hd⟩ T.fits hb T.ris T.led fun s1 vs k1 hz g1 o1 pm => ?_)
  have hvl : vs.length = es.size := by rw [pm.length_eq, List.length_map, Array.length_toList]
  have every : ∀ v ∈ vs, ∃ (x : Str) (tk : Tok), v = Value.str x tk := fun v hv => by
    obtain ⟨e, he, q⟩ := List.mem_map.mp (pm.mem_iff.mp hv)
    obtain ⟨k, tk, rfl⟩ := T.good e he
    exact ⟨k, tk, q.symm⟩
  have hS : StrsAre vs (vs.map strOf) := strsAre_map vs every
  have pk : (vs.map strOf).Perm (es.toList.map keyT) := by
    have q := pm.map strOf
    rw [List.map_map] at q
    exact q.trans (List.Perm.of_eq (List.map_congr_left fun e he => by
      obtain ⟨k, tk, rfl⟩ := T.good e he
      rfl))
  have hv64 : vs.length < 64 := by have := T.le; omega
  refine wpAny_bind (wpAny_newList ?_ (by rw [sizeLine_eq]; omega))
  have hL : (s1.heap.push (seqObj "list" vs.toArray 0)).get? s1.heap.objs.size = some (seqObj "list" vs.toArray 0) := Heap.get?_push_size _ rfl
  refine wpAny_bind (wpAny_holding (wpAny_call_entry slot_list_sort ⟨_, hL, rfl⟩ entry_list_sort (list_sort_treeK PyProof.Rows.strKind_oneLt hL hS.keysOf (fun v₁ v₂ rest e => keyKind_strs (by rw [← e]; exact hS)) hv64 fun st' hp hs => ⟨_, rfl, ?_⟩) (args_list_sort _)))
  obtain ⟨ys, y1, y2, y3⟩ := sorted_out_str hS hp hs
  obtain ⟨c, hc⟩ := sortedHeap_at (vs := vs) (out := (arrOf st').map (·.2)) hL
  have py := y2.trans pk
  refine wpAny_pure ⟨_, rfl, hQ _ s1.heap.objs.size _ c ys (fun b u e => ?_) g1 o1 hz hc y1 y3 (py.nodup_iff.mpr T.nd) (fun k => by rw [py.mem_iff, T.mem k]) ?_⟩
  · have q := k1 b u e
    have lt := Heap.lt_size q
    show (sortedHeap (s1.heap.push (seqObj "list" vs.toArray 0)) s1.heap.objs.size vs _).get? b = some u
    rw [sortedHeap_old (Nat.ne_of_lt lt) (by rw [size_push']; exact Nat.lt_succ_of_lt lt)]
    exact Heap.get?_push_of_some _ q
  · rw [py.length_eq, List.length_map, Array.length_toList]
    exact T.le
/-- the empty set that set(..) begins with -/
abbrev newTx (w : World) : Obj := { cls := .type "set", dict := none, data := .set #[] 0 (.fresh 0 0 (!w.params.followText "set-order")) }
theorem tx_fresh {h : Heap} (ho : h.get? a = some (newTx w)) : SetTx w h a [] := ⟨_, #[], 0, _, ho, ⟨rfl, rfl, rfl⟩, rfl, {
  good := fun e he => by simp at he
  nd := by simp
  mem := fun k => by simp
  le := Nat.le_refl _
  fits := rfl
  ris := List.Pairwise.nil
  led := by
    show _ ∨ (!w.params.followText "set-order") = true
    cases w.params.followText "set-order" with
    | true => exact .inl rfl
    | false => exact .inr rfl }⟩
theorem tx_code (x : Value) {Q₁ : Value → Shared → Prop} (h : Q₁ (.ref s.heap.objs.size) { s with heap := s.heap.push (newTx w) }) : codeAny (model P w) A (.call (.builtin "set.__new__") ⟨[.type "set", x], []⟩) (wants Q₁ E) s := by
  refine codeAny_of_tree ?_
  show wpAny _ A.in1 (do checkBuiltinCall "set.__new__" ⟨[.type "set", x], []⟩; again (.builtin "set.__new__" ⟨[.type "set", x], []⟩)) _ _ s
  refine wpAny_bind (wpAny_of_eq (PySem.F.newCall_set_1 x) (wpAny_pure ⟨plainId_quiet F.plain_set_new _, codeAny_builtin F.entry_set_new ?_⟩))
  rw [Around.under_plainId F.plain_set_new _]
  unfold Builtin.«set.__new__» Builtin.Frozenset.newClass
  have sb := sub_set_self
  obtain ⟨hp, g, d, tk, os⟩ := s
  dsimp only
  wp_walk
  refine wpAny_askSetting (wpAny_pure ?_)
  dsimp only
  simp only [newObj]
  exact wpAny_bind (wpAny_alloc (wpAny_pure (wpAny_pure h)))
set_option maxHeartbeats 8000000 in
/-- set(a list of texts) -/
theorem tx_list {l : Addr} {items : Array Value} {xs : List Str} {Q : Value → Shared → Prop} (hh : A.handled = none) (hl : s.heap.IsList l items) (hi : StrsAre items.toList xs) (room : xs.length + 1 < scanBound)
    (h : ∀ (h' : Heap) (tk : Nat), SetTx w h' s.heap.objs.size xs → (∀ b o, s.heap.get? b = some o → h'.get? b = some o) → Q (.ref s.heap.objs.size) { s with heap := h', toks := tk }) : wpAny (model P w) A (call (.type "set") [.ref l]) Q E s := by
  obtain ⟨c, tl, hmro⟩ := PySem.F.called_set.mro
  have hmade := PySem.F.called_set.made
  have hsub := PySem.F.called_set.sub
  refine wpAny_call (codeAny_of_tree ?_)
  show wpAny _ _ (callAny (.type "set") _) _ _ _
  refine wpAny_pure ⟨Code.quiet_builtin _ (by decide +kernel), codeAny_builtin PySem.F.entry_type_call ?_⟩
  rw [Around.under_plain (weight_type_call_type "set" [.ref l] []) rfl]
  have h1 := PySem.F.called_set.notType
  have h2 := PySem.F.called_set.canCreate
  have hct := PySem.F.typeCall_set_1 (.ref l)
  repeat (any_goals (first | assumption | wp_step))
  refine codeAny_mono (tx_code (.ref l) (E := E) (Q₁ := fun obj s₁ => obj = .ref s.heap.objs.size ∧ s₁ = { s with heap := s.heap.push (newTx w) }) ⟨rfl, rfl⟩) fun r s₁ hr => ?_
  match r, hr with
  | .error e, hr => exact hr
  | .ok .next, hr => exact hr.elim
  | .ok .brk, hr => exact hr.elim
  | .ok .cont, hr => exact hr.elim
  | .ok (.ret obj), hr =>
    obtain ⟨rfl, rfl⟩ := hr
    have hS : (s.heap.push (newTx w)).get? s.heap.objs.size = some (newTx w) := Heap.get?_push_size _ rfl
    have hT : Shared.TypeIs { s with heap := s.heap.push (newTx w) } (.ref s.heap.objs.size) "set" := ⟨_, hS, rfl⟩
    have hli := PySem.F.called_set.init.lookup
    have hbi := PySem.F.called_set.init.bind (.ref s.heap.objs.size)
    repeat (any_goals (first | assumption | wp_step))
    refine codeAny_mono (codeAny_call_builtin (R := wants (fun r s₂ => r = .none ∧ ∃ h' tk, s₂ = { s with heap := h', toks := tk } ∧ SetTx w h' s.heap.objs.size xs ∧ (∀ b o, s.heap.get? b = some o → h'.get? b = some o)) E) PySem.F.called_set.init.plain PySem.F.entry_set_init (check_set_init_1 hT ?_)) fun r₂ s₂ hr₂ => ?_
    · obtain ⟨ol, hol, hcl, nl, hdl⟩ := hl
      obtain ⟨oc, od, odt, osl⟩ := ol
      simp only at hcl hdl
      subst hcl hdl
      have hol' : (s.heap.push (newTx w)).get? l = some { cls := .type "list", dict := od, data := .seq items nl, slots := osl } := Heap.get?_push_of_some _ hol
      have n1 := PySem.F.sub_list_set
      have n2 := PySem.F.sub_list_frozenset
      have n3 : (Value.type "list" == Value.type "dict") = false := by decide
      have hl1 : (s.heap.push (newTx w)).IsList l items := ⟨_, hol', rfl, nl, rfl⟩
      unfold Builtin.«set.__init__» noKeywords Builtin.Frozenset.updateFrom
      generalize hPI : pyIter = PI
      wp_walk
      subst hPI
      refine wpAny_pyIter_list hl1 (wpAny_bind (wpAny_runValue ?_))
      have lt := Heap.lt_size hol
      have hz : (s.heap.push (newTx w)).objs.size = s.heap.objs.size + 1 := size_push' _ _
      have hh3 : A.in1.in1.in1.handled = none := by simp [hh]
      have neI : l ≠ (s.heap.push (newTx w)).objs.size := by
        rw [hz]
        exact Nat.ne_of_lt (Nat.lt_succ_of_lt lt)
      have nS : s.heap.objs.size ∉ [(s.heap.push (newTx w)).objs.size, l] := by
        rw [hz]
        simp only [List.mem_cons, List.not_mem_nil, or_false, not_or]
        exact ⟨Nat.ne_of_lt (Nat.lt_succ_self _), Nat.ne_of_gt lt⟩
      have hsz : xs.length = items.size := by rw [← StrsAre.len_eq hi, Array.length_toList]
      refine tx_loop ((Walks.list hh3 _ l neI items).toS) s.heap.objs.size nS xs hsz (by omega) (fun i v hv => SS.strs_at hi i v (by rw [Array.getElem?_toList]; exact hv)) (items.size - 0) 0 _ (by omega) (Nat.zero_le _) ⟨⟨_, Heap.get?_push_size _ rfl, rfl, rfl⟩, (hl1.push _)⟩ ?_ ?_
      · rw [List.take_zero]
        exact tx_fresh (Heap.get?_push_of_some _ hS)
      · intro s' hm hs'
        obtain ⟨h', g', d', tk', os'⟩ := s'
        have eg : g' = s.gens := hm.gens
        have ed : d' = s.drawn := hm.drawn
        have eo : os' = s.os := hm.os
        subst eg ed eo
        show wpAny _ _ _ _ _ _
        refine wpAny_pure ?_
        show wpAny _ _ (ret Value.none) _ _ _
        refine wpAny_pure ⟨rfl, h', tk', rfl, hs', fun b o e => ?_⟩
        have hb := Heap.lt_size e
        exact hm.heap b o (by simp only [List.mem_cons, List.not_mem_nil, or_false, not_or]; exact ⟨Nat.ne_of_lt hb, by rw [size_push']; exact Nat.ne_of_lt (Nat.lt_succ_of_lt hb)⟩) (Heap.get?_push_of_some _ (Heap.get?_push_of_some _ e))
    · match r₂, hr₂ with
      | .error e, hr₂ => exact hr₂
      | .ok .next, hr₂ => exact hr₂.elim
      | .ok .brk, hr₂ => exact hr₂.elim
      | .ok .cont, hr₂ => exact hr₂.elim
      | .ok (.ret r), hr₂ =>
        obtain ⟨rfl, h', tk, rfl, hs', hk'⟩ := hr₂
        repeat (any_goals (first | assumption | wp_step))
        exact h _ _ hs' hk'
end
/-! ### the rules -/
def SetX (w : World) (a : Addr) (ks : List Str) : HO := .ext fun h => SetTx w h a ks
theorem setX_new {P : Program} {w : World} {H : Hp} {h : Heap} {a : Addr} {ks : List Str} (R : SetTx w h a ks) : ObjOk P w H h a (SetX w a ks) := by
  have ⟨o, _, _, _, ho, _⟩ := R
  exact ⟨R, ⟨o, ho⟩, fun h1 h2 p k => p.keep k⟩
/-- set(a list of texts) -/
def rSetTx (K : PySem.W.Frag) (w : World) : List V → Hp → VK → Prop := fun vs H Q => ∃ (l : Addr) (ks : List Str), vs = [.ref l] ∧ SqL K H l (ks.map V.str) ∧ ks.length < 64 ∧ ∀ a, H a = none → Q (.ref a) (upd H a (SetX w a ks))
/-- sorted(a set of texts) -/
def rSortTx (w : World) : List V → Hp → VK → Prop := fun vs H Q => ∃ (a : Addr) (ks : List Str), vs = [.ref a] ∧ H a = some (SetX w a ks) ∧ ks.length < 64 ∧
  ∀ (ys : List Str) (p : Addr), sortedS ys = true → ys.Nodup → (∀ k, k ∈ ys ↔ k ∈ ks) → H p = none → Q (.ref p) (upd H p (.lst (ys.map V.str)))
theorem cr_setTx {X : Cx} (hc : X.calm = true) : CallR X (.type "set") (rSetTx X.K X.w) := by
  intro pins s σ H vs us Q I r h
  obtain ⟨l, ks, rfl, hs, h64, q⟩ := h
  obtain ⟨its, rv, hl, _⟩ := I.list hs
  rw [Vals.ref1 r]
  refine tx_list (I.ok.hd hc) hl.isList rv.strs (by unfold scanBound; omega) fun h' tk R kp => ?_
  have fresh : H s.heap.objs.size = none := I.hok.fresh (Nat.le_refl _)
  exact ⟨.ref _, upd H s.heap.objs.size (SetX X.w s.heap.objs.size ks), I.laid (t' := tk) kp (Nat.le_refl _) (setX_new R), rfl, q _ fresh⟩
theorem cr_sortTx {X : Cx} (hc : X.calm = true) : CallR X (.builtin "sorted") (rSortTx X.w) := by
  intro pins s σ H vs us Q I r h
  obtain ⟨a, ks, rfl, ha, h64, q⟩ := h
  have R : SetTx X.w s.heap a ks := (show ObjOk X.prog X.w H s.heap a (.ext fun h => SetTx X.w h a ks) from I.hok a _ ha).1
  rw [Vals.ref1 r]
  refine tx_sorted R (I.ok.hd hc) h64 fun s' p out c ys k g o hp hg hi hs hn hm hl => ?_
  have small : (ys.map V.str).length ≤ sizeLine := by rw [List.length_map, sizeLine_eq]; omega
  have fresh : H p = none := I.hok.fresh hp
  have J : Inv X pins σ (upd H p (.lst (ys.map V.str))) { s with heap := s'.heap, gens := s'.gens, drawn := s'.drawn, toks := s'.toks } :=
    I.call (ch := []) (Un.laid k hp fresh) (I.hok.laid k hp ⟨small, out.toList, c, vals_of_strs hi, hg⟩) (by rw [g]; exact I.bare) (fun _ z => nomatch z)
  obtain ⟨h1, h2, h3, h4, h5⟩ := s'
  obtain rfl : h5 = s.os := o
  exact ⟨.ref p, _, J, rfl, q ys p hs hn hm fresh⟩
open Evl
/-! ### one sorted list of given texts -/
theorem rising_pw : ∀ (l : List Str) (p : Str), risingS p l = true → (∀ b ∈ l, ltCps b.cps.toList p.cps.toList = false) ∧ l.Pairwise (fun a b => ltCps b.cps.toList a.cps.toList = false)
  | [], p, _ => ⟨fun b hb => (nomatch hb), .nil⟩
  | x :: r, p, h => by
    unfold risingS at h
    obtain ⟨h1, h2⟩ := Bool.and_eq_true_iff.mp h
    obtain ⟨k1, k2⟩ := rising_pw r x h2
    have h0 : ltCps x.cps.toList p.cps.toList = false := by simpa using h1
    refine ⟨fun b hb => ?_, .cons k1 k2⟩
    rcases List.mem_cons.mp hb with rfl | hb
    · exact h0
    · have h3 := k1 b hb
      rw [ltCps_eq] at h0 h3 ⊢
      have h0' := of_decide_eq_false h0
      have h3' := of_decide_eq_false h3
      exact decide_eq_false fun z => h0' (List.lt_of_le_of_lt (List.not_lt.mp h3') z)
theorem sortedS_pw {l : List Str} (h : sortedS l = true) : l.Pairwise (fun a b => ltCps b.cps.toList a.cps.toList = false) := by
  cases l with
  | nil => exact .nil
  | cons x r =>
    obtain ⟨k1, k2⟩ := rising_pw r x h
    exact .cons k1 k2
theorem cps_inj {x y : Str} (h : x.cps.toList = y.cps.toList) : x = y := by
  obtain ⟨⟨x⟩⟩ := x
  obtain ⟨⟨y⟩⟩ := y
  have h' : x = y := h
  rw [h']
theorem sortedS_uniq : ∀ {xs ys : List Str}, xs.Pairwise (fun a b => ltCps b.cps.toList a.cps.toList = false) → ys.Pairwise (fun a b => ltCps b.cps.toList a.cps.toList = false) → xs.Nodup → ys.Nodup → (∀ k, k ∈ xs ↔ k ∈ ys) → xs = ys
  | [], [], _, _, _, _, _ => rfl
  | [], y :: t, _, _, _, _, h => (nomatch (h y).mpr List.mem_cons_self)
  | x :: r, [], _, _, _, _, h => (nomatch (h x).mp List.mem_cons_self)
  | x :: r, y :: t, .cons a1 a2, .cons b1 b2, .cons c1 c2, .cons d1 d2, h => by
    have e : x = y := by
      rcases List.mem_cons.mp ((h x).mp List.mem_cons_self) with e | hx
      · exact e
      rcases List.mem_cons.mp ((h y).mpr List.mem_cons_self) with e | hy
      · exact e.symm
      have p1 := b1 x hx
      have p2 := a1 y hy
      rw [ltCps_eq] at p1 p2
      exact cps_inj (List.le_antisymm (List.not_lt.mp (of_decide_eq_false p2)) (List.not_lt.mp (of_decide_eq_false p1)))
    subst e
    rw [sortedS_uniq a2 b2 c2 d2 fun k => ?_]
    constructor
    · intro hk
      rcases List.mem_cons.mp ((h k).mp (List.mem_cons_of_mem _ hk)) with rfl | hk'
      · exact absurd rfl (c1 k hk)
      · exact hk'
    · intro hk
      rcases List.mem_cons.mp ((h k).mpr (List.mem_cons_of_mem _ hk)) with rfl | hk'
      · exact absurd rfl (d1 k hk)
      · exact hk'
/-- sorted(set(a new list of texts)) -/
theorem el_sortSet {K : PySem.W.Frag} {w : World} {σ : L2.St} {H : Hp} {te : TE} {ks ys : List Str} (h : EvL te σ H (ks.map V.str)) (hl : ks.length < 64) (hs : sortedS ys = true) (hn : ys.Nodup) (hm : ∀ k, k ∈ ys ↔ k ∈ ks) :
    EvL (tCB (rSortTx w) (tCons (tCB (rSetTx K w) (tCons te tNil)) tNil)) σ H (ys.map V.str) := fun H1 e Q q =>
  h H1 e _ fun l H2 hl2 e2 h2 => ⟨l, ks, rfl, sq_of h2, hl, fun a ha => ⟨a, ks, rfl, upd_same, hl, fun zs p z1 z2 z3 hp => by
    have ez : zs = ys := sortedS_uniq (sortedS_pw z1) (sortedS_pw hs) z2 hn fun k => (z3 k).trans (hm k).symm
    rw [ez]
    have e3 : Ex H2 (upd H2 a (SetX w a ks)) := Ex.new ha
    exact q p _ (fresh_back (e2.trans e3) hp) ((e2.trans e3).trans (Ex.new hp)) upd_same⟩⟩
end Kz
namespace Kz
open PySem PySem.Spec PyProof.Rows L2 Evl StX

/-- the list a beside the tuple b, turn by turn, in new pairs -/
def ItM (K : PySem.W.Frag) (a b : Addr) : It :=
  ⟨fun i H => ∃ us ws : List V, (SqL K H a us ∧ SqT K H b ws) ∧ i < us.length ∧ i < ws.length,
   fun i H v H' => ∃ m x y, v = .ref m ∧ H m = none ∧ H' = upd H m (.tup [x, y]) ∧ (∀ us, SqL K H a us → us[i]? = some x) ∧ (∀ ws, SqT K H b ws → ws[i]? = some y),
   fun i H => ∃ us ws : List V, (SqL K H a us ∧ SqT K H b ws) ∧ (i = us.length ∨ i = ws.length) ∧ i ≤ us.length ∧ i ≤ ws.length⟩
/-- what such a zip is made of at turn i -/
def atM (a b z c o j k : Addr) (i : Nat) (h : Heap) : Prop :=
  (IsZip h z c o .none ∧ IsTupOf2 h c (.ref j) (.ref k)) ∧ (∃ x y, IsTupOf2 h o x y) ∧ h.IsListIter j a i ∧ h.IsTupleIter k b i
theorem mem5 {z c o j k d : Addr} (h : d ∈ [z, c, o, j, k]) : d = z ∨ d = c ∨ d = o ∨ d = j ∨ d = k := by simpa using h
theorem get_back {xs : List V} {us : List Value} (r : Vals xs us) {i : Nat} {u : Value} (h : us[i]? = some u) : ∃ x, xs[i]? = some x ∧ RelV x u := by
  induction r generalizing i with
  | nil => cases h
  | cons r0 _ ih =>
    cases i with
    | zero =>
      cases h
      exact ⟨_, rfl, r0⟩
    | succ i => exact ih h
theorem turnM {P : Program} {w : World} {K : PySem.W.Frag} {elts : List Expr} {kk : Nat} {tp : Pos} {a b z c o j k : Addr} (S : ZipSep2 z c o j k [j, a] [k, b]) (na : a ≠ j) (nb : b ≠ k) :
    Turn P w K (.Tuple elts kk tp) (ItM K a b) [z, c, o, j, k] z (atM a b z c o j k) where
  mem := List.mem_cons_self
  obj := fun i h st d hd => by
    obtain ⟨⟨g1, g2⟩, ⟨x, y, g3⟩, ⟨p1, r1, _, t1⟩, ⟨p2, r2, _, t2⟩⟩ := st
    rcases mem5 hd with rfl | rfl | rfl | rfl | rfl
    · exact ⟨_, g1, fun v e => nomatch e⟩
    · exact ⟨_, g2, fun v e => nomatch e⟩
    · exact ⟨_, g3, fun v e => nomatch e⟩
    · exact ⟨_, r1, fun v e => by rw [t1] at e; cases e⟩
    · exact ⟨_, r2, fun v e => by rw [t2] at e; cases e⟩
  keep := fun i h h' st kp => by
    obtain ⟨⟨g1, g2⟩, ⟨x, y, g3⟩, g4, g5⟩ := st
    exact ⟨⟨kp z (by simp) _ g1, kp c (by simp) _ g2⟩, ⟨x, y, kp o (by simp) _ g3⟩, g4.at fun u e => kp j (by simp) u e, g5.at fun u e => kp k (by simp) u e⟩
  item := by
    intro X u1 u2 u3 calm i pins s σ H E I free st go
    subst u1 u2 u3
    obtain ⟨⟨g1, g2⟩, ⟨x0, y0, g3⟩, g4, g5⟩ := st
    obtain ⟨us, ws, ⟨q1, q2⟩, n1, n2⟩ := go
    obtain ⟨ts, rv, p, _⟩ := I.list q1
    obtain ⟨ts2, rv2, p2, _⟩ := I.tuple q2
    have m1 := rv.length
    have m2 := rv2.length
    have d1 := Draws.list (prog := X.prog) (w := X.w) (A := X.A.in1) (I.ok.hd calm) j a na ts.toArray
    have d2 := Draws.tuple (prog := X.prog) (w := X.w) (A := X.A.in1) (I.ok.hd calm) k b nb ts2.toArray
    have zl : z < s.heap.objs.size := Heap.lt_size g1
    refine wpAny_pyNext_zipD2_item S d1 d2 g1 g2 g3 ⟨g4, p.isList⟩ ⟨g5, p2⟩ (by simp; omega) (by simp; omega) fun u v h1 tk hu hv e1 e2 e3 e4 nw big kp => ?_
    refine ⟨_, rfl, wpAny_letOwnedTupleGo_zip (s := { s with heap := h1, toks := tk }) e1 fun h2 f1 sb => ?_⟩
    obtain ⟨x, hx, rx⟩ := get_back rv (by simpa using hu)
    obtain ⟨y, hy, ry⟩ := get_back rv2 (by simpa using hv)
    have nw2 : h2.get? s.heap.objs.size = some { cls := .type "tuple", data := .seq #[u, v] } := (sb.2 _ (Nat.ne_of_gt zl)).trans nw
    have ok : ObjOk X.prog X.w (upd H s.heap.objs.size (.tup [x, y])) h2 s.heap.objs.size (.tup [x, y]) :=
      ⟨sz_of (by simp), [u, v], .cons rx (.cons ry .nil), ⟨_, nw2, rfl, _, rfl⟩⟩
    have J : Inv X pins σ (upd H s.heap.objs.size (.tup [x, y])) { s with heap := h2, toks := tk } :=
      I.turnedNew (t' := tk) (ch := [z, c, o, j, k]) (fun d od hd e => (sb.2 d fun w => hd (by simp [w])).trans (kp d od (fun w => hd (by simp [w])) (fun w => hd (by simp [w])) (fun w => hd (by simp [w])) (fun w => hd (by simp [w])) e)) free (Nat.le_refl _) ok
    refine ⟨.ref s.heap.objs.size, _, J, rfl, ⟨_, x, y, rfl, I.hok.fresh (Nat.le_refl _), rfl, fun l hl => by rw [I.list_inj hl q1]; exact hx, fun l hl => by rw [I.tuple_inj hl q2]; exact hy⟩, ⟨⟨f1, ?_⟩, ⟨u, v, ?_⟩, ?_, ?_⟩, fun d hd => ?_⟩
    · exact (sb.2 _ S.TIz).trans (kp _ _ S.TIz S.TITO S.TIi1 S.TIi2 g2)
    · exact (sb.2 _ S.TOz).trans e2
    · exact e3.1.at fun q e => (sb.2 _ S.zi1.symm).trans e
    · exact e4.1.at fun q e => (sb.2 _ S.zi2.symm).trans e
    · have lt : d < s.heap.objs.size := by
        obtain ⟨p1, r1, _⟩ := id g4
        obtain ⟨p2, r2, _⟩ := id g5
        rcases mem5 hd with rfl | rfl | rfl | rfl | rfl
        · exact zl
        · exact Heap.lt_size g2
        · exact Heap.lt_size g3
        · exact Heap.lt_size r1
        · exact Heap.lt_size r2
      rw [upd_ne (Nat.ne_of_lt lt)]
      exact (free d hd).1
  done := by
    intro X u1 u2 u3 calm i pins s σ H E I free st stop
    subst u1 u2 u3
    obtain ⟨⟨g1, g2⟩, ⟨x0, y0, g3⟩, g4, g5⟩ := st
    obtain ⟨us, ws, ⟨q1, q2⟩, n0, n1, n2⟩ := stop
    obtain ⟨ts, rv, p, _⟩ := I.list q1
    obtain ⟨ts2, rv2, p2, _⟩ := I.tuple q2
    have m1 := rv.length
    have m2 := rv2.length
    have d1 := Draws.list (prog := X.prog) (w := X.w) (A := X.A.in1) (I.ok.hd calm) j a na ts.toArray
    have d2 := Draws.tuple (prog := X.prog) (w := X.w) (A := X.A.in1) (I.ok.hd calm) k b nb ts2.toArray
    refine wpAny_pyNext_zipD2_end S d1 d2 g1 g2 g3 ⟨g4, p.isList⟩ ⟨g5, p2⟩ (by simp; omega) (by simp; omega) (by simp; omega) fun h1 tk kp => ⟨rfl, ?_⟩
    exact I.turnedL (t' := tk) (ch := [z, c, o, j, k]) (fun d od hd e => kp d od (fun w => hd (by simp [w])) (fun w => hd (by simp [w])) (fun w => hd (by simp [w])) (fun w => hd (by simp [w])) e) free
  self := fun A i s Q E st h => wpAny_pyIter_zip st.1.1 h
def iZipM (K : PySem.W.Frag) (ta : TA) : TI := fun σ H R => ta σ H fun vs H1 => ∃ (a b : Addr) (us ws : List V), vs = [.ref a, .ref b] ∧ (SqL K H1 a us ∧ SqT K H1 b ws) ∧ R (ItM K a b) H1
theorem pi_zipM {X : Cx} {e1 e2 : Expr} {ta : TA} {p pos tp : Pos} {elts : List Expr} {kk : Nat} (hg : Gl X "zip") (hm : X.mg "zip" = none) (ha : PA X [e1, e2] ta)
    (h1 : starEach [e1, e2] X.env = (false, eval e1 X.env) :: starEach [e2] X.env := by rfl) (h2 : (backTo pos (starEach [e2] X.env)).any (·.1) = false := by rfl) :
    PI X (.Tuple elts kk tp) (.Call (.Name "zip" p) [e1, e2] [] pos) (iZipM X.K ta) := by
  refine ⟨fun pins s σ H R I h => ?_⟩
  refine Call_ (ld_blt I hg hm PyProof.Rows.boot_zip (PyProof.Rows.callWith_type1 (thn (ha.run pos pins s σ H _ I h) fun vs s1 ⟨xs, H1, J, rr, q⟩ => ?_) h1 h2))
  obtain ⟨a, b, us, ws, rfl, ⟨q1, q2⟩, r⟩ := q
  cases rr with
  | cons r1 rr =>
  cases rr with
  | cons r2 rr =>
  cases rr
  cases r1
  cases r2
  obtain ⟨ts, rv, p1, _⟩ := J.list q1
  obtain ⟨ts2, rv2, p2, _⟩ := J.tuple q2
  obtain ⟨o1, l1, _⟩ := id p1.isList
  obtain ⟨o2, l2, _⟩ := id p2
  have lt1 := Heap.lt_size l1
  have lt2 := Heap.lt_size l2
  have sep : ZipSep2 (s1.heap.objs.size + 4) (s1.heap.objs.size + 2) (s1.heap.objs.size + 3) s1.heap.objs.size (s1.heap.objs.size + 1) [s1.heap.objs.size, a] [s1.heap.objs.size + 1, b] :=
    zip_sep2 (fun d hd => by rw [List.mem_singleton.mp hd]; exact lt1) (fun d hd => by rw [List.mem_singleton.mp hd]; exact lt2)
  refine zip_begins2 (begins_list a ts.toArray) (begins_tuple b ts2.toArray) p1.isList p2 fun h' f1 f2 f3 f4 f5 big kp => wpAny_pyIter_zip f1 ?_
  have J2 : Inv X pins σ H1 { s1 with heap := h' } := J.kept (t' := s1.toks) kp
  refine ⟨s1.heap.objs.size + 4, _, _, _, H1, rfl, J2, turnM sep (Nat.ne_of_lt lt1) (show b ≠ s1.heap.objs.size + 1 from Nat.ne_of_lt (Nat.lt_succ_of_lt lt2)), ⟨⟨f1, f2⟩, ⟨_, _, f3⟩, ⟨_, f4, rfl, rfl⟩, ⟨_, f5, rfl, rfl⟩⟩, fun d hd => ?_, r⟩
  have ge : s1.heap.objs.size ≤ d := by
    rcases mem5 hd with e | e | e | e | e
    · rw [e]; exact Nat.le_add_right _ _
    · rw [e]; exact Nat.le_add_right _ _
    · rw [e]; exact Nat.le_add_right _ _
    · rw [e]; exact Nat.le_refl _
    · rw [e]; exact Nat.le_add_right _ _
  exact J.fpOk ge (J.hok.fresh ge)
theorem pi_zipMK {X : Cx} {e1 e2 : Expr} {ta : TA} {p pos tp : Pos} {elts : List Expr} {kk : Nat} (K : PySem.W.Frag) (eK : X.K = K) (hg : Gl X "zip") (hm : X.mg "zip" = none) (ha : PA X [e1, e2] ta)
    (h1 : starEach [e1, e2] X.env = (false, eval e1 X.env) :: starEach [e2] X.env := by rfl) (h2 : (backTo pos (starEach [e2] X.env)).any (·.1) = false := by rfl) :
    PI X (.Tuple elts kk tp) (.Call (.Name "zip" p) [e1, e2] [] pos) (iZipM K ta) := eK ▸ pi_zipM hg hm ha h1 h2
/-- the walk of it -/
theorem walkM {K : PySem.W.Frag} {a b : Addr} {us ws : List V} (hn : us.length = ws.length) : Walk (ItM K a b) us.length (fun H => SqL K H a us ∧ SqT K H b ws) (YPair (fun i => us[i]?) (fun i => ws[i]?)) := by
  refine ⟨fun i H hi q => ⟨us, ws, q, hi, by omega⟩, fun H q => ⟨us, ws, q, .inl rfl, Nat.le_refl _, by omega⟩, fun i H v H' _ q y => ?_⟩
  obtain ⟨m, x, y, h1, h2, h3, h4, h5⟩ := y
  exact ⟨m, x, y, h1, h2, h3, h4 us q.1, h5 ws q.2⟩

/-! ### lists whose items are objects told one by one -/
inductive Rs {α : Type} (R : α → Addr → Hp → Prop) (H : Hp) : List V → List α → Prop
  | nil : Rs R H [] []
  | cons {x : α} {p : Addr} {xs : List α} {vs : List V} : R x p H → Rs R H vs xs → Rs R H (.ref p :: vs) (x :: xs)
section
variable {α β : Type} {R : α → Addr → Hp → Prop} {H H' : Hp} {vs : List V} {xs : List α}
theorem Rs.len (h : Rs R H vs xs) : vs.length = xs.length := by
  induction h with
  | nil => rfl
  | cons _ _ ih => rw [List.length_cons, List.length_cons, ih]
theorem Rs.imp {S : α → Addr → Hp → Prop} (h : Rs R H vs xs) (m : ∀ x p, x ∈ xs → R x p H → S x p H') : Rs S H' vs xs := by
  induction h with
  | nil => exact .nil
  | cons r _ ih => exact .cons (m _ _ List.mem_cons_self r) (ih fun x p hx => m x p (List.mem_cons_of_mem _ hx))
theorem Rs.snoc {x : α} {p : Addr} (h : Rs R H vs xs) (r : R x p H) : Rs R H (vs ++ [.ref p]) (xs ++ [x]) := by
  induction h with
  | nil => exact .cons r .nil
  | cons r0 _ ih => exact .cons r0 ih
theorem Rs.get (h : Rs R H vs xs) {i : Nat} {v : V} (hi : vs[i]? = some v) : ∃ p x, v = .ref p ∧ xs[i]? = some x ∧ R x p H := by
  induction h generalizing i with
  | nil => cases hi
  | cons r0 _ ih =>
    cases i with
    | zero =>
      cases hi
      exact ⟨_, _, rfl, rfl, r0⟩
    | succ i => exact ih hi
theorem Rs.refs (h : Rs R H vs xs) : ∀ v ∈ vs, ∃ r : Addr, v = .ref r := by
  induction h with
  | nil => intro v hv; cases hv
  | cons r0 _ ih =>
    intro v hv
    rcases List.mem_cons.mp hv with rfl | hv
    · exact ⟨_, rfl⟩
    · exact ih v hv
theorem Rs.take (h : Rs R H vs xs) : ∀ n, Rs R H (vs.take n) (xs.take n) := by
  induction h with
  | nil => intro n; rw [List.take_nil, List.take_nil]; exact .nil
  | cons r0 _ ih =>
    intro n
    cases n with
    | zero => exact .nil
    | succ n => exact .cons r0 (ih n)
/-- R stands however the heap grows -/
def Up {α : Type} (R : α → Addr → Hp → Prop) : Prop := ∀ x p H H', Ex H H' → R x p H → R x p H'
/-- R asks nothing of a list of objects elsewhere -/
def Off {α : Type} (R : α → Addr → Hp → Prop) : Prop := ∀ x p H D acc, R x p H → H D = some (.lst acc) → (∀ v ∈ acc, ∃ r : Addr, v = .ref r) → p ≠ D → R x p (hide D H)
theorem Rs.ex (up : Up R) (h : Rs R H vs xs) (e : Ex H H') : Rs R H' vs xs := h.imp fun x p _ r => up x p H H' e r
/-- a new list of such objects, a new such object -/
def EvRs (te : TE) (σ : L2.St) (H : Hp) (R : α → Addr → Hp → Prop) (xs : List α) : Prop := ∀ H1, Ex H H1 → ∀ Q : VK, (∀ l vs H2, H1 l = none → Ex H1 H2 → H2 l = some (.lst vs) → Rs R H2 vs xs → Q (.ref l) H2) → te σ H1 Q
def EvN (te : TE) (σ : L2.St) (H : Hp) (r : Addr → Hp → Prop) : Prop := ∀ H1, Ex H H1 → ∀ Q : VK, (∀ p H2, H1 p = none → Ex H1 H2 → r p H2 → Q (.ref p) H2) → te σ H1 Q
theorem hide_upd {D : Addr} {H : Hp} {o : HO} : hide D (upd H D o) = hide D H := by
  funext a
  by_cases e : a = D
  · rw [e, hide_at, hide_at]
  · rw [hide_ne e, hide_ne e, upd_ne e]
theorem hide_none {D : Addr} {H : Hp} (h : H D = none) : hide D H = H := by
  funext a
  by_cases e : a = D
  · rw [e, hide_at, h]
  · rw [hide_ne e]
/-- Ex past what is hidden -/
theorem ex_hide {D : Addr} {H H' : Hp} (e : Ex H H') : Ex (hide D H) (hide D H') := fun a o h => by
  rw [hide_ne (hide_some h).1]
  exact e a o (hide_some h).2
theorem ex_to_hide {D : Addr} {H H' : Hp} (h : H D = none) (e : Ex H H') : Ex H (hide D H') := by
  have := ex_hide (D := D) e
  rw [hide_none h] at this
  exact this
/-- an iterator that has come -/
def iHere (J : It) (H : Hp) : TI := fun _ _ R => R J H
theorem lcRs {J : It} {n : Nat} {G : Hp → Prop} {Y : Nat → Hp → V → Hp → Prop} (w : Walk J n G Y) {g : TG} {te : TE} {us : List Nat} {σ : L2.St} {H1 H0 : Hp} {Q : VK} (up : Up R) (off : Off R) (hn : n ≤ 100000) (hl : xs.length = n) (hG : ∀ H, Ex H1 H → G H)
    (hs : ∀ i y x H H', xs[i]? = some y → Ex H1 H → Y i H x H' → ∀ k : L2.St → Hp → Prop, (∀ σ2 H2, Ex H H2 → wipe σ2 us = wipe σ us → EvN te σ2 H2 (R y) → k σ2 H2) → g x (wipe σ us) H' k)
    (hq : ∀ l vs H2, H1 l = none → Ex H1 H2 → H2 l = some (.lst vs) → Rs R H2 vs xs → Q (.ref l) H2) : tLc (iHere J H1) g tYes te us σ H0 Q := fun D hD => by
  refine lc_it w (fun i H => ∃ vs, H D = some (.lst vs) ∧ Ex H1 (hide D H) ∧ Rs R (hide D H) vs (xs.take i)) ⟨[], upd_same, ?_, ?_⟩ ?_ ?_ ?_
  · rw [hide_upd, hide_none hD]
    exact Ex.refl _
  · exact .nil
  · rintro i H _ ⟨vs, _, e, _⟩
    exact hG H (e.trans hide_le)
  · rintro i x H H' hi ⟨vs, hv, e, r⟩ y
    obtain ⟨z, hz⟩ : ∃ z, xs[i]? = some z := ⟨xs[i]'(by omega), List.getElem?_eq_getElem (by omega)⟩
    refine hs i z x H H' hz (e.trans hide_le) y _ fun σ2 H2 e2 hw ev => ⟨hw, ?_⟩
    show te σ2 H2 fun y H4 => ∃ acc, H4 D = some (.lst acc) ∧ acc.length < sizeLine ∧ _
    refine ev H2 (Ex.refl _) _ fun p H3 hp e3 rp => ?_
    have hv2 := e2 _ _ hv
    have hv3 := e3 _ _ hv2
    have ne : p ≠ D := fun q => by
      rw [q, hv2] at hp
      cases hp
    have el : vs.length = (xs.take i).length := r.len
    rw [List.length_take] at el
    refine ⟨vs, hv3, sz_lt (by omega), vs ++ [.ref p], upd_same, ?_, ?_⟩
    · rw [hide_upd]
      exact e.trans (ex_hide (e2.trans e3))
    · rw [hide_upd, List.take_add_one, hz]
      exact (r.ex up (ex_hide (e2.trans e3))).snoc (off _ _ _ _ _ rp hv3 r.refs ne)
  · rintro H ⟨vs, hv, e, r⟩
    rw [← hl, List.take_length] at r
    exact hq D vs H hD (e.trans hide_le) hv (r.ex up hide_le)
variable {K : PySem.W.Frag} {σ : L2.St} {te tl : TE}
/-- over a list that stands -/
theorem ers_lc {a : Addr} {us : List V} {j : Nat} {ws : List Nat} (up : Up R) (off : Off R) (h : Ev tl σ H (.ref a)) (hx : SqL K H a us) (hn : us.length ≤ 40000) (hl : xs.length = us.length) (hw : ∀ x, wipe ((wipe σ ws).set j (some x)) ws = wipe σ ws)
    (he : ∀ (i : Nat) (u : V) (y : α) (H1 : Hp), Ex H H1 → us[i]? = some u → xs[i]? = some y → EvN te ((wipe σ ws).set j (some u)) H1 (R y)) : EvRs (tLc (iList K tl) (gName j) tYes te ws) σ H R xs := fun H0 e Q q => h H0 e _ fun H1 e1 => ⟨a, rfl, ⟨us, ex_l (e.trans e1) hx⟩,
  lcRs (H0 := H1) (walk_list (K := K) (a := a) (xs := us)) up off (by omega) hl (fun H2 e2 => ex_l ((e.trans e1).trans e2) hx) (fun i y x H2 H3 hy e2 yy k hk => by
    obtain ⟨rfl, hu⟩ := yy
    exact hk _ _ (Ex.refl _) (hw _) (he i x y _ ((e.trans e1).trans e2) hu hy)) fun l vs H2 hl0 e2 h2 r => q l vs H2 (fresh_back e1 hl0) (e1.trans e2) h2 r⟩
/-- over zip of a list and a tuple -/
theorem ers_zip {ta : TA} {a b : Addr} {us vs : List V} {j k : Nat} {ws : List Nat} (up : Up R) (off : Off R) (h : EvA ta σ H [.ref a, .ref b]) (hx : SqL K H a us) (hy : SqT K H b vs) (hn : us.length ≤ 40000) (hl : xs.length = us.length) (h2 : us.length = vs.length)
    (hw : ∀ x y, wipe (((wipe σ ws).set j (some x)).set k (some y)) ws = wipe σ ws)
    (he : ∀ (i : Nat) (u v : V) (y : α) (H1 : Hp), Ex H H1 → us[i]? = some u → vs[i]? = some v → xs[i]? = some y → EvN te (((wipe σ ws).set j (some u)).set k (some v)) H1 (R y)) : EvRs (tLc (iZipM K ta) (gTup K 2 (gCons (gName j) (gCons (gName k) gNil))) tYes te ws) σ H R xs := fun H0 e Q q => h H0 e _ fun H1 e1 => ⟨a, b, us, vs, rfl, ⟨ex_l (e.trans e1) hx, ex_t (e.trans e1) hy⟩,
  lcRs (H0 := H1) (walkM (K := K) (a := a) (b := b) h2) up off (by omega) hl (fun H2 e2 => ⟨ex_l ((e.trans e1).trans e2) hx, ex_t ((e.trans e1).trans e2) hy⟩) (fun i y x H2 H3 hyi e2 yy kk hk => by
    obtain ⟨m, u, v, rfl, hm, rfl, hu, hv⟩ := yy
    refine ⟨m, [u, v], rfl, st_of upd_same, rfl, u, [v], rfl, v, [], rfl, rfl, ?_⟩
    exact hk _ _ (Ex.new hm) (hw _ _) (he i u v y _ (((e.trans e1).trans e2).trans (Ex.new hm)) hu hv hyi)) fun l vs' H2 hl0 e2 h2 r => q l vs' H2 (fresh_back e1 hl0) (e1.trans e2) h2 r⟩
end

/-! ### xs[::-1] -/
theorem fm_self {α : Type} : ∀ l : List α, (List.range l.length).filterMap (fun k => l[k]?) = l := fun l => by
  have h : (List.range l.length).filterMap (fun k => l[k]?) = (List.range l.length).filterMap fun k => (l.map some).getD k none := by
    congr 1
    funext k
    rw [List.getD_eq_getElem?_getD, List.getElem?_map]
    cases l[k]? <;> rfl
  have g : (List.range l.length).map (fun k => (l.map some).getD k none) = l.map some := by
    apply List.ext_getElem
    · simp
    · intro i h1 h2
      simp at h1 ⊢
      simp [h1]
  have f : (List.range l.length).filterMap (fun k => (l.map some).getD k none) = ((List.range l.length).map fun k => (l.map some).getD k none).filterMap id := by
    rw [List.filterMap_map]
    rfl
  rw [h, f, g, List.filterMap_map]
  show l.filterMap some = l
  exact List.filterMap_some
theorem fm_congr {α β : Type} {f g : α → Option β} : ∀ l : List α, (∀ x ∈ l, f x = g x) → l.filterMap f = l.filterMap g
  | [], _ => rfl
  | x :: l, h => by
    rw [List.filterMap_cons, List.filterMap_cons, h x List.mem_cons_self, fm_congr l fun y hy => h y (List.mem_cons_of_mem _ hy)]
theorem pick_rev (us : List Value) : slicePick us.toArray none none (some (-1)) = us.reverse.toArray := by
  unfold slicePick sliceBounds sliceRange
  have n0 : ¬ ((-1 : Int) > 0) := by decide
  simp only [Option.getD_some, n0, if_false, List.size_toArray]
  have c : (if ((us.length : Int) - 1 > -1) then ((us.length : Int) - 1 - -1 - -1 - 1) / (- -1) else 0) = (us.length : Int) := by
    split
    · rw [show (- -1 : Int) = 1 from rfl, Int.ediv_one]
      omega
    · omega
  rw [c, Int.toNat_natCast, List.filterMap_map]
  congr 1
  have e : us.length = us.reverse.length := (List.length_reverse).symm
  conv => rhs; rw [← fm_self us.reverse]
  rw [← e]
  refine fm_congr _ fun k hk => ?_
  have hk' : k < us.length := List.mem_range.mp hk
  show us.toArray[((us.length : Int) - 1 + -1 * (k : Int)).toNat]? = _
  rw [List.getElem?_reverse hk', show ((us.length : Int) - 1 + -1 * (k : Int)).toNat = us.length - 1 - k by omega]
  simp
def tRev (K : PySem.W.Frag) (te : TE) (ts : TO) : TE := fun σ H Q => te σ H fun x H1 => ts σ H1 fun l H2 => l = some (-1) ∧ ∃ a xs, x = .ref a ∧ SqL K H2 a xs ∧ ∀ p, H2 p = none → Q (.ref p) (upd H2 p (.lst xs.reverse))
theorem vals_rev {xs : List V} {us : List Value} (r : Vals xs us) : Vals xs.reverse us.reverse := by
  refine vals_of_idx _ _ (by rw [List.length_reverse, List.length_reverse, r.length]) fun i u hi => ?_
  have lt := (List.getElem?_eq_some_iff.mp hi).1
  rw [List.length_reverse] at lt
  rw [List.getElem?_reverse lt] at hi
  have n := r.length
  obtain ⟨x, hx, rx⟩ := get_back r hi
  exact ⟨x, by rw [List.getElem?_reverse (by omega), n]; exact hx, rx⟩
theorem pe_rev {X : Cx} {e st : Expr} {te : TE} {ts : TO} {pos p2 : Pos} (he : PE X e te) (hs : PO X (some st) ts) : PE X (.Subscript e (.Slice none none (some st) p2) pos) (tRev X.K te ts) := by
  refine ⟨fun pins s σ H Q I0 h0 => ?_⟩
  refine Subscript_ (thn (he.run pins s σ H _ I0 h0) fun v s1 ⟨x, H1, I1, r1, q1⟩ => wpAny_Slice ?_)
  rw [evalPart_none]
  refine wpAny_pure (wpAny_pure (thn (hs.run pins s1 σ H1 _ I1 q1) fun vs s2 ⟨l, H2, I2, pl, el, a, xs, e1, hx, q⟩ => ?_))
  subst el e1
  cases r1
  have I3 : Inv X pins σ H2 { s2 with heap := s2.heap.push { cls := .type "slice", data := .fields #[.none, .none, vs] } } := I2.kept (t' := s2.toks) fun b ob z => Heap.get?_push_of_some _ z
  obtain ⟨ts', rv, pl2, hz⟩ := I3.list hx
  have n := rv.length
  refine tail_any (ops := [.ref a, .ref s2.heap.objs.size]) pl2.isList.typeIs slot_list_getitem.lookup ?_ (by with_unfolding_all rfl)
  refine wpAny_getItem_list_slice pl2.isList (Heap.IsSliceOf.new ..) .none .none pl (by decide) ?_ (by rw [List.size_toArray]; omega)
  rw [pick_rev]
  refine ⟨.ref _, _, I3.laid (t' := s2.toks) (o := .lst xs.reverse) (fun b ob z => Heap.get?_push_of_some _ z) (Nat.le_refl _) ?_, rfl, q _ (I3.hok.fresh (Nat.le_refl _))⟩
  exact ⟨by rw [List.length_reverse]; exact hz, _, 0, vals_rev rv, Heap.get?_push_size _ rfl⟩
section
variable {K : PySem.W.Frag} {σ : L2.St} {H : Hp} {te : TE} {ts : TO}
theorem el_rev {a : Addr} {xs : List V} (h : Ev te σ H (.ref a)) (hx : SqL K H a xs) (hs : EvO ts σ H (some (-1))) : EvL (tRev K te ts) σ H xs.reverse := fun H0 e0 Q q =>
  h H0 e0 _ fun H1 e1 => hs H1 (e0.trans e1) _ fun H2 e2 => ⟨rfl, a, xs, rfl, ex_l ((e0.trans e1).trans e2) hx, fun l hl => q l _ (fresh_back (e1.trans e2) hl) ((e1.trans e2).trans (Ex.new hl)) upd_same⟩
end

/-! ### items that are fixed values -/
theorem lcVs {J : It} {n : Nat} {G : Hp → Prop} {Y : Nat → Hp → V → Hp → Prop} (w : Walk J n G Y) {g : TG} {te : TE} {us : List Nat} {σ : L2.St} {H1 H0 : Hp} {Q : VK} {xs : List V} (hn : n ≤ 100000) (hl : xs.length = n) (hG : ∀ H, Ex H1 H → G H)
    (hs : ∀ (i : Nat) (y x : V) (H H' : Hp), xs[i]? = some y → Ex H1 H → Y i H x H' → ∀ k : L2.St → Hp → Prop, (∀ σ2 H2, Ex H H2 → wipe σ2 us = wipe σ us → Ev te σ2 H2 y → k σ2 H2) → g x (wipe σ us) H' k)
    (hq : ∀ l H2, H1 l = none → Ex H1 H2 → H2 l = some (.lst xs) → Q (.ref l) H2) : tLc (iHere J H1) g tYes te us σ H0 Q := fun D hD => by
  refine lc_it w (fun i H => H D = some (.lst (xs.take i)) ∧ Ex H1 (hide D H)) ⟨upd_same, ?_⟩ ?_ ?_ ?_
  · rw [hide_upd, hide_none hD]
    exact Ex.refl _
  · rintro i H _ ⟨_, e⟩
    exact hG H (e.trans hide_le)
  · rintro i x H H' hi ⟨hv, e⟩ y
    obtain ⟨z, hz⟩ : ∃ z, xs[i]? = some z := ⟨xs[i]'(by omega), List.getElem?_eq_getElem (by omega)⟩
    refine hs i z x H H' hz (e.trans hide_le) y _ fun σ2 H2 e2 hw ev => ⟨hw, ?_⟩
    show te σ2 H2 fun y H4 => ∃ acc, H4 D = some (.lst acc) ∧ acc.length < sizeLine ∧ _
    refine ev H2 (Ex.refl _) _ fun H3 e3 => ⟨_, e3 _ _ (e2 _ _ hv), sz_lt (by rw [List.length_take]; omega), ?_, ?_⟩
    · rw [upd_same, List.take_add_one, hz]
      rfl
    · rw [hide_upd]
      exact e.trans (ex_hide (e2.trans e3))
  · rintro H ⟨hv, e⟩
    rw [← hl, List.take_length] at hv
    exact hq D H hD (e.trans hide_le) hv
section
variable {K : PySem.W.Frag} {σ : L2.St} {H : Hp} {te tl : TE}
theorem elv_zip {ta : TA} {a b : Addr} {us vs xs : List V} {j k : Nat} {ws : List Nat} (h : EvA ta σ H [.ref a, .ref b]) (hx : SqL K H a us) (hy : SqT K H b vs) (hn : us.length ≤ 40000) (hl : xs.length = us.length) (h2 : us.length = vs.length)
    (hw : ∀ x y, wipe (((wipe σ ws).set j (some x)).set k (some y)) ws = wipe σ ws)
    (he : ∀ (i : Nat) (u v y : V) (H1 : Hp), Ex H H1 → us[i]? = some u → vs[i]? = some v → xs[i]? = some y → Ev te (((wipe σ ws).set j (some u)).set k (some v)) H1 y) : EvL (tLc (iZipM K ta) (gTup K 2 (gCons (gName j) (gCons (gName k) gNil))) tYes te ws) σ H xs := fun H0 e Q q => h H0 e _ fun H1 e1 => ⟨a, b, us, vs, rfl, ⟨ex_l (e.trans e1) hx, ex_t (e.trans e1) hy⟩,
  lcVs (H0 := H1) (walkM (K := K) (a := a) (b := b) h2) (by omega) hl (fun H2 e2 => ⟨ex_l ((e.trans e1).trans e2) hx, ex_t ((e.trans e1).trans e2) hy⟩) (fun i y x H2 H3 hyi e2 yy kk hk => by
    obtain ⟨m, u, v, rfl, hm, rfl, hu, hv⟩ := yy
    refine ⟨m, [u, v], rfl, st_of upd_same, rfl, u, [v], rfl, v, [], rfl, rfl, ?_⟩
    exact hk _ _ (Ex.new hm) (hw _ _) (he i u v y _ (((e.trans e1).trans e2).trans (Ex.new hm)) hu hv hyi)) fun l H2 hl0 e2 h2 => q l H2 (fresh_back e1 hl0) (e1.trans e2) h2⟩
/-- over a list of pairs -/
theorem elv_pairs {a : Addr} {us xs : List V} {j k : Nat} {ws : List Nat} (h : Ev tl σ H (.ref a)) (hx : SqL K H a us) (hn : us.length ≤ 40000) (hl : xs.length = us.length)
    (hw : ∀ x y, wipe (((wipe σ ws).set j (some x)).set k (some y)) ws = wipe σ ws)
    (he : ∀ (i : Nat) (u y : V), us[i]? = some u → xs[i]? = some y → ∃ (p : Addr) (x1 x2 : V), u = .ref p ∧ H p = some (.tup [x1, x2]) ∧ ∀ H1, Ex H H1 → Ev te (((wipe σ ws).set j (some x1)).set k (some x2)) H1 y) : EvL (tLc (iList K tl) (gTup K 2 (gCons (gName j) (gCons (gName k) gNil))) tYes te ws) σ H xs := fun H0 e Q q => h H0 e _ fun H1 e1 => ⟨a, rfl, ⟨us, ex_l (e.trans e1) hx⟩,
  lcVs (H0 := H1) (walk_list (K := K) (a := a) (xs := us)) (by omega) hl (fun H2 e2 => ex_l ((e.trans e1).trans e2) hx) (fun i y x H2 H3 hyi e2 yy kk hk => by
    obtain ⟨rfl, hu⟩ := yy
    obtain ⟨p, x1, x2, rfl, hp, hv⟩ := he i x y hu hyi
    have e3 := (e.trans e1).trans e2
    refine ⟨p, [x1, x2], rfl, st_of (e3 _ _ hp), rfl, x1, [x2], rfl, x2, [], rfl, rfl, ?_⟩
    exact hk _ _ (Ex.refl _) (hw _ _) (hv _ e3)) fun l H2 hl0 e2 h2 => q l H2 (fresh_back e1 hl0) (e1.trans e2) h2⟩
/-- two fors, the inner list new each time -/
theorem elv_lc2 {β : Type} {te1 : TE} {t1 : TT} {a : Addr} {us : List V} {ys : List (List β)} {r W : β → V} {F : β → Bool} {j k m : Nat} {ws ws1 : List Nat} (h : Ev tl σ H (.ref a)) (hx : SqL K H a us) (hl : ys.length = us.length) (hm : (ys.flatMap fun y => (y.filter F).map W).length ≤ 40000)
    (hw : ∀ x, wipe ((wipe σ ws).set j (some x)) ws = wipe σ ws) (hw1 : ∀ x y, wipe ((wipe ((wipe σ ws).set j (some x)) ws1).set k (some y)) ws1 = wipe ((wipe σ ws).set j (some x)) ws1)
    (hi : ∀ (i : Nat) (u : V) (y : List β) (H1 : Hp), Ex H H1 → us[i]? = some u → ys[i]? = some y → EvL te1 ((wipe σ ws).set j (some u)) H1 (y.map r))
    (ht : ∀ (u : V) (x : β) (H1 : Hp), Ex H H1 → (∃ y ∈ ys, x ∈ y) → EvT t1 ((wipe ((wipe σ ws).set j (some u)) ws1).set k (some (r x))) H1 (F x))
    (he : ∀ (u : V) (x : β) (H1 : Hp), Ex H H1 → (∃ y ∈ ys, x ∈ y) → Ev te ((wipe ((wipe σ ws).set j (some u)) ws1).set k (some (r x))) H1 (W x)) :
    EvL (tLc2 (iList K tl) (gName j) tYes (iList K te1) (gName k) t1 te ws ws1) σ H (ys.flatMap fun y => (y.filter F).map W) := fun H0 e Q q => h H0 e _ fun H1 e1 => ⟨a, rfl, ⟨us, ex_l (e.trans e1) hx⟩, fun D hD => by
  have w := walk_list (K := K) (a := a) (xs := us)
  have cut : ∀ i, ((ys.take i).flatMap fun y => (y.filter F).map W).length ≤ (ys.flatMap fun y => (y.filter F).map W).length := fun i => by
    conv => rhs; rw [← List.take_append_drop i ys, List.flatMap_append, List.length_append]
    omega
  refine ⟨fun i c H2 => c = us.length - i ∧ i ≤ us.length ∧ H2 D = some (.lst ((ys.take i).flatMap fun y => (y.filter F).map W)) ∧ Ex H1 (hide D H2), ⟨us.length, rfl, Nat.zero_le _, upd_same, ?_⟩, ?_⟩
  · rw [hide_upd, hide_none hD]
    exact Ex.refl _
  rintro i c H2 ⟨rfl, hi0, hv, e2⟩
  have e12 := (e.trans e1).trans (e2.trans hide_le)
  by_cases lt : i < us.length
  · refine .inr ⟨w.goes i H2 lt (ex_l e12 hx), fun H' => H' D = some (.lst ((ys.take (i + 1)).flatMap fun y => (y.filter F).map W)) ∧ Ex H1 (hide D H'), fun H' z => ⟨_, by omega, rfl, lt, z.1, z.2⟩, fun x H' yy => ?_⟩
    obtain ⟨rfl, hu⟩ := w.yields i H2 x H' lt (ex_l e12 hx) yy
    obtain ⟨y, hy⟩ : ∃ y, ys[i]? = some y := ⟨ys[i]'(by omega), List.getElem?_eq_getElem (by omega)⟩
    refine ⟨hw _, ?_⟩
    show te1 _ H' _
    refine hi i x y H' e12 hu hy H' (Ex.refl _) _ fun l H3 hl0 e3 h3 => ⟨l, rfl, ⟨_, sq_of h3⟩, ?_⟩
    have hv3 := e3 _ _ hv
    have nl : l ≠ D := fun z => by
      rw [z, hv] at hl0
      cases hl0
    have h3' : hide D H3 l = some (.lst (y.map r)) := by rw [hide_ne nl]; exact h3
    have w2 := walk_list (K := K) (a := l) (xs := y.map r)
    have e23 : Ex H1 (hide D H3) := e2.trans (ex_hide e3)
    have tk : (ys.take (i + 1)).flatMap (fun y => (y.filter F).map W) = ((ys.take i).flatMap fun y => (y.filter F).map W) ++ (y.filter F).map W := by
      rw [List.take_add_one, hy, List.flatMap_append]
      simp
    refine ⟨fun i2 c2 H4 => c2 = y.length - i2 ∧ i2 ≤ y.length ∧ H4 D = some (.lst (((ys.take i).flatMap fun y => (y.filter F).map W) ++ ((y.take i2).filter F).map W)) ∧ Ex (hide D H3) (hide D H4), ⟨y.length, rfl, Nat.zero_le _, ?_, Ex.refl _⟩, ?_⟩
    · rw [hv3]
      simp
    rintro i2 c2 H4 ⟨rfl, hi2, hv4, e4⟩
    have q4 : SqL K H4 l (y.map r) := sq_of (hide_le _ _ (e4 _ _ h3'))
    have ee : Ex H H4 := (e.trans e1).trans ((e23.trans e4).trans hide_le)
    by_cases lt2 : i2 < y.length
    · refine .inr ⟨w2.goes i2 H4 (by rw [List.length_map]; exact lt2) q4, fun H' => H' D = some (.lst (((ys.take i).flatMap fun y => (y.filter F).map W) ++ ((y.take (i2 + 1)).filter F).map W)) ∧ Ex (hide D H3) (hide D H'), fun H' z => ⟨_, by omega, rfl, lt2, z.1, z.2⟩, fun x2 H' yy => ?_⟩
      obtain ⟨rfl, hx2⟩ := w2.yields i2 H4 x2 H' (by rw [List.length_map]; exact lt2) q4 yy
      rw [List.getElem?_map, List.getElem?_eq_getElem lt2] at hx2
      have hx3 : r (y[i2]) = x2 := Option.some.inj hx2
      subst hx3
      have tk2 : ((y.take (i2 + 1)).filter F).map W = ((y.take i2).filter F).map W ++ (if F y[i2] = true then [W y[i2]] else []) := by
        rw [List.take_add_one, List.getElem?_eq_getElem lt2, List.filter_append, List.map_append]
        congr 1
        by_cases hf : F y[i2] = true <;> simp [hf]
      have inn : ∃ y' ∈ ys, y[i2] ∈ y' := ⟨y, List.mem_of_getElem? hy, List.getElem_mem lt2⟩
      refine ⟨hw1 _ _, ht _ _ H' ee inn H' (Ex.refl _) _ fun H5 e5 => ?_⟩
      by_cases hf : F y[i2] = true
      · rw [if_pos hf]
        refine he _ _ H5 (ee.trans e5) inn H5 (Ex.refl _) _ fun H6 e6 => ⟨_, e6 _ _ (e5 _ _ hv4), sz_lt ?_, ?_, ?_⟩
        · have h1 := cut (i + 1)
          rw [tk, List.length_append] at h1
          have h2 : ((y.take i2).filter F).length ≤ (y.filter F).length := by
            conv => rhs; rw [← List.take_append_drop i2 y, List.filter_append, List.length_append]
            omega
          rw [List.length_map] at h1
          rw [List.length_append, List.length_map]
          omega
        · rw [upd_same, tk2, if_pos hf, List.append_assoc]
        · rw [hide_upd]
          exact e4.trans (ex_hide (e5.trans e6))
      · rw [if_neg hf]
        refine ⟨?_, e4.trans (ex_hide e5)⟩
        rw [tk2, if_neg hf, List.append_nil]
        exact e5 _ _ hv4
    · have ei : i2 = y.length := by omega
      subst ei
      rw [List.take_length] at hv4
      have st := w2.stops H4 q4
      rw [List.length_map] at st
      exact .inl ⟨st, by rw [tk]; exact hv4, e23.trans e4⟩
  · have ei : i = us.length := by omega
    subst ei
    rw [← hl, List.take_length] at hv
    exact .inl ⟨w.stops H2 (ex_l e12 hx), q D H2 (fresh_back e1 hD) (e1.trans (e2.trans hide_le)) hv⟩⟩
/-- tuple(a new list of objects) -/
def EvRt {α : Type} (te : TE) (σ : L2.St) (H : Hp) (R : α → Addr → Hp → Prop) (xs : List α) : Prop := ∀ H1, Ex H H1 → ∀ Q : VK, (∀ l vs H2, H1 l = none → Ex H1 H2 → H2 l = some (.tup vs) → Rs R H2 vs xs → Q (.ref l) H2) → te σ H1 Q
theorem ers_tup {α : Type} {R : α → Addr → Hp → Prop} {xs : List α} (up : Up R) (h : EvRs te σ H R xs) : EvRt (tCB (fun xs H Q => ∃ p ys, xs = [.ref p] ∧ ((SqL K H p ys ∧ ∀ l, H l = none → Q (.ref l) (upd H l (.tup ys))) ∨ (SqT K H p ys ∧ Q (.ref p) H))) (tCons te tNil)) σ H R xs := fun H1 e Q q =>
  h H1 e _ fun l vs H2 hl e2 h2 r => ⟨l, vs, rfl, .inl ⟨sq_of h2, fun m hm => q m vs _ (fresh_back e2 hm) (e2.trans (Ex.new hm)) upd_same (r.ex up (Ex.new hm))⟩⟩
theorem eu_tupE {xs : List V} (h : EvL te σ H xs) : EvU (tCB (fun xs H Q => ∃ p ys, xs = [.ref p] ∧ ((SqL K H p ys ∧ ∀ l, H l = none → Q (.ref l) (upd H l (.tup ys))) ∨ (SqT K H p ys ∧ Q (.ref p) H))) (tCons te tNil)) σ H xs := fun H1 e Q q =>
  h H1 e _ fun l H2 hl e2 h2 => ⟨l, xs, rfl, .inl ⟨sq_of h2, fun m hm => q m _ (fresh_back e2 hm) (e2.trans (Ex.new hm)) upd_same⟩⟩
/-- a tuple that stands or is new -/
def EvTp (te : TE) (σ : L2.St) (H : Hp) (xs : List V) : Prop := ∀ H1, Ex H H1 → ∀ Q : VK, (∀ p H2, Ex H1 H2 → H2 p = some (.tup xs) → Q (.ref p) H2) → te σ H1 Q
end

/-! ### data of data compared -/
theorem layAll_of {n : Nat} : ∀ {ds : List PyData}, (∀ d ∈ ds, d.canLay0 = true ∧ d.depth ≤ n) → PyData.canLayAll0 ds = true ∧ PyData.depthAll ds ≤ n
  | [], _ => ⟨by simp [PyData.canLayAll0], by simp [PyData.depthAll]⟩
  | d :: ds, h => by
    have h1 := h d List.mem_cons_self
    have h2 := layAll_of (ds := ds) fun e he => h e (List.mem_cons_of_mem _ he)
    exact ⟨by simp [PyData.canLayAll0, h1.1, h2.1], by simp only [PyData.depthAll]; omega⟩
theorem shaped_tt {n : Nat} {ds : List PyData} (h : ∀ d ∈ ds, d.canLay0 = true ∧ d.depth ≤ n) (hn : n ≤ 60) : SeqAt.shaped (.tuple ds) = true := by
  have h2 := layAll_of h
  show (PyData.canLay0 (.tuple ds) && decide (PyData.depth (.tuple ds) ≤ 64)) = true
  rw [Bool.and_eq_true]
  exact ⟨by simp only [PyData.canLay0]; exact h2.1, decide_eq_true (by simp only [PyData.depth]; omega)⟩
theorem shaped_ll {n : Nat} {ds : List PyData} (h : ∀ d ∈ ds, d.canLay0 = true ∧ d.depth ≤ n) (hn : n ≤ 60) : SeqAt.shaped (.list ds) = true := by
  have h2 := layAll_of h
  show (PyData.canLay0 (.list ds) && decide (PyData.depth (.list ds) ≤ 64)) = true
  rw [Bool.and_eq_true]
  exact ⟨by simp only [PyData.canLay0]; exact h2.1, decide_eq_true (by simp only [PyData.depth]; omega)⟩
theorem lay_tup {vs : List V} (h : ∀ v ∈ vs, okV v = true) : (PyData.tuple (vs.map toD)).canLay0 = true ∧ (PyData.tuple (vs.map toD)).depth ≤ 1 := by
  have h2 := layAll_toD h
  exact ⟨by simp only [PyData.canLay0]; exact h2.1, by simp only [PyData.depth]; omega⟩
theorem lay_lst {vs : List V} (h : ∀ v ∈ vs, okV v = true) : (PyData.list (vs.map toD)).canLay0 = true ∧ (PyData.list (vs.map toD)).depth ≤ 1 := by
  have h2 := layAll_toD h
  exact ⟨by simp only [PyData.canLay0]; exact h2.1, by simp only [PyData.depth]; omega⟩
theorem eqF_same : ∀ xs : List V, (∀ v ∈ xs, PyData.eqv (toD v) (toD v) = true) → eqF xs xs = true
  | [], _ => rfl
  | x :: xs, h => by
    show (PyData.eqv (toD x) (toD x) && eqF xs xs) = true
    rw [h x List.mem_cons_self, eqF_same xs fun v hv => h v (List.mem_cons_of_mem _ hv)]
    rfl
theorem eqvAll_same : ∀ ds : List PyData, (∀ d ∈ ds, PyData.eqv d d = true) → PyData.eqvAll ds ds = true
  | [], _ => by simp [PyData.eqvAll]
  | d :: ds, h => by
    simp only [PyData.eqvAll]
    rw [h d List.mem_cons_self, eqvAll_same ds fun v hv => h v (List.mem_cons_of_mem _ hv)]
    rfl
section
variable {K : PySem.W.Frag} {σ : L2.St} {H : Hp} {te : TE} {tz : TS} {D : Ends} {α : Type} {R : α → Addr → Hp → Prop} {xs : List α}
/-- data of such objects -/
theorem Rs.dp {d : α → PyData} {vs : List V} (r : Rs R H vs xs) (h : ∀ x p, x ∈ xs → R x p H → Dp K H (.ref p) (d x)) : DpAll K H vs (xs.map d) := by
  induction r with
  | nil => exact .nil
  | cons r0 _ ih => exact .cons (h _ _ List.mem_cons_self r0) (ih fun x p hx => h x p (List.mem_cons_of_mem _ hx))
theorem q_asgRs {i : Nat} (h : EvRs te σ H R xs) (k : ∀ l vs H1, H l = none → Ex H H1 → H1 l = some (.lst vs) → Rs R H1 vs xs → tz D (σ.set i (some (.ref l))) H1) : tSeq (tAsg te (gName i)) tz D σ H := h H (Ex.refl H) _ k
theorem q_asgRt {i : Nat} (h : EvRt te σ H R xs) (k : ∀ l vs H1, H l = none → Ex H H1 → H1 l = some (.tup vs) → Rs R H1 vs xs → tz D (σ.set i (some (.ref l))) H1) : tSeq (tAsg te (gName i)) tz D σ H := h H (Ex.refl H) _ k
theorem s_asgRt {i : Nat} (h : EvRt te σ H R xs) (k : ∀ l vs H1, H l = none → Ex H H1 → H1 l = some (.tup vs) → Rs R H1 vs xs → D.nx (σ.set i (some (.ref l))) H1) : tAsg te (gName i) D σ H := h H (Ex.refl H) _ k
end

/-! ### a comprehension over range(n) whose items are drawn -/
def drawN {α : Type} (f : Int × Int → α × (Int × Int)) : Nat → Int × Int → List α × (Int × Int)
  | 0, s => ([], s)
  | i + 1, s => ((drawN f i s).1 ++ [(f (drawN f i s).2).1], (f (drawN f i s).2).2)
theorem drawN_len {α : Type} (f : Int × Int → α × (Int × Int)) (s : Int × Int) : ∀ n, (drawN f n s).1.length = n
  | 0 => rfl
  | n + 1 => by
    show ((drawN f n s).1 ++ [_]).length = _
    rw [List.length_append, drawN_len f s n]
    rfl
theorem drawN_pk {α : Type} {f : Int × Int → α × (Int × Int)} (hf : ∀ s, Pk s → Pk (f s).2) {s : Int × Int} (h : Pk s) : ∀ n, Pk (drawN f n s).2
  | 0 => h
  | n + 1 => hf _ (drawN_pk hf h n)
theorem drawN_all {α : Type} {f : Int × Int → α × (Int × Int)} {G : α → Prop} (hf : ∀ s, Pk s → Pk (f s).2 ∧ G (f s).1) {s : Int × Int} (h : Pk s) : ∀ n, ∀ x ∈ (drawN f n s).1, G x
  | 0 => fun x hx => by cases hx
  | n + 1 => fun x hx => by
    rcases List.mem_append.mp hx with hx | hx
    · exact drawN_all hf h n x hx
    · rw [List.mem_singleton.mp hx]
      exact (hf _ (drawN_pk (fun s hs => (hf s hs).1) h n)).2
/-- R speaks of its own object alone -/
def One {α : Type} (R : α → Addr → Hp → Prop) : Prop := ∀ x p H a, R x p H → p ≠ a → R x p (hide a H)
theorem ex_hide2 {p D : Addr} {H H' : Hp} (e : Ex (hide p H) H') : Ex (hide p (hide D H)) (hide p (hide D H')) := fun a o h => by
  obtain ⟨n1, h⟩ := hide_some h
  obtain ⟨n2, h⟩ := hide_some h
  rw [hide_ne n1, hide_ne n2]
  exact e a o (by rw [hide_ne n1]; exact h)
theorem lc_draw {α : Type} {R : α → Addr → Hp → Prop} (up : Up R) (one : One R) {f : Int × Int → α × (Int × Int)} (hf : ∀ s, Pk s → Pk (f s).2) {te : TE} {σ : L2.St} {us : List Nat} {j : Nat} {p : Addr} {s : Int × Int} {H0 H1 : Hp} {n : Nat} {Q : VK} (hk : Pk s) (hp : H1 p = some (pl s)) (hn : n ≤ 1000)
    (hw : ∀ x, wipe ((wipe σ us).set j (some x)) us = wipe σ us)
    (he : ∀ (i : Nat) (H : Hp) (s : Int × Int), Pk s → H p = some (pl s) → ∀ Q : VK, (∀ l H', H l = none → Ex (hide p H) H' → H' p = some (pl (f s).2) → R (f s).1 l H' → Q (.ref l) H') → te ((wipe σ us).set j (some (.int (i : Int)))) H Q)
    (hq : ∀ l vs H', H1 l = none → Ex (hide p H1) H' → H' p = some (pl (drawN f n s).2) → H' l = some (.lst vs) → Rs R (hide p H') vs (drawN f n s).1 → Q (.ref l) H') : tLc (iHere (Itr 0 n) H1) (gName j) tYes te us σ H0 Q := fun D hD => by
  have npD : p ≠ D := fun z => by
    rw [z, hD] at hp
    cases hp
  refine lc_it (walk_range (lo := 0) (n := n)) (fun i H => ∃ vs, H D = some (.lst vs) ∧ H p = some (pl (drawN f i s).2) ∧ Ex (hide p H1) (hide p (hide D H)) ∧ Rs R (hide p (hide D H)) vs (drawN f i s).1) ⟨[], upd_same, ?_, ?_, .nil⟩ (fun _ _ _ _ => trivial) ?_ ?_
  · rw [upd_ne npD]
    exact hp
  · rw [hide_upd, hide_none hD]
    exact Ex.refl _
  · rintro i x H H' hi ⟨vs, hv, hp2, e, r⟩ ⟨rfl, rfl⟩
    have ez : (0 : Int) + (i : Int) = (i : Int) := Int.zero_add _
    show wipe ((wipe σ us).set j (some (.int ((0 : Int) + (i : Int))))) us = wipe σ us ∧ te ((wipe σ us).set j (some (.int ((0 : Int) + (i : Int))))) H' _
    rw [ez]
    refine ⟨hw _, he i H' _ (drawN_pk hf hk i) hp2 _ fun l H4 hl e4 hp4 rl => ?_⟩
    have nlD : l ≠ D := fun z => by
      rw [z, hv] at hl
      cases hl
    have nlp : l ≠ p := fun z => by
      rw [z, hp2] at hl
      cases hl
    have hv4 : H4 D = some (.lst vs) := e4 _ _ (by rw [hide_ne npD.symm]; exact hv)
    have el := r.len
    rw [drawN_len] at el
    refine ⟨vs, hv4, sz_lt (by omega), vs ++ [.ref l], upd_same, ?_, ?_, ?_⟩
    · rw [upd_ne npD]
      exact hp4
    · rw [hide_upd]
      exact e.trans (ex_hide2 e4)
    · rw [hide_upd]
      exact (r.ex up (ex_hide2 e4)).snoc (one _ _ _ _ (one _ _ _ _ rl nlD) nlp)
  · rintro H ⟨vs, hv, hp2, e, r⟩
    have e2 : Ex (hide p (hide D H)) (hide p H) := ex_hide hide_le
    exact hq D vs H hD ((e.trans e2).trans hide_le) hp2 hv (r.ex up e2)
theorem qp_asgDraw {α : Type} {R : α → Addr → Hp → Prop} (up : Up R) (one : One R) {f : Int × Int → α × (Int × Int)} (hf : ∀ s, Pk s → Pk (f s).2) {ta : TA} {te : TE} {tz : TS} {E : Ends} {σ : L2.St} {us : List Nat} {i j : Nat} {p : Addr} {s s1 : Int × Int} {G H : Hp} {n : Int} (K0 : Kn G p s H) (h : EvAP ta σ G p s [.int n] s1) (hk : Pk s1) (hn : 0 ≤ n ∧ n ≤ 1000)
    (hw : ∀ x, wipe ((wipe σ us).set j (some x)) us = wipe σ us)
    (he : ∀ (i : Nat) (H : Hp) (s : Int × Int), Pk s → H p = some (pl s) → ∀ Q : VK, (∀ l H', H l = none → Ex (hide p H) H' → H' p = some (pl (f s).2) → R (f s).1 l H' → Q (.ref l) H') → te ((wipe σ us).set j (some (.int (i : Int)))) H Q)
    (k : ∀ l vs H', l ≠ p → Ex (hide p H) H' → H' p = some (pl (drawN f n.toNat s1).2) → H' l = some (.lst vs) → Rs R (hide p H') vs (drawN f n.toNat s1).1 → tz E (σ.set i (some (.ref l))) H') : tSeq (tAsg (tLc (iRng1 ta) (gName j) tYes te us) (gName i)) tz E σ H :=
  h H K0 _ fun H1 e1 g1 => ⟨n, rfl, by omega, by omega, lc_draw (H0 := H1) (Q := fun v H' => tz E (σ.set i (some v)) H') up one hf hk g1 (by omega) hw he fun l vs H' hl e' hp' hl' r' => k l vs H' (fun z => by
    rw [z, g1] at hl
    cases hl) (hx_trans e1 e') hp' hl' r'⟩
section
variable {K : PySem.W.Frag} {σ : L2.St} {H : Hp} {te tl : TE}
/-- over a list that stands, the items fixed values -/
theorem elv_lc {a : Addr} {us xs : List V} {j : Nat} {ws : List Nat} (h : Ev tl σ H (.ref a)) (hx : SqL K H a us) (hn : us.length ≤ 40000) (hl : xs.length = us.length) (hw : ∀ x, wipe ((wipe σ ws).set j (some x)) ws = wipe σ ws)
    (he : ∀ (i : Nat) (u y : V) (H1 : Hp), Ex H H1 → us[i]? = some u → xs[i]? = some y → Ev te ((wipe σ ws).set j (some u)) H1 y) : EvL (tLc (iList K tl) (gName j) tYes te ws) σ H xs := fun H0 e Q q => h H0 e _ fun H1 e1 => ⟨a, rfl, ⟨us, ex_l (e.trans e1) hx⟩,
  lcVs (H0 := H1) (walk_list (K := K) (a := a) (xs := us)) (by omega) hl (fun H2 e2 => ex_l ((e.trans e1).trans e2) hx) (fun i y x H2 H3 hy e2 yy k hk => by
    obtain ⟨rfl, hu⟩ := yy
    exact hk _ _ (Ex.refl _) (hw _) (he i x y _ ((e.trans e1).trans e2) hu hy)) fun l H2 hl0 e2 h2 => q l H2 (fresh_back e1 hl0) (e1.trans e2) h2⟩
end
end Kz
namespace Kz
open PySem PySem.Spec PyProof.Rows L2 Evl StX
/-- an own def called somewhere below -/
theorem call_at {X : Cx} {CX : CXT} {f : Addr} {fd : FuncData} {ps : List Str} {n : Nat} {sp : Sp} {E : XK} (F : FnOk X.prog X.w X.K X.mg X.base CX n f fd ps sp) (hb : Binds X.K fd ps []) (hx : Passes CX X E) {A : Around} (sb : Sub X n A)
    {pins : List (Addr × Obj)} {s : Shared} {σ : L2.St} {H : Hp} {vs : List V} {us : List Value} {Q : VK} (I : Inv X pins σ H s) (r : Vals vs us) (h : sp vs H Q E) : wpAny (model X.prog X.w) A (call (.ref f) us) (EP X pins σ Q) X.xe s := by
  have e0 : Env0 X.prog X.w X.K X.mg X.base A X.stack s H := by
    have e := I.env0
    exact ⟨by rw [sb.fr]; exact e.frames, e.mod, e.bs, e.bsz, e.funs, e.frf, e.hok, e.bare⟩
  have b := hb s us I.kIn (by rw [List.append_nil, ← r.length]; exact F.len _ _ _ _ h)
  rw [List.append_nil] at b
  refine wpAny_call (codeAny_mono (F.run A X.stack s H ⟨us, []⟩ us vs Q E sb.room e0 b r h) fun z s' hq => ?_)
  match z, hq with
  | .error er, hq => exact hx pins σ H s er s' I hq
  | .ok (.ret u), hq => exact I.after hq
  | .ok .next, hq => exact hq.elim
  | .ok .brk, hq => exact hq.elim
  | .ok .cont, hq => exact hq.elim
theorem sub_here {X : Cx} {n : Nat} (hr : Room n X.A) : Sub X n X.A := ⟨hr, rfl⟩
/-! ### x & y, x | y by the own method of x -/
structure OpC (K : PySem.W.Frag) (nm : String) (C f : Addr) : Prop where
  fst : PySem.W.selfFirst K C = true
  find : PySem.W.findIn K (.ref C) (PySem.dunder nm) = some (some (.ref f))
  isf : PySem.W.isFn K (.ref f) = true
  rev : PySem.W.findIn K (.ref C) (dunderR nm) = some none
def rBinOwn (C C2 : Addr) (sp : Sp) (E : XK) : R2 := fun x y H Q => ∃ a b dx dy fs gs, x = .ref a ∧ y = .ref b ∧ H a = some (.ins C dx fs) ∧ H b = some (.ins C2 dy gs) ∧ sp [.ref a, .ref b] H (fun v H' => ∃ r, v = .ref r ∧ Q (.ref r) H') E
theorem back_ref {X : Cx} {pins : List (Addr × Obj)} {σ : L2.St} {Q : VK} {v : Value} {s : Shared} (h : EP X pins σ (fun v H' => ∃ r, v = .ref r ∧ Q (.ref r) H') v s) : PySem.W.CmpBack (EP X pins σ Q) v s := by
  obtain ⟨x, H', I, r, p, rfl, q⟩ := h
  cases (show v = Value.ref p from r)
  exact ⟨.ref p, H', I, rfl, q⟩
theorem bin_two {prog : Program} {w : World} {A : Around} {E : Value → Shared → Prop} {s : Shared} {K : PySem.W.Frag} {a b C C2 f f2 : Addr} {oa ob : Obj} {da db : Option Obj} {op : Operator} {Q : Value → Shared → Prop} (Z : K.In s.heap) (J : PySem.W.InstAt s.heap a oa C da) (J2 : PySem.W.InstAt s.heap b ob C2 db)
    (h1 : OpC K op.info.2 C f) (h2 : OpC K op.info.2 C2 f2) (ne : C ≠ C2) (hs : PySem.W.subIn K (.ref C2) (.ref C) = some false) (h : wpAny (model prog w) A (call (.ref f) [.ref a, .ref b]) (PySem.W.CmpBack Q) E s) : wpAny (model prog w) A (binaryOp op (.ref a) (.ref b)) Q E s := by
  obtain ⟨c1, t1, k1, m1⟩ := PySem.W.ksp_first h1.fst
  obtain ⟨c2, t2, k2, m2⟩ := PySem.W.ksp_first h2.fst
  obtain ⟨_, g1, g2, g3⟩ := h1
  obtain ⟨_, u1, u2, u3⟩ := h2
  rcases hi : op.info with ⟨sym, nm⟩
  rw [hi] at g1 g3 u1 u3
  dsimp only at g1 g3 u1 u3
  have one := PySem.W.ksp_try Z J g1 g2 h
  obtain ⟨hh, g, d, tt, os⟩ := s
  have L1 : PySem.W.Looks (model prog w) hh (typeOf (.ref a)) (.ref C) := J.type
  have L2 : PySem.W.Looks (model prog w) hh (typeOf (.ref b)) (.ref C2) := J2.type
  have L3 : PySem.W.Looks (model prog w) hh (fillsNumberSlot (.ref C) nm) true := PySem.W.fills_K Z k1 m1 g1
  have L4 : PySem.W.Looks (model prog w) hh (fillsNumberSlot (.ref C2) nm) true := PySem.W.fills_K Z k2 m2 u1
  have L5 : PySem.W.Looks (model prog w) hh (isSubtype (.ref C2) (.ref C)) false := PySem.W.looks_subIn Z hs
  have L6 : PySem.W.Looks (model prog w) hh (numberSlotInPython (.ref C) nm) true := PySem.W.ksp_inPy Z g1 g3 (.inl rfl)
  have L7 : PySem.W.Looks (model prog w) hh (numberSlotInPython (.ref C2) nm) true := PySem.W.ksp_inPy Z u1 u3 (.inl rfl)
  have hne : (Value.ref C == Value.ref C2) = false := Bool.eq_false_iff.mpr fun q => ne (by cases beq_iff_eq.mp q; rfl)
  simp only [binaryOp, hi]
  refine wpAny_holding (wpAny_bind ?_)
  unfold binaryOp1
  refine wpAny_bind (L1.at (wpAny_bind (L2.at (wpAny_bind (L3.at ?_)))))
  simp only [hne, Bool.false_eq_true, if_false]
  ksp_lk
  refine wpAny_mono one (fun r s' z => ?_) fun _ _ e => e
  obtain ⟨v, rfl, hq⟩ := z
  ksp_lk
  exact hq
theorem op_binOwn {X : Cx} {CX : CXT} {op : Operator} {C C2 f f2 : Addr} {fd : FuncData} {ps : List Str} {k : Nat} {sp : Sp} {E : XK} (h1 : OpC X.K op.info.2 C f) (h2 : OpC X.K op.info.2 C2 f2) (hs : C = C2 ∨ PySem.W.subIn X.K (.ref C2) (.ref C) = some false)
    (F : FnOk X.prog X.w X.K X.mg X.base CX k f fd ps sp) (hr : Room k X.A) (hb : Binds X.K fd ps []) (hx : Passes CX X E) : OpR X (binaryOp op) (rBinOwn C C2 sp E) := by
  intro pins s σ H x y v u Q I rx ry h
  obtain ⟨a, b, dx, dy, fs, gs, rfl, rfl, ha, hb2, hsp⟩ := h
  cases (show v = Value.ref a from rx)
  cases (show u = Value.ref b from ry)
  obtain ⟨mA, J, _⟩ := ins_get I.hok ha
  obtain ⟨oa, J, _⟩ := J.look
  obtain ⟨mB, J2, _⟩ := ins_get I.hok hb2
  obtain ⟨ob, J2, _⟩ := J2.look
  have one := wpAny_mono (call_at F hb hx (sub_here hr) I (us := [.ref a, .ref b]) (.cons (show RelV (.ref a) (Value.ref a) from rfl) (.cons (show RelV (.ref b) (Value.ref b) from rfl) .nil)) hsp) (fun _ _ z => back_ref z) fun _ _ z => z
  by_cases ne : C = C2
  · subst ne
    obtain ⟨m, fr⟩ := I.fr
    exact PySem.W.binop_K fr I.ok.mod.kin J J2.type h1.fst h1.find h1.isf one
  · exact bin_two I.kIn J J2 h1 h2 ne (hs.resolve_left ne) one
/-! ### x == y by the own __eq__ of x -/
structure EqC (K : PySem.W.Frag) (C f : Addr) : Prop where
  find : PySem.W.findIn K (.ref C) "__eq__" = some (some (.ref f))
  isf : PySem.W.isFn K (.ref f) = true
def rEqOwn (K : PySem.W.Frag) (C : Addr) (sp : Sp) (E : XK) : R2 := fun x y H Q => ∃ a dx fs, x = .ref a ∧ H a = some (.ins C dx fs) ∧
  ((∃ b C2 dy gs, y = .ref b ∧ H b = some (.ins C2 dy gs) ∧ PySem.W.notFirst K C (.ref C2) = true) ∨ ∃ z, y = .str z ∧ PySem.W.notFirst K C (.type "str") = true) ∧ sp [.ref a, y] H (fun v H' => ∃ b, v = .bl b ∧ Q (.bl b) H') E
theorem back_bl {X : Cx} {pins : List (Addr × Obj)} {σ : L2.St} {Q : VK} {v : Value} {s : Shared} (h : EP X pins σ (fun v H' => ∃ b, v = .bl b ∧ Q (.bl b) H') v s) : PySem.W.CmpBack (EP X pins σ Q) v s := by
  obtain ⟨x, H', I, r, p, rfl, q⟩ := h
  cases (show v = Value.bool p from r)
  exact ⟨.bl p, H', I, rfl, q⟩
theorem op_eqOwn {X : Cx} {CX : CXT} {C f : Addr} {fd : FuncData} {ps : List Str} {k : Nat} {sp : Sp} {E : XK} (h1 : EqC X.K C f) (F : FnOk X.prog X.w X.K X.mg X.base CX k f fd ps sp) (hr : Room k X.A) (hb : Binds X.K fd ps []) (hx : Passes CX X E) : OpR X (compareOp .Eq) (rEqOwn X.K C sp E) := by
  intro pins s σ H x y v u Q I rx ry h
  obtain ⟨a, dx, fs, rfl, ha, hy, hsp⟩ := h
  cases (show v = Value.ref a from rx)
  obtain ⟨mA, J, _⟩ := ins_get I.hok ha
  obtain ⟨oa, J, _⟩ := J.look
  obtain ⟨m, fr⟩ := I.fr
  have one := wpAny_mono (call_at F hb hx (sub_here hr) I (us := [.ref a, u]) (.cons (show RelV (.ref a) (Value.ref a) from rfl) (.cons ry .nil)) hsp) (fun _ _ z => back_bl z) fun _ _ z => z
  show wpAny _ _ (richCompare .Eq (.ref a) u) _ _ s
  rcases hy with ⟨b, C2, dy, gs, rfl, hb2, nf⟩ | ⟨z, rfl, nf⟩
  · cases (show u = Value.ref b from ry)
    obtain ⟨mB, J2, _⟩ := ins_get I.hok hb2
    obtain ⟨ob, J2, _⟩ := J2.look
    exact PySem.W.cmp_K (op := .Eq) hr.units0 fr I.ok.mod.kin J J2.type nf h1.find h1.isf one
  · obtain ⟨t, rfl⟩ := ry
    exact PySem.W.cmp_K (op := .Eq) (tb := .type "str") hr.units0 fr I.ok.mod.kin J (PySem.W.Looks.of_pure rfl) nf h1.find h1.isf one
/-! ### str(x) and {x} by the own __str__ of x -/
structure StC (K : PySem.W.Frag) (C f : Addr) : Prop where
  find : PySem.W.findIn K (.ref C) "__str__" = some (some (.ref f))
  isf : PySem.W.isFn K (.ref f) = true
def rStrOwn (C : Addr) (sp : Sp) (E : XK) : List V → Hp → VK → Prop := fun xs H Q => ∃ a dx fs, xs = [.ref a] ∧ H a = some (.ins C dx fs) ∧ sp [.ref a] H (fun v H' => ∃ z, v = .str z ∧ Q (.str z) H') E
theorem back_str {X : Cx} {pins : List (Addr × Obj)} {σ : L2.St} {Q : VK} {v : Value} {s : Shared} (h : EP X pins σ (fun v H' => ∃ z, v = .str z ∧ Q (.str z) H') v s) : PySem.W.StrBack (EP X pins σ Q) v s := by
  obtain ⟨x, H', I, r, p, rfl, q⟩ := h
  obtain ⟨t, rfl⟩ := r
  exact ⟨.str p, H', I, ⟨t, rfl⟩, q⟩
theorem call_strOwn {X : Cx} {CX : CXT} {C f : Addr} {fd : FuncData} {ps : List Str} {k : Nat} {sp : Sp} {E : XK} (h1 : StC X.K C f) (F : FnOk X.prog X.w X.K X.mg X.base CX k f fd ps sp) (hr : Room (k + 2) X.A) (hb : Binds X.K fd ps []) (hx : Passes CX X E) : CallR X (.type "str") (rStrOwn C sp E) := by
  intro pins s σ H xs us Q I r h
  obtain ⟨a, dx, fs, rfl, ha, hsp⟩ := h
  obtain ⟨u, rfl, rx⟩ := vals1 r
  cases (show u = Value.ref a from rx)
  obtain ⟨mA, J, _⟩ := ins_get I.hok ha
  obtain ⟨oa, J, _⟩ := J.look
  have sb : Sub X k X.A.in1.in1 := (sub_here hr).in1.in1
  exact PySem.W.kso_call sb.room.units0 I.kIn J h1.find h1.isf (wpAny_mono (call_at F hb hx sb I (us := [.ref a]) (.cons (show RelV (.ref a) (Value.ref a) from rfl) .nil) hsp) (fun _ _ z => back_str z) fun _ _ z => z)
def tFmtOwn (C : Addr) (sp : Sp) (E : XK) (te : TE) : TE := fun σ H Q => te σ H fun x H1 => rStrOwn C sp E [x] H1 Q
structure FmC (K : PySem.W.Frag) (C f : Addr) : Prop where
  str : StC K C f
  fmt : PySem.W.findIn K (.ref C) "__format__" = some (some (.builtin "object.__format__"))
  obj : PySem.W.mroIn K C (.type "object") = some true
theorem pe_fmtOwn {X : Cx} {CX : CXT} {C f : Addr} {fd : FuncData} {ps : List Str} {k : Nat} {sp : Sp} {E : XK} {e : Expr} {te : TE} {pos : Pos} (h1 : FmC X.K C f) (F : FnOk X.prog X.w X.K X.mg X.base CX k f fd ps sp) (hr : Room (k + 1) X.A) (hb : Binds X.K fd ps []) (hx : Passes CX X E) (he : PE X e te) :
    PE X (.FormattedValue e (-1) none pos) (tFmtOwn C sp E te) := by
  refine ⟨fun pins s σ H Q I0 h0 => ?_⟩
  refine wpAny_FormattedValue_plain (thn (he.run pins s σ H _ I0 h0) fun v s1 hv => ?_)
  obtain ⟨x, H1, I, r1, a, dx, fs, hxs, ha, hsp⟩ := hv
  cases hxs
  cases (show v = Value.ref a from r1)
  have I2 : Inv X pins σ H1 { s1 with toks := s1.toks + 1 } := I.tok _
  obtain ⟨mA, J, _⟩ := ins_get I.hok ha
  obtain ⟨oa, J, _⟩ := J.look
  have sb : Sub X k X.A.in1 := (sub_here hr).in1
  exact PySem.W.kfo_fieldS sb.room.units0 I.kIn J h1.fmt h1.obj h1.str.find h1.str.isf (wpAny_mono (call_at F hb hx sb I2 (us := [.ref a]) (.cons (show RelV (.ref a) (Value.ref a) from rfl) .nil) hsp) (fun _ _ z => back_str z) fun _ _ z => z)
/-- one of two rules, by what stands there -/
def tAlt (t u : TE) : TE := fun σ H Q => t σ H Q ∨ u σ H Q
theorem pe_alt {X : Cx} {e : Expr} {t u : TE} (h1 : PE X e t) (h2 : PE X e u) : PE X e (tAlt t u) := ⟨fun pins s σ H Q I h => h.elim (h1.run pins s σ H Q I) (h2.run pins s σ H Q I)⟩
def tAltT (t u : TT) : TT := fun σ H Q => t σ H Q ∨ u σ H Q
theorem pt_alt {X : Cx} {e : Expr} {t u : TT} (h1 : PT X e t) (h2 : PT X e u) : PT X e (tAltT t u) := ⟨fun pins s σ H Q I h => h.elim (h1.run pins s σ H Q I) (h2.run pins s σ H Q I)⟩
theorem et_alt3 {a b c : TE} {σ : L2.St} {H : Hp} {k : Bool} (h : Ev (tAlt a (tAlt b c)) σ H (.bl k)) : EvT (tAltT (tTest a) (tAltT (tTest b) (tTest c))) σ H k := fun H1 e Q q =>
  h H1 e (fun v H2 => ∃ k, v = .bl k ∧ Q k H2) fun H2 e2 => ⟨k, rfl, q H2 e2⟩
/-- s.join(e) within a comprehension -/
theorem pe_joinK {X : Cx} {o e : Expr} {to te : TE} (K : PySem.W.Frag) (eK : X.K = K) {apos pos : Pos} (ho : PE X o to) (he : PE X e te) (hs : starEach [e] X.env = [(false, eval e X.env)] := by rfl) (hbase : attributeBase o "join" X.env (eval o X.env) = eval o X.env := by rfl) (hline : (apos.endLine == pos.line) = true := by rfl) :
    PE X (.Call (.Attribute o "join" apos) [e] [] pos) (tM1 (fun x xs H Q => ∃ a p, ∃ ys : List Str, x = .str a ∧ xs = [.ref p] ∧ (SqL K H p (ys.map V.str) ∨ SqT K H p (ys.map V.str)) ∧
      (ys.map (·.length)).sum + ys.length * a.length ≤ 16777216 ∧ Q (.str (Txt.join a ys)) H) to te) := eK ▸ pe_join ho he hs hbase hline
/-! ### the defs of such classes, as the terms name them -/
section
variable (P : Program) (w : World) (K : PySem.W.Frag) (mg : Str → Option Value) (base : Heap)
def DfO (nm : String) (C : Addr) (ps : List Str) (k : Nat) (sp : Sp) : Prop := ∃ (f : Addr) (fd : FuncData), OpC K nm C f ∧ Binds K fd ps [] ∧ FnOk P w K mg base (L2.CX P w) k f fd ps sp
def DfEq (C : Addr) (ps : List Str) (k : Nat) (sp : Sp) : Prop := ∃ (f : Addr) (fd : FuncData), EqC K C f ∧ Binds K fd ps [] ∧ FnOk P w K mg base CX0 k f fd ps sp
def DfSt (C : Addr) (ps : List Str) (k : Nat) (sp : Sp) : Prop := ∃ (f : Addr) (fd : FuncData), FmC K C f ∧ Binds K fd ps [] ∧ FnOk P w K mg base CX0 k f fd ps sp
/-- an own class whose __init__ may raise -/
def DfIX (x : Str) (C : Addr) (ps : List Str) (k : Nat) (sp : Sp) : Prop := ∃ (f : Addr) (fd : FuncData), Mk K C f ∧ mg x = some (.ref C) ∧ Binds K fd ps [] ∧ FnOk P w K mg base (L2.CX P w) k f fd ps sp
end
section
variable {X : Cx} {C C2 : Addr} {ps ps2 : List Str} {k k2 : Nat} {sp sp2 : Sp} {E : XK}
theorem op_dfO {op : Operator} {nm : String} (D : DfO X.prog X.w X.K X.mg X.base nm C ps k sp) (D2 : DfO X.prog X.w X.K X.mg X.base nm C2 ps2 k2 sp2) (hs : C = C2 ∨ PySem.W.subIn X.K (.ref C2) (.ref C) = some false) (hr : Room k X.A) (tk : Takes X (fun cls d _ H => E cls d H)) (he : op.info.2 = nm := by rfl) :
    OpR X (binaryOp op) (rBinOwn C C2 sp E) := by
  subst he
  obtain ⟨f, fd, h1, hb, F⟩ := D
  obtain ⟨f2, fd2, h2, _, _⟩ := D2
  exact op_binOwn h1 h2 hs F hr hb (passes_call tk fun _ _ _ _ h => h)
theorem op_eq_df (D : DfEq X.prog X.w X.K X.mg X.base C ps k sp) (hr : Room k X.A) : OpR X (compareOp .Eq) (rEqOwn X.K C sp E0) := by
  obtain ⟨f, fd, h1, hb, F⟩ := D
  exact op_eqOwn h1 F hr hb pass0
theorem call_str_df (D : DfSt X.prog X.w X.K X.mg X.base C ps k sp) (hr : Room (k + 2) X.A) : CallR X (.type "str") (rStrOwn C sp E0) := by
  obtain ⟨f, fd, h1, hb, F⟩ := D
  exact call_strOwn h1.str F hr hb pass0
theorem pe_fmt_df {e : Expr} {te : TE} {pos : Pos} (D : DfSt X.prog X.w X.K X.mg X.base C ps k sp) (hr : Room (k + 1) X.A) (he : PE X e te) : PE X (.FormattedValue e (-1) none pos) (tFmtOwn C sp E0 te) := by
  obtain ⟨f, fd, h1, hb, F⟩ := D
  exact pe_fmtOwn h1 F hr hb pass0 he
theorem pe_mkIX {x : Str} {p pos : Pos} {e : Expr} {es : List Expr} {t : TA} (D : DfIX X.prog X.w X.K X.mg X.base x C ps k sp) (hr : Room (k + 1) X.A) (hg : Gl X x) (tk : Takes X (fun cls d _ H => E cls d H)) (ha : PA X (e :: es) t) (hdb : (x == ("__debug__" : Str)) = false := by decide)
    (he : starEach (e :: es) X.env = (false, eval e X.env) :: starEach es X.env := by rfl) (hpl : (backTo pos (starEach es X.env)).any (·.1) = false := by rfl) : PE X (.Call (.Name x p) (e :: es) [] pos) (tMake C sp [] E t) := by
  obtain ⟨f, fd, M, hm, hb, F⟩ := D
  exact pe_make M F hr hg hm hb .nil (passes_call tk fun _ _ _ _ h => h) ha hdb he hpl
end
end Kz
namespace Kz
open PySem PySem.Spec PyProof.Rows L2 Evl StX
section
variable {M : Model} {prog : Program} {w : World} {A : Around} {E : Value → Shared → Prop} {s : Shared} {K : PySem.W.Frag} {x C f : Addr} {ox : Obj} {od : Option Obj} {b tb : Value}
theorem ifBound_ne {args : List Value} {Q : Option Value → Shared → Prop} (X : K.In s.heap) (I : PySem.W.InstAt s.heap x ox C od) (hs : PySem.W.findIn K (.ref C) "__ne__" = some (some (.builtin "object.__ne__")))
    (h : wpAny M A (call (.builtin "object.__ne__") (.ref x :: args)) (fun v => Q (some v)) E s) : wpAny M A (callSpecialIfBound? (.ref x) "__ne__" args) Q E s := by
  simp only [callSpecialIfBound?, bindSpecialIfBound?]
  refine wpAny_holding (wpAny_bind (wpAny_bind (wpAny_bind (I.type.here ((PySem.W.looks_findIn X hs).here ?_)))))
  refine wpAny_bind (wpAny_askSetting (wpAny_ite ?_))
  have fin : wpAny M A (call (.builtin "object.__ne__") ([.ref x] ++ args) >>= fun v => pure (some v)) Q E s := wpAny_bind (wpAny_mono h (fun v s' h' => wpAny_pure h') fun _ _ h' => h')
  split
  · exact wpAny_bind (wpAny_of_eq (F.cmp_object.ne.bind _) (wpAny_pure (by exact fin)))
  · exact wpAny_tryCatch (wpAny_bind (wpAny_of_eq (F.cmp_object.ne.bind _) (wpAny_pure (by exact fin))))
def NeBack (Q : Value → Shared → Prop) (v : Value) (s' : Shared) : Prop := ∃ k, v = .bool k ∧ Q (.bool (!k)) s'
theorem entry_ne {Q : Fin → Shared → Prop} (hu : A.units < cLine) (X : K.In s.heap) (I : PySem.W.InstAt s.heap x ox C od) (hs : PySem.W.findIn K (.ref C) "__eq__" = some (some (.ref f))) (hf : PySem.W.isFn K (.ref f) = true)
    (h : wpAny (model prog w) A (call (.ref f) [.ref x, b]) (NeBack fun v s' => Q (.done (.ret v)) s') E s) : wpAny (model prog w) A (Builtin.«object.__ne__» ⟨[.ref x, b], []⟩) Q E s := by
  unfold Builtin.«object.__ne__»
  repeat (first | with_reducible refine wpAny_cRoomFor hu ?_ | with_reducible refine PySem.W.ifBound_K X I hs hf (wpAny_mono h (fun v s' hv => ?_) fun _ _ e => e) | wp_step)
  obtain ⟨k, rfl, hq⟩ := hv
  refine wpAny_bind (wpAny_of_eq (rfl : truthy (.bool k) = pure k) ?_)
  exact wpAny_pure hq
theorem call_ne {Q : Value → Shared → Prop} (hu : A.in1.units < cLine) (X : K.In s.heap) (I : PySem.W.InstAt s.heap x ox C od) (hm : PySem.W.mroIn K C (.type "object") = some true) (hs : PySem.W.findIn K (.ref C) "__eq__" = some (some (.ref f))) (hf : PySem.W.isFn K (.ref f) = true)
    (h : wpAny (model prog w) A.in1 (call (.ref f) [.ref x, b]) (NeBack Q) E s) : wpAny (model prog w) A (call (.builtin "object.__ne__") [.ref x, b]) Q E s :=
  wpAny_call (codeAny_call_builtin F.cmp_object.ne.plain F.cmpEntry_ne (PySem.W.check_slot F.cmpKind_ne F.cmpSplit_ne (I.type.andThen (PySem.W.looks_mroIn X hm)) (F.cmpArgs_ne _ _) (entry_ne hu X I hs hf h)))
theorem rc_neOwn {Q : Value → Shared → Prop} (hu : A.units < cLine) (hu1 : A.in1.units < cLine) (X : K.In s.heap) (I : PySem.W.InstAt s.heap x ox C od) (hb : PySem.W.Looks (model prog w) s.heap (typeOf b) tb) (hn : PySem.W.notFirst K C tb = true)
    (hm : PySem.W.mroIn K C (.type "object") = some true) (hne : PySem.W.findIn K (.ref C) "__ne__" = some (some (.builtin "object.__ne__"))) (hs : PySem.W.findIn K (.ref C) "__eq__" = some (some (.ref f))) (hf : PySem.W.isFn K (.ref f) = true)
    (h : wpAny (model prog w) A.in1 (call (.ref f) [.ref x, b]) (NeBack Q) E s) : wpAny (model prog w) A (richCompare .NotEq (.ref x) b) Q E s := by
  have one : wpAny (model prog w) A (tryCompare (.ref x) "__ne__" b) (fun r s' => ∃ v, r = some v ∧ Q v s') E s := by
    unfold tryCompare
    refine wpAny_bind (ifBound_ne X I hne (call_ne hu1 X I hm hs hf (wpAny_mono h (fun v s' hv => ?_) fun _ _ e => e)))
    obtain ⟨k, rfl, hq⟩ := hv
    exact ⟨k, rfl, wpAny_pure ⟨_, rfl, hq⟩⟩
  have one : wpAny (model prog w) A (tryCompare (.ref x) (cmpInfo .NotEq).2.1 b) (fun r s' => ∃ v, r = some v ∧ Q v s') E s := one
  unfold richCompare
  simp only [oneThing_ref]
  refine wpAny_holding (wpAny_bind (wpAny_cRoomFor hu ?_))
  refine wpAny_bind (I.type.here (wpAny_bind (hb.here ?_)))
  split
  · rename_i q
    have e : PySem.W.subIn K tb (.ref C) = some false := by
      rcases Bool.or_eq_true_iff.mp hn with e | e
      · rw [beq_iff_eq.mp e] at q; simp at q
      · exact beq_iff_eq.mp e
    refine wpAny_bind ((PySem.W.looks_subIn X e).here ?_)
    simp only [Bool.false_eq_true, if_false]
    refine wpAny_bind (wpAny_mono one (fun r s' z => ?_) fun _ _ e => e)
    obtain ⟨v, rfl, hq⟩ := z
    exact wpAny_pure hq
  · refine wpAny_bind (wpAny_pure ?_)
    simp only [Bool.false_eq_true, if_false]
    refine wpAny_bind (wpAny_mono one (fun r s' z => ?_) fun _ _ e => e)
    obtain ⟨v, rfl, hq⟩ := z
    exact wpAny_pure hq
end
/-- the facts: an own __eq__, object's __ne__ -/
structure NeC (K : PySem.W.Frag) (C f : Addr) : Prop where
  eq : EqC K C f
  ne : PySem.W.findIn K (.ref C) "__ne__" = some (some (.builtin "object.__ne__"))
  obj : PySem.W.mroIn K C (.type "object") = some true
def rNeOwn (K : PySem.W.Frag) (C : Addr) (sp : Sp) (E : XK) : R2 := fun x y H Q => ∃ a dx fs, x = .ref a ∧ H a = some (.ins C dx fs) ∧
  ((∃ b C2 dy gs, y = .ref b ∧ H b = some (.ins C2 dy gs) ∧ PySem.W.notFirst K C (.ref C2) = true) ∨ ∃ z, y = .str z ∧ PySem.W.notFirst K C (.type "str") = true) ∧ sp [.ref a, y] H (fun v H' => ∃ b, v = .bl b ∧ Q (.bl (!b)) H') E
theorem back_ne {X : Cx} {pins : List (Addr × Obj)} {σ : L2.St} {Q : VK} {v : Value} {s : Shared} (h : EP X pins σ (fun v H' => ∃ b, v = .bl b ∧ Q (.bl (!b)) H') v s) : NeBack (EP X pins σ Q) v s := by
  obtain ⟨x, H', I, r, p, rfl, q⟩ := h
  cases (show v = Value.bool p from r)
  exact ⟨p, rfl, .bl (!p), H', I, rfl, q⟩
theorem op_neOwn {X : Cx} {CX : CXT} {C f : Addr} {fd : FuncData} {ps : List Str} {k : Nat} {sp : Sp} {E : XK} (h1 : NeC X.K C f) (F : FnOk X.prog X.w X.K X.mg X.base CX k f fd ps sp) (hr : Room (k + 1) X.A) (hb : Binds X.K fd ps []) (hx : Passes CX X E) : OpR X (compareOp .NotEq) (rNeOwn X.K C sp E) := by
  intro pins s σ H x y v u Q I rx ry h
  obtain ⟨a, dx, fs, rfl, ha, hy, hsp⟩ := h
  cases (show v = Value.ref a from rx)
  obtain ⟨mA, J, _⟩ := ins_get I.hok ha
  obtain ⟨oa, J, _⟩ := J.look
  have sb : Sub X k X.A.in1 := (sub_here hr).in1
  have one := wpAny_mono (call_at F hb hx sb I (us := [.ref a, u]) (.cons (show RelV (.ref a) (Value.ref a) from rfl) (.cons ry .nil)) hsp) (fun _ _ z => back_ne z) fun _ _ z => z
  show wpAny _ _ (richCompare .NotEq (.ref a) u) _ _ s
  rcases hy with ⟨b, C2, dy, gs, rfl, hb2, nf⟩ | ⟨z, rfl, nf⟩
  · cases (show u = Value.ref b from ry)
    obtain ⟨mB, J2, _⟩ := ins_get I.hok hb2
    obtain ⟨ob, J2, _⟩ := J2.look
    exact rc_neOwn hr.units0 sb.room.units0 I.kIn J J2.type nf h1.obj h1.ne h1.eq.find h1.eq.isf one
  · obtain ⟨t, rfl⟩ := ry
    exact rc_neOwn (tb := .type "str") hr.units0 sb.room.units0 I.kIn J (PySem.W.Looks.of_pure rfl) nf h1.obj h1.ne h1.eq.find h1.eq.isf one
def DfNe (P : Program) (w : World) (K : PySem.W.Frag) (mg : Str → Option Value) (base : Heap) (C : Addr) (ps : List Str) (k : Nat) (sp : Sp) : Prop := ∃ (f : Addr) (fd : FuncData), NeC K C f ∧ Binds K fd ps [] ∧ FnOk P w K mg base CX0 k f fd ps sp
theorem op_ne_df {X : Cx} {C : Addr} {ps : List Str} {k : Nat} {sp : Sp} (D : DfNe X.prog X.w X.K X.mg X.base C ps k sp) (hr : Room (k + 1) X.A) : OpR X (compareOp .NotEq) (rNeOwn X.K C sp E0) := by
  obtain ⟨f, fd, h1, hb, F⟩ := D
  exact op_neOwn h1 F hr hb pass0
theorem DfNe.eq {P : Program} {w : World} {K : PySem.W.Frag} {mg : Str → Option Value} {base : Heap} {C : Addr} {ps : List Str} {k : Nat} {sp : Sp} (D : DfNe P w K mg base C ps k sp) : DfEq P w K mg base C ps k sp := by
  obtain ⟨f, fd, h1, hb, F⟩ := D
  exact ⟨f, fd, h1.eq, hb, F⟩
end Kz
namespace Kz
open PySem PySem.Spec PyProof.Rows L2 Evl StX
def IteT (x : Str) : It :=
  ⟨fun i _ => i < x.cps.size, fun i H v H' => ∃ T c, v = .ref T ∧ H T = none ∧ H' = upd H T (.tup [.int (i : Nat), .str ⟨#[c]⟩]) ∧ x.cps[i]? = some c, fun i _ => i = x.cps.size⟩
theorem turn_enumT {P : Program} {w : World} {K : PySem.W.Frag} {elts : List Expr} {kk : Nat} {tpos : Pos} (x : Str) (t : Tok) (e it : Addr) :
    Turn P w K (.Tuple elts kk tpos) (IteT x) [e, it] e (fun i h => (∃ old, IsEnum h e it ((i : Nat) : Int) old) ∧ h.IsStrIter it (strIterType x) x t i ∧ e ≠ it) where
  mem := by simp
  obj := fun i h st b hb => by
    obtain ⟨⟨old, he⟩, ⟨o, ho, hc, hd⟩, _⟩ := st
    have e' : b = e ∨ b = it := by simpa using hb
    rcases e' with z | z
    · rw [z]; exact ⟨_, he, fun v q => nomatch q⟩
    · rw [z]; exact ⟨o, ho, fun v q => by rw [hd] at q; cases q⟩
  keep := fun i h h' st k => let ⟨⟨old, he⟩, ⟨o, ho, r⟩, hne⟩ := st; ⟨⟨old, k e (by simp) _ he⟩, ⟨o, k it (by simp) o ho, r⟩, hne⟩
  item := by
    intro X hP hw hK hc i pins s σ H E I hf st hg
    subst hP hw hK
    obtain ⟨⟨old, he⟩, hit, hne⟩ := st
    have hlt : i < x.cps.size := hg
    have hel : e < s.heap.objs.size := Heap.lt_size he
    have hil : it < s.heap.objs.size := by obtain ⟨_, q, _⟩ := hit; exact Heap.lt_size q
    have D := Draws.text (prog := X.prog) (w := X.w) (A := X.A.in1) (I.ok.hd hc) it x t
    refine wpAny_pyNext_enum_itemC D he hit hlt hne (by simpa using hne) fun u h' tk hu ho hit' hT hsz hk => ?_
    obtain ⟨c, tu, hx, rfl⟩ := hu
    refine ⟨_, rfl, wpAny_letOwnedTupleGo_enum (s := { s with heap := h', toks := tk + 1 }) ho fun h'' he' sb => ?_⟩
    have hT2 : h''.get? s.heap.objs.size = some { cls := .type "tuple", data := .seq #[.int i tk, .str ⟨#[c]⟩ tu] } := (sb.2 _ (Nat.ne_of_gt hel)).trans hT
    have new : ObjOk X.prog X.w (upd H s.heap.objs.size (.tup [.int (i : Nat), .str ⟨#[c]⟩])) h'' s.heap.objs.size (.tup [.int (i : Nat), .str ⟨#[c]⟩]) :=
      ⟨by show 2 ≤ sizeLine; decide, [.int i tk, .str ⟨#[c]⟩ tu], .cons ⟨_, rfl⟩ (.cons ⟨_, rfl⟩ .nil), ⟨_, hT2, rfl, _, rfl⟩⟩
    have I1 : Inv X pins σ (upd H s.heap.objs.size (.tup [.int (i : Nat), .str ⟨#[c]⟩])) { s with heap := h'', toks := tk + 1 } :=
      I.turnedNew (t' := tk + 1) (ch := [e, it]) (fun b ob hb q => (sb.2 b (fun z => hb (by simp [z]))).trans (hk b ob (fun z => hb (by simp [z])) (fun z => hb (by simp [z])) q)) hf (Nat.le_refl _) new
    refine ⟨.ref s.heap.objs.size, _, I1, rfl, ⟨_, c, rfl, I.hok.fresh (Nat.le_refl _), rfl, hx⟩, ⟨⟨.str ⟨#[c]⟩ tu, ?_⟩, ?_, hne⟩, fun b hb => ?_⟩
    · have e1 : ((i + 1 : Nat) : Int) = (i : Int) + 1 := by omega
      rw [e1]; exact he'
    · obtain ⟨o, ho2, r⟩ := hit'
      exact ⟨o, (sb.2 it (Ne.symm hne)).trans ho2, r⟩
    · have hb' : b < s.heap.objs.size := by
        have e' : b = e ∨ b = it := by simpa using hb
        rcases e' with z | z
        · rw [z]; exact hel
        · rw [z]; exact hil
      rw [upd_ne (Nat.ne_of_lt hb')]
      exact (hf b hb).1
  done := by
    intro X hP hw hK hc i pins s σ H E I hf st hg
    subst hP hw hK
    obtain ⟨⟨old, he⟩, hit, hne⟩ := st
    have hge : i = x.cps.size := hg
    subst hge
    obtain ⟨f0, f1, f2, f3, f4, f5⟩ := hf it (by simp)
    have D := Draws.text (prog := X.prog) (w := X.w) (A := X.A.in1) (I.ok.hd hc) it x t
    exact wpAny_pyNext_enum_endD D he hit fun h' eb => ⟨rfl, I.turned (t' := s.toks) (fun b o hb q => eb b o hb q) f0 f1 f3 f4 f5⟩
  self := fun A i s Q E st h => let ⟨⟨_, he⟩, _⟩ := st; wpAny_pyIter_enum he h
def iEnumT (ta : TA) : TI := fun σ H R => ta σ H fun vs H1 => ∃ x, vs = [.str x] ∧ R (IteT x) H1
theorem pi_enumT {X : Cx} {e : Expr} {ta : TA} {p pos tpos : Pos} {elts : List Expr} {kk : Nat} (hg : Gl X "enumerate") (hm : X.mg "enumerate" = none) (ha : PA X [e] ta) (hs : starEach [e] X.env = [(false, eval e X.env)] := by rfl) :
    PI X (.Tuple elts kk tpos) (.Call (.Name "enumerate" p) [e] [] pos) (iEnumT ta) := by
  refine ⟨fun pins s σ H R I h => ?_⟩
  refine Call_ (ld_blt I hg hm boot_enumerate (PyProof.Rows.callWith_type1 (thn (ha.run pos pins s σ H _ I h) fun us s1 ⟨vs, H1, I1, r1, q1⟩ => ?_) hs rfl))
  obtain ⟨x, ex, q⟩ := q1
  subst ex
  cases r1 with
  | cons r rr =>
    cases rr
    obtain ⟨t, rfl⟩ := r
    refine call_enumerate_str fun h' he hit hsz hk => wpAny_pyIter_enum he ?_
    have I2 : Inv X pins σ H1 { s1 with heap := h' } := I1.kept (t' := s1.toks) hk
    refine ⟨s1.heap.objs.size + 1, [s1.heap.objs.size + 1, s1.heap.objs.size], _, _, H1, rfl, I2, turn_enumT x t (s1.heap.objs.size + 1) s1.heap.objs.size, ⟨⟨.none, he⟩, hit, Nat.succ_ne_self _⟩, fun b hb => ?_, q⟩
    have e' : b = s1.heap.objs.size + 1 ∨ b = s1.heap.objs.size := by simpa using hb
    have hle : s1.heap.objs.size ≤ b := by
      rcases e' with z | z
      · rw [z]; exact Nat.le_add_right _ _
      · rw [z]; exact Nat.le_refl _
    exact I1.fpOk hle (I1.hok.fresh hle)
theorem walkET {x : Str} {G : Hp → Prop} (up : ∀ H T o, G H → H T = none → G (upd H T o)) : Walk (IteT x) x.cps.size G (fun i H v H' => ∃ T c, v = .ref T ∧ H T = none ∧ H' = upd H T (.tup [.int (i : Nat), .str ⟨#[c]⟩]) ∧ x.cps[i]? = some c) :=
  ⟨fun i H hi q => hi, fun H q => rfl, fun i H v H' hi q y => y⟩
section
variable {σ : L2.St} {H : Hp} {te : TE} {D : Ends} {tu tz : TS} {K : PySem.W.Frag}
/-- for i, c in enumerate(text) -/
theorem q_forET {z : Str} {j k : Nat} (h : Ev te σ H (.str z)) (Pv : Nat → L2.St → Hp → Prop) (h0 : ∀ H1, Ex H H1 → Pv 0 σ H1)
    (hs : ∀ i c σ' H' T, z.cps[i]? = some c → Pv i σ' H' → H' T = none → tu { D with nx := Pv (i + 1), ct := Pv (i + 1), bk := tz D } ((σ'.set j (some (.int (i : Int)))).set k (some (.str ⟨#[c]⟩))) (upd H' T (.tup [.int (i : Int), .str ⟨#[c]⟩])))
    (hd : ∀ σ' H', Pv z.cps.size σ' H' → tz D σ' H') : tSeq (tFor (iEnumT (tCons te tNil)) (gTup K 2 (gCons (gName j) (gCons (gName k) gNil))) tu) tz D σ H :=
  h H (Ex.refl H) _ fun H1 e => ⟨z, rfl, for_it (D := { D with nx := tz D }) (walkET (x := z) (G := fun _ => True) fun _ _ _ _ _ => trivial) Pv (h0 H1 e) (fun _ _ _ _ _ => trivial) (fun i x σ' H' H'' hi pc y => by
    obtain ⟨T, c, rfl, hT, rfl, hc⟩ := y
    exact ⟨T, [_, _], rfl, st_of upd_same, rfl, _, _, rfl, _, _, rfl, rfl, hs i c σ' H' T hc pc hT⟩) hd⟩
end
theorem pe_startswith {X : Cx} {o e : Expr} {to te : TE} {apos pos : Pos} (ho : PE X o to) (he : PE X e te) (hs : starEach [e] X.env = [(false, eval e X.env)] := by rfl) (hbase : attributeBase o "startswith" X.env (eval o X.env) = eval o X.env := by rfl) (hline : (apos.endLine == pos.line) = true := by rfl) :
    PE X (.Call (.Attribute o "startswith" apos) [e] [] pos) (tM1 (fun x xs H Q => ∃ a b, x = .str a ∧ xs = [.str b] ∧ Q (.bl (Txt.startswith a b)) H) to te) := pe_m1 F.slot_str_startswith F.type_str_startswith mt_startswith ho he hs hbase hline
theorem pe_endswith {X : Cx} {o e : Expr} {to te : TE} {apos pos : Pos} (ho : PE X o to) (he : PE X e te) (hs : starEach [e] X.env = [(false, eval e X.env)] := by rfl) (hbase : attributeBase o "endswith" X.env (eval o X.env) = eval o X.env := by rfl) (hline : (apos.endLine == pos.line) = true := by rfl) :
    PE X (.Call (.Attribute o "endswith" apos) [e] [] pos) (tM1 (fun x xs H Q => ∃ a b, x = .str a ∧ xs = [.str b] ∧ Q (.bl (Txt.endswith a b)) H) to te) := pe_m1 F.slot_str_endswith F.type_str_endswith mt_endswith ho he hs hbase hline
theorem call_tuple_ofK {X : Cx} (K : PySem.W.Frag) (e : X.K = K) : CallR X (.type "tuple") (fun xs H Q => ∃ p ys, xs = [.ref p] ∧ ((SqL K H p ys ∧ ∀ l, H l = none → Q (.ref l) (upd H l (.tup ys))) ∨ (SqT K H p ys ∧ Q (.ref p) H))) := e ▸ call_tuple_of
/-- x(*xs), x a class with a starred __init__ -/
theorem pe_mkS1 {X : Cx} {C : Addr} {k : Nat} {sp : Sp} {x : Str} {e : Expr} {te : TE} {p sp_ pos : Pos} (D : DfS X.prog X.w X.K X.mg X.base x C k sp) (hr : Room (k + 1) X.A) (hg : Gl X x) (he : PE X e te) (hdb : (x == ("__debug__" : Str)) = false := by decide)
    (hst : starEach [.Starred e sp_] X.env = [(true, eval e X.env)] := by rfl) : PE X (.Call (.Name x p) [.Starred e sp_] [] pos) (tMakeR C sp E0 (tStar X.K te tNil)) := by
  obtain ⟨f, M, hm, F⟩ := D
  refine ⟨fun pins s σ H Q I h => ?_⟩
  refine wpAny_Call_Name_kw (ld_glob I hg hm ?_ hdb)
  refine PySem.W.callWith_S (h₀ := X.base) I.ok.mod.kin M.kp (thn (he.run pins s σ H _ I h) fun v s1 ⟨y, H1, I1, ry, a, xs, ey, hxs, q⟩ => ?_) hst
  subst ey
  obtain rfl : v = Value.ref a := ry
  exact star_any I1 hxs fun us s2 I2 rv => ⟨I2.kIn, run_makeR M F hr pass0 I2 rv (by
    simp only [tNil, List.append_nil] at q
    exact q)⟩
end Kz
namespace Kz
open PySem PySem.Spec PyProof.Rows L2 Evl StX
def kI (ns : List Nat) : List Key := ns.map fun (n : Nat) => Sum.inl (n : Int)
theorem kI_V (ns : List Nat) : (kI ns).map kV = ns.map fun (n : Nat) => V.int (n : Int) := by
  unfold kI
  rw [List.map_map]
  rfl
theorem kI_inj {a b : List Nat} (h : kI a = kI b) : a = b := by
  unfold kI at h
  induction a generalizing b with
  | nil =>
    cases b with
    | nil => rfl
    | cons _ _ => cases h
  | cons x a ih =>
    cases b with
    | nil => cases h
    | cons y b =>
      injection h with h1 h2
      injection h1 with h1
      rw [ih h2, Int.ofNat.inj h1]
theorem tk_room {A : Around} {prog : Program} {w : World} {K : Type} [DecidableEq K] {knd : KeyKind prog w K} (hu : A.units + 1 < cLine) : (tupleKind knd).room A := Nat.lt_of_succ_lt hu
/-- {k: v}, k a tuple -/
def tDisp1T (tk tv : TE) : TE := fun σ H Q => ∀ p, H p = none → tk σ (upd H p (.dT [])) fun x H1 => tv σ H1 fun y H2 => ∃ (b : Addr) (ks : List Key), x = .ref b ∧ H2 b = some (.tup (ks.map kV)) ∧ H2 p = some (.dT []) ∧ Q (.ref p) (upd H2 p (.dT [(ks, y)]))
theorem pe_disp1T {X : Cx} {k v : Expr} {tk tv : TE} {pos : Pos} (hu : X.A.units + 1 < cLine) (hk : PE X k tk) (hv : PE X v tv) : PE X (.Dict [some k] [v] pos) (tDisp1T tk tv) := by
  refine ⟨fun pins s σ H Q I q => ?_⟩
  have hn := I.hok.fresh (Nat.le_refl s.heap.objs.size)
  have I1 := I.laid (a := s.heap.objs.size) (o := .dT []) (h' := s.heap.push { cls := .type "dict", data := .dict #[] }) (t' := s.toks) (fun _ _ q => Heap.get?_push_of_some _ q) (Nat.le_refl _) (dt_empty s.heap I.big)
  rw [arm_eval_Dict, zip_pairTrees [some k] [v] X.env pos rfl rfl, dictDisplay_pairs _ (by simp [pairTrees]) (by simp [pairTrees])]
  refine wpAny_bind (wpAny_standAt (wpAny_bind ?_))
  unfold subDict
  refine wpAny_bind (wpAny_alloc ?_)
  refine wpAny_bind (wpAny_holding ?_)
  rw [if_pos (show (pairTrees [some k] [v] X.env pos).length ≤ 15 by show 1 ≤ 15; decide)]
  refine wpAny_bind (evalPairs_cons (thn (hk.run pins _ σ _ _ I1 (q _ hn)) fun u s1 h1 => ?_))
  obtain ⟨x, H1, I2, rx, q1⟩ := h1
  refine wpAny_bind (thn (hv.run pins s1 σ H1 _ I2 q1) fun u2 s2 h2 => wpAny_bind (wpAny_standAt (wpAny_pure (evalPairs_nil ?_))))
  obtain ⟨y, H2, I3, ry, b, ks, ex, eb, ep, q2⟩ := h2
  subst ex
  obtain rfl : u = Value.ref b := rx
  obtain ⟨z, hd, xs, rel, dd⟩ := dt_of I3.hok ep
  cases rel
  refine wpAny_holding (wpAny_bind ?_)
  rw [List.forIn_cons]
  refine wpAny_bind (wpAny_bind (wpAny_dictSet_heap (hsz := by simp) ((tk_room hu)) (key_of I3.hok eb) dd fun h' dd' hs => wpAny_pure ?_))
  dsimp only
  rw [List.forIn_nil]
  refine wpAny_pure (wpAny_pure (wpAny_pure (wpAny_pure ⟨.ref s.heap.objs.size, _, ?_, rfl, q2⟩)))
  obtain ⟨qo, es, pp, hq, h2, h3, h4, _, h5⟩ := dd'
  have rel2 : KT H2 (putK ([] : List (List Key × V)) ks y) (storedH [] ks b u2) := KT.put .nil ks eb ry
  exact d_write I3 (by rw [ep]; exact True.intro) hs ⟨qo, hq⟩ ⟨by rw [sizeLine_eq]; show 1 ≤ _; omega, hd, _, rel2.keeps fun c ys ec => by
    rw [upd_ne (ne_of ec ep (fun z => nomatch z))]
    exact ec, qo, es, pp, hq, h2, h3, h4, h5⟩
/-! lists of objects, by place -/
theorem Rs.at {α : Type} {R : α → Addr → Hp → Prop} {H : Hp} {vs : List V} {xs : List α} (h : Rs R H vs xs) {i : Nat} {x : α} (hi : xs[i]? = some x) : ∃ p, vs[i]? = some (.ref p) ∧ R x p H := by
  induction h generalizing i with
  | nil => cases hi
  | cons r0 _ ih =>
    cases i with
    | zero =>
      cases hi
      exact ⟨_, rfl, r0⟩
    | succ i => exact ih hi
/-! zip of two lists; zip of a list of pairs and a tuple -/
section
variable {K : PySem.W.Frag} {σ : L2.St} {H : Hp} {te tl : TE}
theorem elv_zipL {ta : TA} {a b : Addr} {us vs xs : List V} {j k : Nat} {ws : List Nat} (h : EvA ta σ H [.ref a, .ref b]) (hx : SqL K H a us) (hy : SqL K H b vs) (hn : us.length ≤ 40000) (hl : xs.length = us.length) (h2 : us.length = vs.length)
    (hw : ∀ x y, wipe (((wipe σ ws).set j (some x)).set k (some y)) ws = wipe σ ws)
    (he : ∀ (i : Nat) (u v y : V) (H1 : Hp), Ex H H1 → us[i]? = some u → vs[i]? = some v → xs[i]? = some y → Ev te (((wipe σ ws).set j (some u)).set k (some v)) H1 y) : EvL (tLc (iZip K ta) (gTup K 2 (gCons (gName j) (gCons (gName k) gNil))) tYes te ws) σ H xs := fun H0 e Q q => h H0 e _ fun H1 e1 => ⟨a, b, us, vs, rfl, ex_l (e.trans e1) hx, ex_l (e.trans e1) hy,
  lcVs (H0 := H1) (walk_zip (K := K) (a := a) (b := b) (xs := us) (ys := vs) (n := us.length) (by omega)) (by omega) hl (fun H2 e2 => ⟨ex_l ((e.trans e1).trans e2) hx, ex_l ((e.trans e1).trans e2) hy⟩) (fun i y x H2 H3 hyi e2 yy kk hk => by
    obtain ⟨m, u, v, rfl, hm, rfl, hu, hv⟩ := yy
    refine ⟨m, [u, v], rfl, st_of upd_same, rfl, u, [v], rfl, v, [], rfl, rfl, ?_⟩
    exact hk _ _ (Ex.new hm) (hw _ _) (he i u v y _ (((e.trans e1).trans e2).trans (Ex.new hm)) hu hv hyi)) fun l H2 hl0 e2 h2 => q l H2 (fresh_back e1 hl0) (e1.trans e2) h2⟩
theorem elv_zipN {ta : TA} {a b : Addr} {us vs xs : List V} {j1 j2 k : Nat} {ws : List Nat} (h : EvA ta σ H [.ref a, .ref b]) (hx : SqL K H a us) (hy : SqT K H b vs) (hn : us.length ≤ 40000) (hl : xs.length = us.length) (h2 : us.length = vs.length)
    (hw : ∀ x y z, wipe ((((wipe σ ws).set j1 (some x)).set j2 (some y)).set k (some z)) ws = wipe σ ws)
    (he : ∀ (i : Nat) (u v y : V), us[i]? = some u → vs[i]? = some v → xs[i]? = some y → ∃ (p : Addr) (x1 x2 : V), u = .ref p ∧ H p = some (.tup [x1, x2]) ∧ ∀ H1, Ex H H1 → Ev te ((((wipe σ ws).set j1 (some x1)).set j2 (some x2)).set k (some v)) H1 y) :
    EvL (tLc (iZipM K ta) (gTup K 2 (gCons (gTup K 2 (gCons (gName j1) (gCons (gName j2) gNil))) (gCons (gName k) gNil))) tYes te ws) σ H xs := fun H0 e Q q => h H0 e _ fun H1 e1 => ⟨a, b, us, vs, rfl, ⟨ex_l (e.trans e1) hx, ex_t (e.trans e1) hy⟩,
  lcVs (H0 := H1) (walkM (K := K) (a := a) (b := b) h2) (by omega) hl (fun H2 e2 => ⟨ex_l ((e.trans e1).trans e2) hx, ex_t ((e.trans e1).trans e2) hy⟩) (fun i y x H2 H3 hyi e2 yy kk hk => by
    obtain ⟨m, u, v, rfl, hm, rfl, hu, hv⟩ := yy
    obtain ⟨p, x1, x2, rfl, hp, hE⟩ := he i u v y hu hv hyi
    have e3 := (((e.trans e1).trans e2).trans (Ex.new (o := .tup [V.ref p, v]) hm))
    refine ⟨m, [V.ref p, v], rfl, st_of upd_same, rfl, V.ref p, [v], rfl, ?_⟩
    refine ⟨p, [x1, x2], rfl, st_of (e3 _ _ hp), rfl, x1, [x2], rfl, x2, [], rfl, rfl, ?_⟩
    refine ⟨v, [], rfl, rfl, ?_⟩
    exact hk _ _ (Ex.new hm) (hw _ _ _) (hE _ e3)) fun l H2 hl0 e2 h2 => q l H2 (fresh_back e1 hl0) (e1.trans e2) h2⟩
end
/-! comprehensions of objects whose own lists are told apart from the one that is filled -/
def Off2 {α : Type} (R : α → Addr → Hp → Prop) : Prop := ∀ x p H D acc ys, R x p H → H D = some (.lst acc) → Rs R H acc ys → p ≠ D → R x p (hide D H)
theorem lcRs2 {α : Type} {R : α → Addr → Hp → Prop} {xs : List α} {J : It} {n : Nat} {G : Hp → Prop} {Y : Nat → Hp → V → Hp → Prop} (w : Walk J n G Y) {g : TG} {te : TE} {us : List Nat} {σ : L2.St} {H1 H0 : Hp} {Q : VK} (up : Up R) (off : Off2 R) (hn : n ≤ 100000) (hl : xs.length = n) (hG : ∀ H, Ex H1 H → G H)
    (hs : ∀ i y x H H', xs[i]? = some y → Ex H1 H → Y i H x H' → ∀ k : L2.St → Hp → Prop, (∀ σ2 H2, Ex H H2 → wipe σ2 us = wipe σ us → EvN te σ2 H2 (R y) → k σ2 H2) → g x (wipe σ us) H' k)
    (hq : ∀ l vs H2, H1 l = none → Ex H1 H2 → H2 l = some (.lst vs) → Rs R H2 vs xs → Q (.ref l) H2) : tLc (iHere J H1) g tYes te us σ H0 Q := fun D hD => by
  refine lc_it w (fun i H => ∃ vs, H D = some (.lst vs) ∧ Ex H1 (hide D H) ∧ Rs R (hide D H) vs (xs.take i)) ⟨[], upd_same, ?_, ?_⟩ ?_ ?_ ?_
  · rw [hide_upd, hide_none hD]
    exact Ex.refl _
  · exact .nil
  · rintro i H _ ⟨vs, _, e, _⟩
    exact hG H (e.trans hide_le)
  · rintro i x H H' hi ⟨vs, hv, e, r⟩ y
    obtain ⟨z, hz⟩ : ∃ z, xs[i]? = some z := ⟨xs[i]'(by omega), List.getElem?_eq_getElem (by omega)⟩
    refine hs i z x H H' hz (e.trans hide_le) y _ fun σ2 H2 e2 hw ev => ⟨hw, ?_⟩
    show te σ2 H2 fun y H4 => ∃ acc, H4 D = some (.lst acc) ∧ acc.length < sizeLine ∧ _
    refine ev H2 (Ex.refl _) _ fun p H3 hp e3 rp => ?_
    have hv2 := e2 _ _ hv
    have hv3 := e3 _ _ hv2
    have ne : p ≠ D := fun q => by
      rw [q, hv2] at hp
      cases hp
    have el : vs.length = (xs.take i).length := r.len
    rw [List.length_take] at el
    refine ⟨vs, hv3, sz_lt (by omega), vs ++ [.ref p], upd_same, ?_, ?_⟩
    · rw [hide_upd]
      exact e.trans (ex_hide (e2.trans e3))
    · rw [hide_upd, List.take_add_one, hz]
      exact (r.ex up (ex_hide (e2.trans e3))).snoc (off _ _ _ _ _ _ rp hv3 (r.ex up ((hide_le.trans e2).trans e3)) ne)
  · rintro H ⟨vs, hv, e, r⟩
    rw [← hl, List.take_length] at r
    exact hq D vs H hD (e.trans hide_le) hv (r.ex up hide_le)
theorem ers_lc2 {α : Type} {R : α → Addr → Hp → Prop} {xs : List α} {K : PySem.W.Frag} {σ : L2.St} {H : Hp} {te tl : TE} {a : Addr} {us : List V} {j : Nat} {ws : List Nat} (up : Up R) (off : Off2 R) (h : Ev tl σ H (.ref a)) (hx : SqL K H a us) (hn : us.length ≤ 40000) (hl : xs.length = us.length) (hw : ∀ x, wipe ((wipe σ ws).set j (some x)) ws = wipe σ ws)
    (he : ∀ (i : Nat) (u : V) (y : α) (H1 : Hp), Ex H H1 → us[i]? = some u → xs[i]? = some y → EvN te ((wipe σ ws).set j (some u)) H1 (R y)) : EvRs (tLc (iList K tl) (gName j) tYes te ws) σ H R xs := fun H0 e Q q => h H0 e _ fun H1 e1 => ⟨a, rfl, ⟨us, ex_l (e.trans e1) hx⟩,
  lcRs2 (H0 := H1) (walk_list (K := K) (a := a) (xs := us)) up off (by omega) hl (fun H2 e2 => ex_l ((e.trans e1).trans e2) hx) (fun i y x H2 H3 hy e2 yy k hk => by
    obtain ⟨rfl, hu⟩ := yy
    exact hk _ _ (Ex.refl _) (hw _) (he i x y _ ((e.trans e1).trans e2) hu hy)) fun l vs H2 hl0 e2 h2 r => q l vs H2 (fresh_back e1 hl0) (e1.trans e2) h2 r⟩
theorem Rs.app' {α : Type} {R : α → Addr → Hp → Prop} {H : Hp} {vs ws : List V} {xs ys : List α} (h : Rs R H vs xs) (k : Rs R H ws ys) : Rs R H (vs ++ ws) (xs ++ ys) := by
  induction h with
  | nil => exact k
  | cons r _ ih => exact .cons r ih
theorem Rs.off {α : Type} {R : α → Addr → Hp → Prop} {H : Hp} {D : Addr} {acc vs : List V} {xs : List α} (off : Off R) (nl : ∀ x p H D acc, R x p H → H D = some (.lst acc) → p ≠ D) (r : Rs R H vs xs) (hD : H D = some (.lst acc)) (refs : ∀ v ∈ acc, ∃ q : Addr, v = .ref q) : Rs R (hide D H) vs xs :=
  r.imp fun x p _ h => off x p H D acc h hD refs (nl x p H D acc h hD)
/-- two fors, the outer over a new list, the inner over a new list of objects each time, which are kept -/
theorem ers_flat {α : Type} {R : α → Addr → Hp → Prop} {K : PySem.W.Frag} {σ : L2.St} {H : Hp} {te te1 tl : TE} {us : List V} {ys : List (List α)} {j k : Nat} {ws ws1 : List Nat} (up : Up R) (off : Off R) (nl : ∀ x p H D acc, R x p H → H D = some (.lst acc) → p ≠ D) (h : EvL tl σ H us) (hl : ys.length = us.length) (hm : ys.flatten.length ≤ 40000)
    (hw : ∀ x, wipe ((wipe σ ws).set j (some x)) ws = wipe σ ws) (hw1 : ∀ x y, wipe ((wipe ((wipe σ ws).set j (some x)) ws1).set k (some y)) ws1 = wipe ((wipe σ ws).set j (some x)) ws1)
    (hi : ∀ (i : Nat) (u : V) (y : List α) (H1 : Hp), Ex H H1 → us[i]? = some u → ys[i]? = some y → EvRs te1 ((wipe σ ws).set j (some u)) H1 R y)
    (he : ∀ (u x : V) (H1 : Hp), Ex H H1 → Ev te ((wipe ((wipe σ ws).set j (some u)) ws1).set k (some x)) H1 x) :
    EvRs (tLc2 (iList K tl) (gName j) tYes (iList K te1) (gName k) tYes te ws ws1) σ H R ys.flatten := fun H0 e Q q => h H0 e _ fun a H1 ha0 e1 ha => ⟨a, rfl, ⟨us, sq_of ha⟩, fun D hD => by
  have w := walk_list (K := K) (a := a) (xs := us)
  have cut : ∀ i, (ys.take i).flatten.length ≤ ys.flatten.length := fun i => by
    conv => rhs; rw [← List.take_append_drop i ys, List.flatten_append, List.length_append]
    omega
  refine ⟨fun i c H2 => c = us.length - i ∧ i ≤ us.length ∧ ∃ vs, H2 D = some (.lst vs) ∧ Ex H1 (hide D H2) ∧ Rs R (hide D H2) vs (ys.take i).flatten, ⟨us.length, rfl, Nat.zero_le _, [], upd_same, ?_, .nil⟩, ?_⟩
  · rw [hide_upd, hide_none hD]
    exact Ex.refl _
  rintro i c H2 ⟨rfl, hi0, vs, hv, e2, r2⟩
  have e12 := (e.trans e1).trans (e2.trans hide_le)
  have ha2 : SqL K H2 a us := sq_of (hide_le _ _ (e2 _ _ ha))
  by_cases lt : i < us.length
  · refine .inr ⟨w.goes i H2 lt ha2, fun H' => ∃ vs, H' D = some (.lst vs) ∧ Ex H1 (hide D H') ∧ Rs R (hide D H') vs (ys.take (i + 1)).flatten, fun H' z => ⟨_, by omega, rfl, lt, z⟩, fun x H' yy => ?_⟩
    obtain ⟨rfl, hu⟩ := w.yields i H2 x H' lt ha2 yy
    obtain ⟨y, hy⟩ : ∃ y, ys[i]? = some y := ⟨ys[i]'(by omega), List.getElem?_eq_getElem (by omega)⟩
    refine ⟨hw _, ?_⟩
    show te1 _ H' _
    refine hi i x y H' e12 hu hy H' (Ex.refl _) _ fun l zs H3 hl0 e3 h3 r3 => ⟨l, rfl, ⟨_, sq_of h3⟩, ?_⟩
    have hv3 := e3 _ _ hv
    have nlD : l ≠ D := fun z => by
      rw [z, hv] at hl0
      cases hl0
    have h3' : hide D H3 l = some (.lst zs) := by rw [hide_ne nlD]; exact h3
    have w2 := walk_list (K := K) (a := l) (xs := zs)
    have e23 : Ex H1 (hide D H3) := e2.trans (ex_hide e3)
    have r3' : Rs R (hide D H3) zs y := r3.off off nl hv3 r2.refs
    have r2' := r2.ex up (ex_hide e3)
    have tk : (ys.take (i + 1)).flatten = (ys.take i).flatten ++ y := by
      rw [List.take_add_one, hy, List.flatten_append]
      simp
    have lz := r3'.len
    have lv := r2'.len
    have c1 := cut (i + 1)
    rw [tk, List.length_append] at c1
    refine ⟨fun i2 c2 H4 => c2 = zs.length - i2 ∧ i2 ≤ zs.length ∧ H4 D = some (.lst (vs ++ zs.take i2)) ∧ Ex (hide D H3) (hide D H4), ⟨zs.length, rfl, Nat.zero_le _, ?_, Ex.refl _⟩, ?_⟩
    · rw [hv3, List.take_zero, List.append_nil]
    rintro i2 c2 H4 ⟨rfl, hi2, hv4, e4⟩
    have q4 : SqL K H4 l zs := sq_of (hide_le _ _ (e4 _ _ h3'))
    have ee : Ex H H4 := (e.trans e1).trans ((e23.trans e4).trans hide_le)
    by_cases lt2 : i2 < zs.length
    · refine .inr ⟨w2.goes i2 H4 lt2 q4, fun H' => H' D = some (.lst (vs ++ zs.take (i2 + 1))) ∧ Ex (hide D H3) (hide D H'), fun H' z => ⟨_, by omega, rfl, lt2, z.1, z.2⟩, fun x2 H' yy => ?_⟩
      obtain ⟨rfl, hx2⟩ := w2.yields i2 H4 x2 H' lt2 q4 yy
      refine ⟨hw1 _ _, ?_⟩
      show (te _ H' _)
      refine he _ _ H' ee H' (Ex.refl _) _ fun H6 e6 => ⟨_, e6 _ _ hv4, sz_lt ?_, ?_, ?_⟩
      · rw [List.length_append, List.length_take]
        omega
      · rw [upd_same, List.append_assoc, List.take_add_one, hx2]
        rfl
      · rw [hide_upd]
        exact e4.trans (ex_hide e6)
    · have ei : i2 = zs.length := by omega
      subst ei
      rw [List.take_length] at hv4
      have st := w2.stops H4 q4
      refine .inl ⟨st, vs ++ zs, hv4, e23.trans e4, ?_⟩
      rw [tk]
      exact (r2'.ex up e4).app' (r3'.ex up e4)
  · have ei : i = us.length := by omega
    subst ei
    rw [← hl, List.take_length] at r2
    exact .inl ⟨w.stops H2 ha2, q D vs H2 (fresh_back e1 hD) (e1.trans (e2.trans hide_le)) hv (r2.ex up hide_le)⟩⟩
/-- [*xs, *ys] -/
theorem el_star2 {K : PySem.W.Frag} {σ : L2.St} {H : Hp} {ta tb : TE} {a b : Addr} {xs ys : List V} (ha : Ev ta σ H (.ref a)) (hb : Ev tb σ H (.ref b)) (hx : SqL K H a xs) (hy : SqL K H b ys) (hl : (xs ++ ys).length ≤ 100000) : EvL (tLst (tStar K ta (tStar K tb tNil))) σ H (xs ++ ys) := fun H1 e Q q =>
  ha H1 e _ fun H2 e2 => ⟨a, xs, rfl, .inr (ex_l (e.trans e2) hx), hb H2 (e.trans e2) _ fun H3 e3 => ⟨b, ys, rfl, .inr (ex_l ((e.trans e2).trans e3) hy), by
    show (xs ++ (ys ++ [])).length ≤ sizeLine ∧ _
    rw [List.append_nil]
    exact ⟨sz_of hl, fun p hp => q p _ (fresh_back (e2.trans e3) hp) ((e2.trans e3).trans (Ex.new hp)) upd_same⟩⟩⟩
/-- for i, x in enumerate(a list that stands) -/
theorem q_forEL {K : PySem.W.Frag} {σ : L2.St} {H : Hp} {te : TE} {D : Ends} {tu tz : TS} {a : Addr} {xs : List V} {j k : Nat} (h : Ev te σ H (.ref a)) (hx : SqL K H a xs) (Pv : Nat → L2.St → Hp → Prop) (h0 : ∀ H1, Ex H H1 → Pv 0 σ H1) (hl : ∀ i σ' H', i ≤ xs.length → Pv i σ' H' → SqL K H' a xs)
    (hs : ∀ i x σ' H' T, xs[i]? = some x → Pv i σ' H' → H' T = none → tu { D with nx := Pv (i + 1), ct := Pv (i + 1), bk := tz D } ((σ'.set j (some (.int (i : Int)))).set k (some x)) (upd H' T (.tup [.int (i : Int), x])))
    (hd : ∀ σ' H', Pv xs.length σ' H' → tz D σ' H') : tSeq (tFor (iEnum K (tCons te tNil)) (gTup K 2 (gCons (gName j) (gCons (gName k) gNil))) tu) tz D σ H :=
  h H (Ex.refl H) _ fun H1 e => ⟨a, xs, rfl, ex_l e hx, for_it (D := { D with nx := tz D }) (walk_enum (K := K) (a := a) (xs := xs)) Pv (h0 H1 e) hl (fun i x σ' H' H'' hi pc y => by
    obtain ⟨T, i', c, rfl, hT, rfl, hi', hc⟩ := y
    cases hi'
    exact ⟨T, [_, _], rfl, st_of upd_same, rfl, _, _, rfl, _, _, rfl, rfl, hs i c σ' H' T hc pc hT⟩) hd⟩
/-- as q_forEL, with nothing behind it -/
theorem s_forEL {K : PySem.W.Frag} {σ : L2.St} {H : Hp} {te : TE} {D : Ends} {tu : TS} {a : Addr} {xs : List V} {j k : Nat} (h : Ev te σ H (.ref a)) (hx : SqL K H a xs) (Pv : Nat → L2.St → Hp → Prop) (h0 : ∀ H1, Ex H H1 → Pv 0 σ H1) (hl : ∀ i σ' H', i ≤ xs.length → Pv i σ' H' → SqL K H' a xs)
    (hs : ∀ i x σ' H' T, xs[i]? = some x → Pv i σ' H' → H' T = none → tu { D with nx := Pv (i + 1), ct := Pv (i + 1), bk := D.nx } ((σ'.set j (some (.int (i : Int)))).set k (some x)) (upd H' T (.tup [.int (i : Int), x])))
    (hd : ∀ σ' H', Pv xs.length σ' H' → D.nx σ' H') : tFor (iEnum K (tCons te tNil)) (gTup K 2 (gCons (gName j) (gCons (gName k) gNil))) tu D σ H :=
  h H (Ex.refl H) _ fun H1 e => ⟨a, xs, rfl, ex_l e hx, for_it (D := D) (walk_enum (K := K) (a := a) (xs := xs)) Pv (h0 H1 e) hl (fun i x σ' H' H'' hi pc y => by
    obtain ⟨T, i', c, rfl, hT, rfl, hi', hc⟩ := y
    cases hi'
    exact ⟨T, [_, _], rfl, st_of upd_same, rfl, _, _, rfl, _, _, rfl, rfl, hs i c σ' H' T hc pc hT⟩) hd⟩
/-- as q_forEL, for any target -/
theorem q_forEg {K : PySem.W.Frag} {σ : L2.St} {H : Hp} {te : TE} {D : Ends} {tu tz : TS} {g : TG} {a : Addr} {xs : List V} (h : Ev te σ H (.ref a)) (hx : SqL K H a xs) (Pv : Nat → L2.St → Hp → Prop) (h0 : ∀ H1, Ex H H1 → Pv 0 σ H1) (hl : ∀ i σ' H', i ≤ xs.length → Pv i σ' H' → SqL K H' a xs)
    (hs : ∀ i x σ' H' T, xs[i]? = some x → Pv i σ' H' → H' T = none → g (.ref T) σ' (upd H' T (.tup [.int (i : Int), x])) fun σ2 H2 => tu { D with nx := Pv (i + 1), ct := Pv (i + 1), bk := tz D } σ2 H2)
    (hd : ∀ σ' H', Pv xs.length σ' H' → tz D σ' H') : tSeq (tFor (iEnum K (tCons te tNil)) g tu) tz D σ H :=
  h H (Ex.refl H) _ fun H1 e => ⟨a, xs, rfl, ex_l e hx, for_it (D := { D with nx := tz D }) (walk_enum (K := K) (a := a) (xs := xs)) Pv (h0 H1 e) hl (fun i x σ' H' H'' hi pc y => by
    obtain ⟨T, i', c, rfl, hT, rfl, hi', hc⟩ := y
    cases hi'
    exact hs i c σ' H' T hc pc hT) hd⟩
/-- objects told with what they hold -/
theorem Rs.choose {α β : Type} {S : α → β → Addr → Hp → Prop} {H : Hp} {vs : List V} {xs : List α} (r : Rs (fun x p H => ∃ d, S x d p H) H vs xs) : ∃ ds : List β, ds.length = xs.length ∧ Rs (fun (e : α × β) p H => S e.1 e.2 p H) H vs (xs.zip ds) := by
  induction r with
  | nil => exact ⟨[], rfl, .nil⟩
  | cons r0 _ ih =>
    obtain ⟨d, hd⟩ := r0
    obtain ⟨ds, h1, h2⟩ := ih
    exact ⟨d :: ds, by rw [List.length_cons, List.length_cons, h1], .cons hd h2⟩
/-! sorted(d) of a dict with one tuple key at most -/
theorem list_sort_few {prog : Program} {w : World} {A : Around} {E : Value → Shared → Prop} {s : Shared} {a : Addr} {vs : List Value} {n : Nat} {P : Fin → Shared → Prop} (ho : s.heap.get? a = some (seqObj "list" vs.toArray n)) (h2' : vs.length < 2)
    (h : P (.done (.ret .none)) { s with heap := sortedHeap s.heap a vs vs.toArray }) : wpAny (model prog w) A (Builtin.«list.sort» ⟨[.ref a], []⟩) P E s := by
  rw [list_sort_plain]
  have ha : a < s.heap.objs.size := Heap.lt_size ho
  have hle : vs.length ≤ sizeLine := by rw [sizeLine_eq]; omega
  refine wpAny_bind (listItems_at ho rfl ?_)
  refine wpAny_bind (listUpdate_at ho rfl ?_)
  obtain ⟨e1, ho1⟩ : ∃ e1, (s.heap.update a (Obj.mapSeq fun _ => #[])).get? a = some (seqObj "list" #[] e1) := ⟨_, get?_update_seq ho (fun _ => #[])⟩
  refine wpAny_bind (seqEpoch_at ho1 rfl ?_)
  refine wpAny_bind (wpAny_newTuple ?_)
  refine wpAny_bind (wpAny_newList ?_)
  refine wpAny_holding ?_
  have ho6 : (((s.heap.update a (Obj.mapSeq fun _ => #[])).push (seqObj "tuple" vs.toArray 0)).push (seqObj "list" #[] 0)).get? a = some (seqObj "list" #[] e1) := by
    rw [Heap.get?_push_ne _ _ _ (by rw [size_push', Heap.size_update]; exact Nat.ne_of_lt (Nat.lt_succ_of_lt ha)), Heap.get?_push_ne _ _ _ (by rw [Heap.size_update]; exact Nat.ne_of_lt ha)]
    exact ho1
  show wpAny (model prog w) A _ P E { s with heap := ((s.heap.update a (Obj.mapSeq fun _ => #[])).push (seqObj "tuple" vs.toArray 0)).push (seqObj "list" #[] 0) }
  dsimp only
  have hsz : vs.toArray.size = vs.length := by simp
  have h2 : vs.toArray.size < 2 := by omega
  rw [if_pos h2, if_pos h2]
  refine wpAny_bind (wpAny_pure ?_)
  rw [StateT.run_pure]
  refine wpAny_bind (wpAny_pure ?_)
  dsimp only
  refine wpAny_bind (seqEpoch_at ho6 rfl ?_)
  refine wpAny_bind (listUpdate_at ho6 rfl ?_ (hsz2 := by rw [Array.size_map]; show (pairsOf vs).size ≤ _; rw [pairsOf_size, sizeLine_eq]; omega))
  simp only [bne_self_eq_false, Bool.false_eq_true, if_false]
  have e : (arrOf (SortSt.mk' general' (vs.toArray.zip vs.toArray) #[] 7 none)).map (·.2) = vs.toArray := by
    show (vs.toArray.zip vs.toArray).map (·.2) = vs.toArray
    apply Array.ext'
    rw [Array.toList_map]
    simp [List.map_snd_zip]
  rw [e]
  exact wpAny_pure h
theorem call_sortedDT1 {X : Cx} (hcalm : X.calm = true) : CallR X (.builtin "sorted") (fun xs H Q => ∃ (d : Addr) (kvs : List (List Key × V)), xs = [.ref d] ∧ Rd H d (.dT kvs) ∧ kvs.length < 2 ∧
    ∀ (p : Addr) (bs : List Addr), H p = none → IsKeys H kvs bs → Q (.ref p) (upd H p (.lst (bs.map V.ref)))) := by
  intro pins s σ H xs us Q I r q
  obtain ⟨d, kvs, ex, hd, h2, q⟩ := q
  subst ex
  obtain ⟨u, eu, rx⟩ := vals1 r
  subst eu
  cases rx
  obtain ⟨z, hs, ks, pr, o, es, ep, ho, hx, hdt, he, hn⟩ := (show ObjOk X.prog X.w H s.heap d (.dT kvs) from hd.ok I.hok)
  have l1 : es.size = ks.length := size_of_entries he
  have l2 : kvs.length = ks.length := Paired.length pr
  refine Calls.call_function_entry PyProof.Rows.kind_sorted PyProof.Rows.plain_sorted PyProof.Rows.entry_sorted (PyProof.Rows.args_sorted1 _) ?_
  unfold Builtin.«sorted»
  refine wpAny_bind (m := checkCount "sorted" 1 1 _) (wpAny_pure ?_)
  refine wpAny_bind (PySem.W.kdu_collect (A := X.A.in1) (kdl_raw hs hx hdt) (I.ok.hd hcalm) ho (by omega) fun h' tk acc' hk it => ?_)
  have ea : acc'.toList = (ks.map fun x => x.2.1).map Value.ref := by
    have hl : acc'.toList.length = ks.length := by rw [Array.length_toList, it.1]; exact l1
    apply List.ext_getElem?
    intro j
    rw [List.map_map, List.getElem?_map]
    cases hj : acc'.toList[j]? with
    | none =>
      have h1 := List.getElem?_eq_none_iff.mp hj
      rw [List.getElem?_eq_none (by omega)]
      rfl
    | some v =>
      obtain ⟨en, hen, hv⟩ := it.2 j v (by rw [← Array.getElem?_toList]; exact hj)
      have qe := entry_at he j
      rw [hen] at qe
      cases hb : ks[j]? with
      | none =>
        rw [hb] at qe
        exact nomatch (show some en = none from qe)
      | some b =>
        rw [hb] at qe
        have e2 : en = entryOfKey (tupleKind (mixKind X.prog X.w)) b := Option.some.inj qe
        rw [hv, e2]
        rfl
  have hal : acc'.toList.length = ks.length := by rw [ea, List.length_map, List.length_map]
  have I1 : Inv X pins σ H { s with heap := h', toks := tk } := I.kept hk
  refine wpAny_bind (wpAny_newList ?_ (by rw [hal, sizeLine_eq]; omega))
  have hoL : (h'.push (seqObj "list" acc'.toList.toArray 0)).get? h'.objs.size = some (seqObj "list" acc'.toList.toArray 0) := Heap.get?_push_size _ rfl
  show wpAny _ _ _ _ _ { s with heap := h'.push (seqObj "list" acc'.toList.toArray 0), toks := tk }
  refine wpAny_bind (wpAny_holding (wpAny_call_entry PyProof.Rows.slot_list_sort ⟨_, hoL, rfl⟩ PyProof.Rows.entry_list_sort
    (list_sort_few (s := { s with heap := h'.push (seqObj "list" acc'.toList.toArray 0), toks := tk }) hoL (by rw [hal]; omega) ⟨_, rfl, ?_⟩) (PyProof.Rows.args_list_sort _)))
  obtain ⟨e', he'⟩ := PyProof.Rows.sortedHeap_at (vs := acc'.toList) (out := acc'.toList.toArray) hoL
  have hlen : ((ks.map fun x => x.2.1).map V.ref).length ≤ sizeLine := by
    rw [List.length_map, List.length_map, sizeLine_eq]
    omega
  refine wpAny_pure ⟨_, rfl, .ref h'.objs.size, upd H h'.objs.size (.lst ((ks.map fun x => x.2.1).map V.ref)), I1.laid (t' := tk) (fun b u e => ?_) (Nat.le_refl _)
    (show ObjOk X.prog X.w _ _ _ (.lst ((ks.map fun x => x.2.1).map V.ref)) from ⟨hlen, acc'.toList, e', by rw [ea]; exact vals_refs _, by exact he'⟩), rfl, q _ _ (I1.hok.fresh (Nat.le_refl _)) (isKeys_of pr)⟩
  have hb : b < h'.objs.size := Heap.lt_size e
  rw [PyProof.Rows.sortedHeap_old (Nat.ne_of_lt hb) (by rw [size_push']; exact Nat.lt_succ_of_lt hb)]
  exact Heap.get?_push_of_some _ e
/-- a comprehension over a new list of objects -/
theorem ers_lcR {α β : Type} {S : β → Addr → Hp → Prop} {R : α → Addr → Hp → Prop} {ks : List β} {f : β → α} {K : PySem.W.Frag} {σ : L2.St} {H : Hp} {te tl : TE} {j : Nat} {ws : List Nat} (upS : Up S) (up : Up R) (off : Off R) (h : EvRs tl σ H S ks) (hn : ks.length ≤ 40000) (hw : ∀ x, wipe ((wipe σ ws).set j (some x)) ws = wipe σ ws)
    (he : ∀ (k : β) (q : Addr) (H1 : Hp), k ∈ ks → Ex H H1 → S k q H1 → EvN te ((wipe σ ws).set j (some (.ref q))) H1 (R (f k))) : EvRs (tLc (iList K tl) (gName j) tYes te ws) σ H R (ks.map f) := fun H0 e Q q => h H0 e _ fun a us H1 ha e1 h1 r1 => ⟨a, rfl, ⟨us, sq_of h1⟩, by
  have l1 := r1.len
  exact lcRs (H0 := H1) (walk_list (K := K) (a := a) (xs := us)) up off (by omega) (by rw [List.length_map]; omega) (fun H2 e2 => ex_l e2 (sq_of h1)) (fun i y x H2 H3 hy e2 yy k hk => by
    obtain ⟨rfl, hu⟩ := yy
    obtain ⟨p, z, rfl, hz, hS⟩ := r1.get hu
    rw [List.getElem?_map, hz] at hy
    cases hy
    exact hk _ _ (Ex.refl _) (hw _) (he z p _ (List.mem_of_getElem? hz) ((e.trans e1).trans e2) (upS _ _ _ _ e2 hS))) fun l vs H2 hl0 e2 h2 r => q l vs H2 (fresh_back e1 hl0) (e1.trans e2) h2 r⟩
/-! len(set(xs)) of any ints -/
def dedN (ns : List Int) : List Int := PyProof.Rows.firstMet (fun i => ns.getD i 0) ns.length
theorem met_all (f : Nat → Int) : ∀ i, (PyProof.Rows.firstMet f i).length ≤ i ∧ ((PyProof.Rows.firstMet f i).length = i → PyProof.Rows.firstMet f i = (List.range i).map f ∧ ((List.range i).map f).Nodup)
  | 0 => ⟨Nat.le_refl _, fun _ => ⟨rfl, by simp⟩⟩
  | i + 1 => by
    obtain ⟨h1, h2⟩ := met_all f i
    rw [PyProof.Rows.firstMet_succ]
    show (if (PyProof.Rows.firstMet f i).any (· == f i) = true then PyProof.Rows.firstMet f i else PyProof.Rows.firstMet f i ++ [f i]).length ≤ i + 1 ∧ ((if (PyProof.Rows.firstMet f i).any (· == f i) = true then PyProof.Rows.firstMet f i else PyProof.Rows.firstMet f i ++ [f i]).length = i + 1 → (if (PyProof.Rows.firstMet f i).any (· == f i) = true then PyProof.Rows.firstMet f i else PyProof.Rows.firstMet f i ++ [f i]) = _ ∧ _)
    by_cases h : (PyProof.Rows.firstMet f i).any (· == f i) = true
    · rw [if_pos h]
      exact ⟨by omega, fun z => by omega⟩
    · rw [if_neg h, List.length_append]
      refine ⟨by show _ + 1 ≤ _; omega, fun z => ?_⟩
      have z' : (PyProof.Rows.firstMet f i).length = i := by
        have : (PyProof.Rows.firstMet f i).length + 1 = i + 1 := z
        omega
      obtain ⟨e, nd⟩ := h2 z'
      rw [e] at h ⊢
      rw [List.range_succ, List.map_append]
      refine ⟨rfl, List.nodup_append.mpr ⟨nd, by simp, fun a ha b hb => ?_⟩⟩
      rw [List.map_cons, List.map_nil, List.mem_singleton] at hb
      rintro rfl
      exact h (List.any_eq_true.mpr ⟨a, ha, by rw [hb]; exact beq_self_eq_true _⟩)
theorem ded_len (ns : List Int) : (dedN ns).length ≤ ns.length := (met_all _ _).1
theorem ded_iff (ns : List Int) : (dedN ns).length = ns.length ↔ ns.Nodup := by
  constructor
  · intro h
    have := ((met_all (fun i => ns.getD i 0) ns.length).2 h).2
    have e : (List.range ns.length).map (fun i => ns.getD i 0) = ns := by
      apply List.ext_getElem
      · simp
      · intro k h1 h2
        rw [List.getElem_map, List.getElem_range, List.getD_eq_getElem?_getD, List.getElem?_eq_getElem h2]
        rfl
    rwa [e] at this
  · intro h
    unfold dedN
    rw [RZ.firstMet_nodup h ns.length (Nat.le_refl _), List.take_length]
def tLenSetG (K : PySem.W.Frag) (ta : TE) : TE := fun σ H Q => ta σ H fun x H1 => ∃ (l : Addr) (ns : List Int), x = .ref l ∧ SqL K H1 l (ns.map V.int) ∧ ns.length ≤ 4000 ∧ Q (.int ((dedN ns).length : Nat)) H1
theorem pe_lenSetG {X : Cx} {a : Expr} {ta : TE} {p p2 q pos : Pos} (hg : Gl X "len") (hm : X.mg "len" = none) (hg2 : Gl X "set") (hm2 : X.mg "set" = none) (ha : PE X a ta) (hc : X.calm = true := by rfl)
    (na : starEach [a] X.env = (false, eval a X.env) :: starEach [] X.env := by rfl) : PE X (.Call (.Name "len" p) [.Call (.Name "set" p2) [a] [] q] [] pos) (tLenSetG X.K ta) := by
  refine ⟨fun pins s σ H Q I h => ?_⟩
  refine Call_ (ld_blt I hg hm boot_len ?_)
  refine PyProof.Rows.callWith_builtin1 (PyProof.Rows.args_cons ?_ rfl) rfl rfl
  refine Call_ (ld_blt I hg2 hm2 boot_set ?_)
  refine PyProof.Rows.callWith_type1 (PyProof.Rows.args_cons (thn (ha.run pins s σ H _ I h) fun v s1 ⟨x, H1, I1, r1, q1⟩ => PyProof.Rows.args_nil ?_) na) na rfl
  obtain ⟨l, ns, rfl, hq, hl, q1⟩ := q1
  cases r1
  obtain ⟨its, r, pl, hz⟩ := I1.list hq
  have hlen : its.toArray.size = ns.length := by rw [List.size_toArray, ← r.length, List.length_map]
  refine call_set_list (I1.ok.hd hc) pl.isList (by simpa using RZ.intsAre_vals r) (by rw [hlen]; unfold scanBound; omega) fun h' tk hS hk => ?_
  refine PyProof.Rows.args_nil ?_
  rw [hlen] at hS
  have hdl := ded_len ns
  rw [show PyProof.Rows.firstMet (fun i => ns.getD i 0) ns.length = dedN ns from rfl] at hS
  obtain ⟨o, es, ep, t, ho, hex, hd, _, _, _, hf, hn⟩ := hS
  have I2 : Inv X pins σ H1 { s1 with heap := h', toks := tk } := I1.kept fun b o e => hk b o (Heap.lt_size e) e
  exact call_len_set ho hex hd hf (by rw [hn] <;> omega) ⟨.int (dedN ns).length, H1, I2.tok _, ⟨_, by rw [hn]⟩, q1⟩
/-! exceptions that keep two things -/
def spXI2 (C : Addr) (f g : Str) : Sp := fun vs H Q _ => ∃ (a : Addr) (v w : V), vs = [.ref a, v, w] ∧ H a = some (exo a C none) ∧ ∀ dx, H dx = none → dx ≠ a → Q .non (upd (upd (upd H dx (exd dx [(f, v)])) a (exo a C (some dx))) dx (exd dx [(g, w), (f, v)]))
theorem mkX2 {C : Addr} {f g : Str} {σ : L2.St} {H : Hp} {te tf : TE} {v w : V} {Q : XK} (h : Ev te σ H v) (k : Ev tf σ H w) (q : ∀ d H1, H d = none → Ex H H1 → H1 d = some (.xd [(g, w), (f, v)]) → Q (.ref C) (some d) H1) : tMkO C (spXI2 C f g) [] (tCons te (tCons tf tNil)) σ H Q :=
  h H (Ex.refl _) _ fun H0 e0 => k H0 e0 _ fun H1 e01 => ⟨by simp, fun a ha => ⟨a, v, w, rfl, upd_same, fun dx hdx hne => by
    have e1 := e0.trans e01
    have hd1 : H1 dx = none := by
      rw [upd_ne hne] at hdx
      exact hdx
    refine ⟨rfl, dx, _, by rw [upd_ne (Ne.symm hne), upd_same], upd_same, hd1, q dx _ (fresh_back e1 hd1) (e1.trans fun b o hb => ?_) upd_same⟩
    have nb : b ≠ dx := ne_of_none hb hd1
    have na : b ≠ a := ne_of_none hb ha
    rw [upd_ne nb, del_ne na, upd_ne nb, upd_ne na, upd_ne nb, upd_ne na]
    exact hb⟩⟩
theorem cr_sortedIK {X : Cx} (K : PySem.W.Frag) (e : X.K = K) : CallR X (.builtin "sorted") (rSortedI K) := e ▸ cr_sortedI
end Kz
namespace Kz
open PySem PySem.Spec PyProof.Rows L2 Evl StX
/-! ### the set comprehension with two fors -/
section
variable {prog : Program} {w : World} {A : Around} {R : Result → Shared → Prop} {e elt t0 i0 t1 i1 : Expr} {scope : Scope} {pos : Pos} {it acc : Value} {env : Env} {s : Shared}
abbrev Nb (prog : Program) (w : World) (A : Around) (env : Env) (R : Result → Shared → Prop) : Value → Shared → Prop := notedBy (model prog w) A env fun x s' => R (.error x) s'
/-- one loop of a comprehension whose turn is stored and goes on with rest -/
theorem turns {d : Nat} {p0 : Pos} {tg : Expr} {rest : Sem Fin} (hq : (Code.compLoop e d it acc env).quiet = true)
    (hden : (model prog w).den (.compLoop e d it acc env) = (compTurn e d it acc env).onRaise (fun x => do noteFrame x env; theTreesLotGoes x)) (hund : A.under (.compLoop e d it acc env) = A)
    (ht : compTurn e d it acc env = (standAt p0 >>= fun _ => pyNext it >>= fun r => match r with
      | none => pure (.done .next)
      | some v => letOwnedTupleGo tg it v >>= fun _ => assign tg env v >>= fun _ => rest))
    (I : Nat → Shared → Prop)
    (turn : ∀ n s, I n s → wpAny (model prog w) A (pyNext it) (fun r s1 => match r with
      | none => R (.ok .next) s1
      | some v => wpAny (model prog w) A (letOwnedTupleGo tg it v) (fun _ s2 => wpAny (model prog w) A (assign tg env v) (fun _ s3 =>
          wpAny (model prog w) A rest (fun z s4 => z = .again (.compLoop e d it acc env) ∧ ∃ m, m < n ∧ I m s4) (Nb prog w A env R) s3) (Nb prog w A env R) s2) (Nb prog w A env R) s1) (Nb prog w A env R) s)
    (n : Nat) (h : I n s) : codeAny (model prog w) A (.compLoop e d it acc env) R s := by
  refine codeAny_loop hq I (fun n s hI => ?_) n h
  rw [hden, hund]
  refine wpAny_noted ?_
  rw [ht]
  refine wpAny_bind (wpAny_standAt (wpAny_bind (thn (turn n s hI) fun r s1 h1 => ?_)))
  cases r with
  | none => exact wpAny_pure h1
  | some v =>
    refine wpAny_bind (thn h1 fun _ s2 h2 => wpAny_bind (thn h2 fun _ s3 h3 => thn h3 fun z s4 h4 => ?_))
    obtain ⟨rfl, h4⟩ := h4
    exact ⟨rfl, h4⟩
abbrev sc2 (elt t0 i0 t1 i1 : Expr) (scope : Scope) (pos : Pos) : Expr := .SetComp elt [⟨t0, i0, [], 0⟩, ⟨t1, i1, [], 0⟩] scope pos
theorem turn_out : compTurn (sc2 elt t0 i0 t1 i1 scope pos) 0 it acc env = (standAt i0.pos >>= fun _ => pyNext it >>= fun r => match r with
      | none => pure (.done .next)
      | some v => letOwnedTupleGo t0 it v >>= fun _ => assign t0 env v >>= fun _ =>
        eval i1 env >>= fun x => standAt i1.pos >>= fun _ => foldedSetIterable i1 env x >>= fun x => holding [x] (pyIter x) >>= fun j => runOwn (.compStart (sc2 elt t0 i0 t1 i1 scope pos) 1 j acc env) env >>= fun _ => again (.compLoop (sc2 elt t0 i0 t1 i1 scope pos) 0 it acc env)) := by rfl
theorem turn_in : compTurn (sc2 elt t0 i0 t1 i1 scope pos) 1 it acc env = (standAt i1.pos >>= fun _ => pyNext it >>= fun r => match r with
      | none => pure (.done .next)
      | some v => letOwnedTupleGo t1 it v >>= fun _ => assign t1 env v >>= fun _ =>
        (eval elt env >>= fun x => standAt elt.pos >>= fun _ => call (.builtin "set.add") [acc, x] >>= fun _ => pure ()) >>= fun _ => again (.compLoop (sc2 elt t0 i0 t1 i1 scope pos) 1 it acc env)) := by rfl
end

/-- where the inner loop begins -/
theorem start_in {prog : Program} {w : World} {A : Around} {R : Result → Shared → Prop} {elt t0 i0 t1 i1 : Expr} {scope : Scope} {pos : Pos} {it acc : Value} {env : Env} {s : Shared}
    (h0 : codeAny (model prog w) A (.compLoop (sc2 elt t0 i0 t1 i1 scope pos) 1 it acc env) R s)
    (h : wpAny (model prog w) A (pyIter it) (fun j s' => codeAny (model prog w) A (.compLoop (sc2 elt t0 i0 t1 i1 scope pos) 1 j acc env) R s') (notedBy (model prog w) A env fun x s' => R (.error x) s') s) :
    codeAny (model prog w) A (.compStart (sc2 elt t0 i0 t1 i1 scope pos) 1 it acc env) R s := by
  have e : compStart (sc2 elt t0 i0 t1 i1 scope pos) 1 it acc env = (ask >>= fun r => if r.params.followText "comprehension-iter-twice" = true then again (.compLoop (sc2 elt t0 i0 t1 i1 scope pos) 1 it acc env)
      else rule "comprehension.iter-twice" >>= fun _ => standAt i1.pos >>= fun _ => pyIter it >>= fun j => again (.compLoop (sc2 elt t0 i0 t1 i1 scope pos) 1 j acc env)) := by rfl
  refine codeAny_of_tree ?_
  show wpAny _ _ ((compStart (sc2 elt t0 i0 t1 i1 scope pos) 1 it acc env).onRaise (fun x => do noteFrame x env; standAt theWindowsPlace)) _ _ s
  refine wpAny_notedAt ?_
  rw [e]
  refine wpAny_bind (wpAny_askSetting ?_)
  split
  · exact wpAny_pure ⟨rfl, h0⟩
  · exact wpAny_bind (wpAny_rule (wpAny_bind (wpAny_standAt (wpAny_bind (wpAny_mono h (fun j s' hj => wpAny_pure ⟨rfl, hj⟩) fun _ _ z => z)))))
/-- {elt for t0 in i0 for t1 in i1} where each elt is an int: D the new set -/
def tSc2 (w : World) (wi : TI) (g : TG) (wi1 : TI) (g1 : TG) (te : TE) (vs vs1 : List Nat) : TE := fun σ H Q => wi σ H fun J H1 => ∀ D, H1 D = none → ∃ W : Nat → Nat → Hp → Prop, (∃ m, W 0 m (upd H1 D (SetO w D (fun _ => false) 0))) ∧ ∀ i m H2, W i m H2 →
  (J.stop i H2 ∧ Q (.ref D) H2) ∨ (J.go i H2 ∧ ∃ N0 : Hp → Prop, (∀ H3, N0 H3 → ∃ m', m' < m ∧ W (i + 1) m' H3) ∧ ∀ x H3, J.yld i H2 x H3 → g x (wipe σ vs) H3 fun σ2 H4 => wipe σ2 vs = wipe σ vs ∧
    wi1 σ2 H4 fun J1 H5 => ∃ W1 : Nat → Nat → Hp → Prop, (∃ m, W1 0 m H5) ∧ ∀ j k H6, W1 j k H6 →
      (J1.stop j H6 ∧ N0 H6) ∨ (J1.go j H6 ∧ ∃ N1 : Hp → Prop, (∀ H7, N1 H7 → ∃ k', k' < k ∧ W1 (j + 1) k' H7) ∧ ∀ y H7, J1.yld j H6 y H7 → g1 y (wipe σ2 vs1) H7 fun σ3 H8 => wipe σ3 vs1 = wipe σ2 vs1 ∧
        te σ3 H8 fun v H9 => ∃ (c : Int) (S : Int → Bool) (n : Nat), v = .int c ∧ H9 D = some (SetO w D S n) ∧ n + 1 < scanBound ∧ N1 (upd H9 D (SetO w D (fun z => S z || decide (z = c)) (if S c = true then n else n + 1)))))
section
variable {X : Cx}
/-- set.add of an int -/
theorem put_int {pins : List (Addr × Obj)} {σ : L2.St} {H : Hp} {s : Shared} {E : Value → Shared → Prop} {D : Addr} {S : Int → Bool} {n : Nat} {c : Int} {v : Value} {Q : Value → Shared → Prop} (I : Inv X pins σ H s) (hD : H D = some (SetO X.w D S n)) (room : n + 1 < scanBound) (rv : RelV (.int c) v)
    (k : ∀ s', Inv X pins σ (upd H D (SetO X.w D (fun z => S z || decide (z = c)) (if S c = true then n else n + 1))) s' → Q .none s') : wpAny (model X.prog X.w) X.A (call (.builtin "set.add") [.ref D, v]) Q E s := by
  obtain ⟨tk, rfl⟩ := rv
  refine setR_add (setO_get I hD) room fun h' sb new => k _ ?_
  obtain ⟨ob, _, _, _, hob, _⟩ := id new
  exact I.write (e := D) (t' := s.toks + 1) (by rw [hD]; trivial) (.inl rfl) (fun b u hb hu => (sb.2 b hb).trans hu) ⟨ob, hob⟩ (setO_new new)
theorem sc2_loops {pins : List (Addr × Obj)} {s : Shared} {σ : L2.St} {H : Hp} {Q : VK} {elt tg iter tg1 iter1 : Expr} {scope : Scope} {own : List (Str × Nat)} {vs1 : List Nat} {pos pos' : Pos} {wi wi1 : TI} {g g1 : TG} {te : TE} {Qf : Value → Shared → Prop}
    (hc : X.calm = true) (hN : X.N.Nodup) (I : Inv X pins σ H s) (hi : PI X tg iter wi) (ok : BlkOk X.N X.env.scope scope own) (hv : ∀ i ∈ vs1, i ∈ own.map (·.2))
    (hg : ∀ (s : Shared) (H : Hp) (C : Addr) (cl : List (Str × Addr)) (fp : List Addr), PG (X.blk s H scope (compEnvC scope cl C X.env) fp) tg g)
    (he : ∀ (s : Shared) (H : Hp) (C : Addr) (cl : List (Str × Addr)) (fp : List Addr), PE (X.blk s H scope (compEnvC scope cl C X.env) fp) elt te) (hs : ∀ x, foldedSetIterable iter X.env x = pure x)
    (hi1 : ∀ (s : Shared) (H : Hp) (C : Addr) (cl : List (Str × Addr)) (fp : List Addr), PI (X.blk s H scope (compEnvC scope cl C X.env) fp) tg1 iter1 wi1)
    (hg1 : ∀ (s : Shared) (H : Hp) (C : Addr) (cl : List (Str × Addr)) (fp : List Addr), PG (X.blk s H scope (compEnvC scope cl C X.env) fp) tg1 g1) (hs1 : ∀ env x, foldedSetIterable iter1 env x = pure x)
    (h : tSc2 X.w wi g wi1 g1 te (own.map (·.2)) vs1 σ H Q)
    (hRR : ∀ D C s' m H', Inv X pins σ H' s' → Q (.ref D) H' → s'.heap.Ns C m → FpOk X pins H' C → compPost (model X.prog X.w) X.A X.xe none Qf (.ref D) C (.ok .next) s') :
    wpAny (model X.prog X.w) X.A (comprehension (sc2 elt tg iter tg1 iter1 scope pos) scope X.env pos' (newSet (.type "set")) false (eval iter X.env) none) Qf X.xe s := by
  have cells : ∀ y ∈ scope.names, y.2 = .free → ∃ c, X.env.cells.lookup y.1 = some c := fun y hy e => (ok.free y hy e).elim (fun k => I.ok.has _ (.inl k)) fun k => I.ok.has _ (.inr k)
  refine wpAny_comprehension_free (use := none) rfl hs (closure_ok cells) ok.kind (fun y hy e => by rw [ok.uniq y hy, e]) (thn (hi.run pins s σ H _ I h) fun xv s1 hx => thn hx fun itv s2 h2 => ?_)
  obtain ⟨it, fp, tn, J, H2, rfl, I2, T, st2, f2, q⟩ := h2
  refine PpSet.newSet_ok (newEnv_comp ?_)
  have new0 := setR_fresh (h := s2.heap) X.w
  generalize hD : s2.heap.objs.size = D at new0 ⊢
  obtain ⟨W, ⟨m0, w0⟩, turn⟩ := q D (I2.hok.fresh (Nat.le_of_eq hD))
  have lt2 : ∀ b ∈ fp, b < D := fun b hb => by
    obtain ⟨o, e, _⟩ := T.obj _ _ st2 b hb
    rw [← hD]
    exact Heap.lt_size e
  have I3 := I2.laid (a := D) (o := SetO X.w D (fun _ => false) 0) (h' := s2.heap.push { cls := .type "set", dict := none, data := .set #[] 0 (.fresh 0 0 (!X.w.params.followText "set-order")) }) (t' := s2.toks) (fun b o e => Heap.get?_push_of_some _ e) (Nat.le_of_eq hD) (setO_new new0)
  have st3 := T.keep _ _ (s2.heap.push { cls := .type "set", dict := none, data := .set #[] 0 (.fresh 0 0 (!X.w.params.followText "set-order")) }) st2 fun b _ o e => Heap.get?_push_of_some _ e
  have big : D < (s2.heap.push { cls := .type "set", dict := none, data := .set #[] 0 (.fresh 0 0 (!X.w.params.followText "set-order")) }).objs.size := by
    rw [Heap.size_push, hD]
    exact Nat.lt_succ_self _
  generalize s2.heap.push { cls := .type "set", dict := none, data := .set #[] 0 (.fresh 0 0 (!X.w.params.followText "set-order")) } = hp3 at I3 st3 big ⊢
  obtain ⟨s3, hs3⟩ : ∃ s3 : Shared, s3 = { s2 with heap := hp3 } := ⟨_, rfl⟩
  rw [← hs3] at I3
  have hh3 : s3.heap = hp3 := by rw [hs3]
  generalize hH3 : upd H2 D (SetO X.w D (fun _ => false) 0) = H3 at I3 w0
  have f3 : ∀ b ∈ fp, FpOk X pins H3 b ∧ b < s3.heap.objs.size := fun b hb => by
    have lt := lt2 b hb
    refine ⟨⟨?_, (f2 b hb).2⟩, by rw [hh3]; exact Nat.lt_trans lt big⟩
    rw [← hH3, upd_ne (Nat.ne_of_lt lt)]
    exact (f2 b hb).1
  have I4 := block_start I3 ok hN f3
  show codeAny _ _ (.compStart (sc2 elt tg iter tg1 iter1 scope pos) 0 (.ref it) (.ref D) (compEnvC scope (cellsFrom (hp3.objs.size + 1) scope.names (cloFrom X.env.cells scope.names [])) hp3.objs.size X.env)) (compPost (model X.prog X.w) X.A X.xe none Qf (.ref D) hp3.objs.size) { s2 with heap := pushCells (hp3.push { cls := .type "dict", data := .dict #[] }) scope.names }
  obtain ⟨s4, hs4⟩ : ∃ s4 : Shared, s4 = { s2 with heap := pushCells (hp3.push { cls := .type "dict", data := .dict #[] }) scope.names } := ⟨_, rfl⟩
  rw [hh3] at I4
  have I4 : Inv (X.blk s3 H3 scope (compEnvC scope (cellsFrom (hp3.objs.size + 1) scope.names (cloFrom X.env.cells scope.names [])) hp3.objs.size X.env) fp) [] (wipe σ (own.map (·.2))) H3 s4 := by
    rw [hs4]
    rw [hs3] at I4 ⊢
    exact I4
  rw [← hs4]
  have st4 : tn 0 s4.heap := T.keep _ _ _ st3 fun b _ o e => by rw [hs4]; exact pushCells_keeps _ _ _ _ (Heap.get?_push_of_some _ e)
  have pg := hg s3 H3 hp3.objs.size (cellsFrom (hp3.objs.size + 1) scope.names (cloFrom X.env.cells scope.names [])) fp
  have pe := he s3 H3 hp3.objs.size (cellsFrom (hp3.objs.size + 1) scope.names (cloFrom X.env.cells scope.names [])) fp
  have pi1 := hi1 s3 H3 hp3.objs.size (cellsFrom (hp3.objs.size + 1) scope.names (cloFrom X.env.cells scope.names [])) fp
  have pg1 := hg1 s3 H3 hp3.objs.size (cellsFrom (hp3.objs.size + 1) scope.names (cloFrom X.env.cells scope.names [])) fp
  have hC : (compEnvC scope (cellsFrom (hp3.objs.size + 1) scope.names (cloFrom X.env.cells scope.names [])) hp3.objs.size X.env).locals = hp3.objs.size := rfl
  generalize compEnvC scope (cellsFrom (hp3.objs.size + 1) scope.names (cloFrom X.env.cells scope.names [])) hp3.objs.size X.env = ce at I4 pg pe pi1 pg1 hC ⊢
  have stat : ∀ {σ' : L2.St} {H' : Hp} {s' : Shared}, Inv (X.blk s3 H3 scope ce fp) [] σ' H' s' → (∀ b ∈ fp, H' b = none) → ∀ b ∈ fp, FpOk (X.blk s3 H3 scope ce fp) [] H' b := fun {σ' H' s'} I' hn b hb =>
    ⟨hn b hb, (I'.ok.exf b hb).1, I'.ok.exfs b hb, .inl hb, fun x c e => (I'.ok.exf b hb).2 x c e, fun p hp => absurd (show p ∈ ([] : List (Addr × Obj)) ++ [] from hp) (by simp)⟩
  have loop : codeAny (model X.prog X.w) X.A (.compLoop (sc2 elt tg iter tg1 iter1 scope pos) 0 (.ref it) (.ref D) ce) (compPost (model X.prog X.w) X.A X.xe none Qf (.ref D) hp3.objs.size) s4 := by
    refine turns rfl rfl rfl turn_out (fun n s' => ∃ i H', Inv (X.blk s3 H3 scope ce fp) [] (wipe σ (own.map (·.2))) H' s' ∧ tn i s'.heap ∧ (∀ b ∈ fp, H' b = none) ∧ W i n H') ?_ m0 ⟨0, H3, I4, st4, fun b hb => (f3 b hb).1.1, w0⟩
    rintro n s5 ⟨i, H5, I5, st5, n5, w5⟩
    rcases turn i n H5 w5 with ⟨stop, qq⟩ | ⟨go, N0, hN0, step⟩
    · refine thnF (T.done (X.blk s3 H3 scope ce fp) rfl rfl rfl hc i [] s5 _ H5 (fun _ _ => False) I5 (stat I5 n5) st5 stop) fun r s6 ⟨hr, I6⟩ => ?_
      subst hr
      have I7 : Inv X pins σ H5 s6 := I3.call' (ch := fp) I6.os I6.base I6.hok I6.bare fun b hb => ⟨(f3 b hb).1.2.2.2.1, (f3 b hb).1.2.1, (f3 b hb).1.2.2.2.2.1, (f3 b hb).1.2.2.2.2.2⟩
      obtain ⟨m, hn, _⟩ := I6.loc
      have nC : H5 ce.locals = none := I6.free
      have hn : s6.heap.Ns ce.locals m := hn
      rw [hC] at hn nC
      exact hRR D hp3.objs.size s6 m H5 I7 qq hn (I3.fpOk (Nat.le_of_eq (by rw [hh3])) nC)
    · refine thnF (T.item (X.blk s3 H3 scope ce fp) rfl rfl rfl hc i [] s5 _ H5 (fun _ _ => False) I5 (stat I5 n5) st5 go) fun r s6 ⟨u, hr, h6⟩ => ?_
      subst hr
      refine thnF h6 fun _ s7 ⟨x, H7, I7, r7, y7, st7, n7⟩ => ?_
      have I7p := I7.pinned (stat I7 n7) (T.obj _ _ st7)
      refine thnF (pg.run _ s7 _ H7 x u _ I7p r7 (step x H7 y7)) fun _ s8 ⟨σ8, H8, I8, hw8, q8⟩ => ?_
      have len8 : (wipe σ (own.map (·.2))).length = σ8.length := by rw [← hw8, wipe_length]
      refine wpAny_bind (thnF (pi1.run _ s8 σ8 H8 _ I8 q8) fun xv s9 hx => wpAny_bind (wpAny_standAt (wpAny_bind (wpAny_of_eq (hs1 ce xv) (wpAny_bind (wpAny_holding (thnF hx fun itv s10 h10 => ?_)))))))
      obtain ⟨it1, fp1, tn1, J1, H10, rfl, I10, T1, st10, f10, W1, ⟨m1, w1⟩, turn1⟩ := h10
      have stat1 : ∀ {H' : Hp}, (∀ b ∈ fp1, H' b = none) → ∀ b ∈ fp1, FpOk (X.blk s3 H3 scope ce fp) ([] ++ pinsAt fp s7.heap) H' b := fun hn b hb => ⟨hn b hb, (f10 b hb).2⟩
      have inner : codeAny (model X.prog X.w) X.A (.compLoop (sc2 elt tg iter tg1 iter1 scope pos) 1 (.ref it1) (.ref D) ce) (fun z s' => match z with
          | .ok _ => ∃ m, m < n ∧ ∃ i H', Inv (X.blk s3 H3 scope ce fp) [] (wipe σ (own.map (·.2))) H' s' ∧ tn i s'.heap ∧ (∀ b ∈ fp, H' b = none) ∧ W i m H'
          | .error _ => False) s10 := by
        refine turns rfl rfl rfl turn_in (fun k s' => ∃ j H', Inv (X.blk s3 H3 scope ce fp) ([] ++ pinsAt fp s7.heap) (wipe σ8 vs1) H' s' ∧ tn1 j s'.heap ∧ (∀ b ∈ fp1, H' b = none) ∧ W1 j k H') ?_ m1 ⟨0, H10, I10.weak (wipe_length _ _) (fun j v e => (wipe_some e).1), st10, fun b hb => (f10 b hb).1, w1⟩
        rintro k s11 ⟨j, H11, I11, st11, n11, w11⟩
        rcases turn1 j k H11 w11 with ⟨stop1, nx0⟩ | ⟨go1, N1, hN1, step1⟩
        · refine thnF (T1.done (X.blk s3 H3 scope ce fp) rfl rfl rfl hc j _ s11 (wipe σ8 vs1) H11 (fun _ _ => False) I11 (stat1 n11) st11 stop1) fun r s12 ⟨hr, I12⟩ => ?_
          subst hr
          obtain ⟨m', lt, w'⟩ := hN0 H11 nx0
          have pin : ∀ b ∈ fp, ∀ o, s7.heap.get? b = some o → s12.heap.get? b = some o ∧ H11 b = none := fun b hb o e =>
            ⟨(I12.pin (b, o) (List.mem_append_right _ (List.mem_append_right _ (mem_pinsAt hb e)))).1, (I12.pin (b, o) (List.mem_append_right _ (List.mem_append_right _ (mem_pinsAt hb e)))).2.1⟩
          refine ⟨m', lt, i + 1, H11, (I12.unpinned (pins := [])).weak (len8.trans (wipe_length σ8 vs1).symm) (fun j v e => ?_), T.keep _ _ _ st7 fun b hb o e => (pin b hb o e).1, fun b hb => ?_, w'⟩
          · rw [← hw8] at e
            obtain ⟨e1, e2⟩ := wipe_some e
            rw [wipe_out fun z => e2 (hv j z)]
            exact e1
          · obtain ⟨o, e, _⟩ := T.obj _ _ st7 b hb
            exact (pin b hb o e).2
        · refine thnF (T1.item (X.blk s3 H3 scope ce fp) rfl rfl rfl hc j _ s11 (wipe σ8 vs1) H11 (fun _ _ => False) I11 (stat1 n11) st11 go1) fun r s12 ⟨u1, hr, h12⟩ => ?_
          subst hr
          refine thnF h12 fun _ s13 ⟨x1, H13, I13, r13, y13, st13, n13⟩ => ?_
          have I13p := I13.pinned (stat1 n13) (T1.obj _ _ st13)
          refine thnF (pg1.run _ s13 (wipe σ8 vs1) H13 x1 u1 _ I13p r13 (step1 x1 H13 y13)) fun _ s14 ⟨σ14, H14, I14, hw14, q14⟩ => ?_
          refine wpAny_bind (wpAny_bind (thnF (pe.run _ s14 σ14 H14 _ I14 q14) fun v s15 ⟨yv, H15, I15, r15, c, S, m, ey, hD15, room, nx⟩ => wpAny_bind (wpAny_standAt (wpAny_bind ?_))))
          subst ey
          refine put_int (X := X.blk s3 H3 scope ce fp) I15 hD15 room r15 fun s16 I16 => wpAny_pure (wpAny_pure ⟨rfl, ?_⟩)
          obtain ⟨k', lt, w'⟩ := hN1 _ nx
          have pin1 : ∀ b ∈ fp1, ∀ o, s13.heap.get? b = some o → s16.heap.get? b = some o ∧ (upd H15 D (SetO X.w D (fun z => S z || decide (z = c)) (if S c = true then m else m + 1))) b = none := fun b hb o e =>
            ⟨(I16.pin (b, o) (List.mem_append_right _ (List.mem_append_right _ (mem_pinsAt hb e)))).1, (I16.pin (b, o) (List.mem_append_right _ (List.mem_append_right _ (mem_pinsAt hb e)))).2.1⟩
          refine ⟨k', lt, j + 1, _, I16.unpinned.weak (by rw [← hw14, wipe_length]) (fun j v e => by rw [← hw14] at e; exact (wipe_some e).1), T1.keep _ _ _ st13 fun b hb o e => (pin1 b hb o e).1, fun b hb => ?_, w'⟩
          obtain ⟨o, e, _⟩ := T1.obj _ _ st13 b hb
          exact (pin1 b hb o e).2
      refine wpAny_bind (wpAny_runOwn ?_)
      rw [Around.mark_none]
      refine codeAny_mono (start_in inner (T1.self X.A 0 _ _ _ st10 inner)) fun z s' hz => ?_
      cases z with
      | ok f => exact wpAny_pure ⟨rfl, hz⟩
      | error er => exact hz.elim
  exact PpSet.codeAny_compStart_set loop (T.self X.A 0 _ _ _ st4 loop)
/-- as a value -/
theorem pe_sc2 {elt tg iter tg1 iter1 : Expr} {scope : Scope} {own : List (Str × Nat)} {vs1 : List Nat} {pos : Pos} {wi wi1 : TI} {g g1 : TG} {te : TE} (hc : X.calm = true) (hN : X.N.Nodup) (hi : PI X tg iter wi) (ok : BlkOk X.N X.env.scope scope own) (hv : ∀ i ∈ vs1, i ∈ own.map (·.2))
    (hg : ∀ (s : Shared) (H : Hp) (C : Addr) (cl : List (Str × Addr)) (fp : List Addr), PG (X.blk s H scope (compEnvC scope cl C X.env) fp) tg g)
    (hi1 : ∀ (s : Shared) (H : Hp) (C : Addr) (cl : List (Str × Addr)) (fp : List Addr), PI (X.blk s H scope (compEnvC scope cl C X.env) fp) tg1 iter1 wi1)
    (hg1 : ∀ (s : Shared) (H : Hp) (C : Addr) (cl : List (Str × Addr)) (fp : List Addr), PG (X.blk s H scope (compEnvC scope cl C X.env) fp) tg1 g1)
    (he : ∀ (s : Shared) (H : Hp) (C : Addr) (cl : List (Str × Addr)) (fp : List Addr), PE (X.blk s H scope (compEnvC scope cl C X.env) fp) elt te)
    (hs : ∀ x, foldedSetIterable iter X.env x = pure x := by intro _; rfl) (hs1 : ∀ env x, foldedSetIterable iter1 env x = pure x := by intro _ _; rfl) :
    PE X (sc2 elt tg iter tg1 iter1 scope pos) (tSc2 X.w wi g wi1 g1 te (own.map (·.2)) vs1) := by
  refine ⟨fun pins s σ H Q I h => ?_⟩
  rw [PpSet.eval_SetComp]
  refine sc2_loops hc hN I hi ok hv hg he hs hi1 hg1 hs1 h fun D C s' m H' I' q hn f => ⟨m, hn, fun h2 sb => ?_⟩
  obtain ⟨f0, f1, f2, f3, f4, f5⟩ := f
  exact ⟨.ref D, H', I'.turned (t' := s'.toks) (fun b o hb e => (sb.2 b hb).trans e) f0 f1 f3 f4 f5, rfl, q⟩
end
/-- members told by a list -/
def memZ (l : List Int) : Int → Bool := fun z => decide (z ∈ l)
theorem memZ_in {l : List Int} {c : Int} (h : c ∈ l) : (fun z => memZ l z || decide (z = c)) = memZ l := by
  funext z
  by_cases e : z = c
  · subst e
    simp [memZ, h]
  · simp [e]
theorem memZ_new {l : List Int} {c : Int} : (fun z => memZ l z || decide (z = c)) = memZ (l ++ [c]) := by
  funext z
  unfold memZ
  rw [← Bool.decide_or]
  congr 1
  simp
/-- the set at D holds what the lists hold -/
def SetD (w : World) (D : Addr) (l : List Int) (H : Hp) : Prop := ∃ d : List Int, d.Nodup ∧ (∀ z, z ∈ d ↔ z ∈ l) ∧ H D = some (SetO w D (memZ d) d.length)
theorem asc_uniq : ∀ {a b : List Int}, a.Pairwise (· < ·) → b.Pairwise (· < ·) → (∀ z, z ∈ a ↔ z ∈ b) → a = b := by
  intro a b ha hb h
  have p : a.Perm b := (List.perm_ext_iff_of_nodup (ha.imp fun h => Int.ne_of_lt h) (hb.imp fun h => Int.ne_of_lt h)).mpr h
  exact p.eq_of_pairwise (le := fun x y : Int => x ≤ y) (fun x y _ _ h k => Int.le_antisymm h k) (ha.imp fun h => Int.le_of_lt h) (hb.imp fun h => Int.le_of_lt h)
theorem nodup_asc {os : List Int} (h : os.Pairwise (· < ·)) : os.Nodup := h.imp fun h => Int.ne_of_lt h
/-- sorted({x for k in xs for x in ys(k)}) over lists that stand, as the ascending list of what the lists hold -/
theorem el_sortSc2 {w : World} {K : PySem.W.Frag} {σ : L2.St} {H : Hp} {tl te1 te : TE} {a : Addr} {us : List V} {ys : List (List Int)} {j k : Nat} {ws ws1 : List Nat} (h : Ev tl σ H (.ref a)) (hx : SqL K H a us) (hl : ys.length = us.length)
    (hw : ∀ x, wipe ((wipe σ ws).set j (some x)) ws = wipe σ ws) (hw1 : ∀ x y, wipe ((wipe ((wipe σ ws).set j (some x)) ws1).set k (some y)) ws1 = wipe ((wipe σ ws).set j (some x)) ws1)
    (hi : ∀ (i : Nat) (u : V) (y : List Int), us[i]? = some u → ys[i]? = some y → ∃ b, SqL K H b (y.map V.int) ∧ ∀ H1, Ex H H1 → Ev te1 ((wipe σ ws).set j (some u)) H1 (.ref b))
    (he : ∀ (u : V) (x : Int) (H1 : Hp), Ev te ((wipe ((wipe σ ws).set j (some u)) ws1).set k (some (.int x))) H1 (.int x))
    {os : List Int} (ho : os.Pairwise (· < ·)) (hm : ∀ z, z ∈ os ↔ z ∈ ys.flatten) (h64 : os.length < 60) :
    EvL (tCB (rSortedSet w) (tCons (tSc2 w (iList K tl) (gName j) (iList K te1) (gName k) te ws ws1) tNil)) σ H (os.map V.int) := fun H0 e Q q => h H0 e _ fun H1 e1 => ⟨a, rfl, ⟨us, ex_l (e.trans e1) hx⟩, fun D hD => by
  have wk := walk_list (K := K) (a := a) (xs := us)
  have few : ∀ d : List Int, d.Nodup → (∀ z ∈ d, z ∈ ys.flatten) → d.length < 60 := fun d hd hz => by
    have := List.Nodup.length_le_of_subset hd (l₂ := os) fun z hz1 => (hm z).mpr (hz z hz1)
    omega
  have sub : ∀ i, ∀ z ∈ (ys.take i).flatten, z ∈ ys.flatten := fun i z hz => by
    obtain ⟨l, hl, hz⟩ := List.mem_flatten.mp hz
    exact List.mem_flatten.mpr ⟨l, List.mem_of_mem_take hl, hz⟩
  refine ⟨fun i c H2 => c = us.length - i ∧ i ≤ us.length ∧ SetD w D (ys.take i).flatten H2 ∧ Ex H1 (hide D H2), ⟨us.length, rfl, Nat.zero_le _, ⟨[], List.nodup_nil, fun z => by simp, upd_same⟩, ?_⟩, ?_⟩
  · rw [hide_upd, hide_none hD]
    exact Ex.refl _
  rintro i c H2 ⟨rfl, hi0, ⟨d0, nd0, md0, hv⟩, e2⟩
  have e12 := (e.trans e1).trans (e2.trans hide_le)
  by_cases lt : i < us.length
  · refine .inr ⟨wk.goes i H2 lt (ex_l e12 hx), fun H' => SetD w D (ys.take (i + 1)).flatten H' ∧ Ex H1 (hide D H'), fun H' z => ⟨_, by omega, rfl, lt, z.1, z.2⟩, fun x H' yy => ?_⟩
    obtain ⟨rfl, hu⟩ := wk.yields i H2 x H' lt (ex_l e12 hx) yy
    obtain ⟨y, hy⟩ : ∃ y, ys[i]? = some y := ⟨ys[i]'(by omega), List.getElem?_eq_getElem (by omega)⟩
    obtain ⟨b, hb, hE⟩ := hi i x y hu hy
    refine ⟨hw _, ?_⟩
    show te1 _ H' _
    refine hE H' e12 H' (Ex.refl _) _ fun H3 e3 => ⟨b, rfl, ⟨_, ex_l (e12.trans e3) hb⟩, ?_⟩
    have w2 := walk_list (K := K) (a := b) (xs := y.map V.int)
    have tk : (ys.take (i + 1)).flatten = (ys.take i).flatten ++ y := by
      rw [List.take_add_one, hy, List.flatten_append]
      simp
    refine ⟨fun i2 c2 H4 => c2 = y.length - i2 ∧ i2 ≤ y.length ∧ SetD w D ((ys.take i).flatten ++ y.take i2) H4 ∧ Ex H1 (hide D H4), ⟨y.length, rfl, Nat.zero_le _, ⟨d0, nd0, fun z => by rw [md0 z, List.take_zero, List.append_nil], e3 _ _ hv⟩, e2.trans (ex_hide e3)⟩, ?_⟩
    rintro i2 c2 H4 ⟨rfl, hi2, ⟨d, nd, md, hv4⟩, e4⟩
    have q4 : SqL K H4 b (y.map V.int) := ex_l ((e.trans e1).trans (e4.trans hide_le)) hb
    have ln : (y.map V.int).length = y.length := List.length_map _
    by_cases lt2 : i2 < y.length
    · refine .inr ⟨w2.goes i2 H4 (by omega) q4, fun H' => SetD w D ((ys.take i).flatten ++ y.take (i2 + 1)) H' ∧ Ex H1 (hide D H'), fun H' z => ⟨_, by omega, rfl, lt2, z.1, z.2⟩, fun x2 H' yy => ?_⟩
      obtain ⟨rfl, hx2⟩ := w2.yields i2 H4 x2 H' (by omega) q4 yy
      rw [List.getElem?_map, List.getElem?_eq_getElem lt2] at hx2
      have hx3 : V.int (y[i2]) = x2 := Option.some.inj hx2
      subst hx3
      refine ⟨hw1 _ _, ?_⟩
      show te _ H' _
      have tk2 : y.take (i2 + 1) = y.take i2 ++ [y[i2]] := by
        rw [List.take_add_one, List.getElem?_eq_getElem lt2]
        rfl
      have l1 := few d nd fun z hz => by
        rw [md] at hz
        rcases List.mem_append.mp hz with hz | hz
        · exact sub i z hz
        · exact List.mem_flatten.mpr ⟨y, List.mem_of_getElem? hy, List.mem_of_mem_take hz⟩
      refine he _ _ H' H' (Ex.refl _) _ fun H5 e5 => ⟨y[i2], memZ d, d.length, rfl, e5 _ _ hv4, ?_, ?_⟩
      · have : (100 : Nat) < scanBound := by decide
        omega
      · refine ⟨?_, ?_⟩
        · by_cases hin : y[i2] ∈ d
          · refine ⟨d, nd, fun z => ?_, ?_⟩
            · rw [tk2, ← List.append_assoc, List.mem_append, ← md z, List.mem_singleton]
              exact ⟨.inl, fun h => h.elim id fun h => h ▸ hin⟩
            · rw [upd_same, memZ_in hin, if_pos (show memZ d y[i2] = true from decide_eq_true hin)]
          · refine ⟨d ++ [y[i2]], ?_, fun z => ?_, ?_⟩
            · rw [List.nodup_append]
              refine ⟨nd, by simp, fun x hx z hz => ?_⟩
              rw [List.mem_singleton.mp hz]
              exact fun h => hin (h ▸ hx)
            · rw [tk2, ← List.append_assoc, List.mem_append, List.mem_append (s := _ ++ _), md z]
            · rw [upd_same, memZ_new, if_neg (show ¬ memZ d y[i2] = true from fun h => hin (of_decide_eq_true h)), List.length_append]
              rfl
        · rw [hide_upd]
          exact e4.trans (ex_hide e5)
    · have ei : i2 = y.length := by omega
      subst ei
      rw [List.take_length] at md
      have st := w2.stops H4 q4
      rw [ln] at st
      exact .inl ⟨st, ⟨d, nd, fun z => by rw [tk]; exact md z, hv4⟩, e4⟩
  · have ei : i = us.length := by omega
    subst ei
    rw [← hl, List.take_length] at md0
    have l0 := few d0 nd0 fun z hz => (md0 z).mp hz
    refine .inl ⟨wk.stops H2 (ex_l e12 hx), D, memZ d0, d0.length, rfl, hv, by omega, fun ns p hs hk _ hp => ?_⟩
    have : ns = os := asc_uniq hs ho fun z => by
      rw [hk z, hm z, ← md0 z]
      exact decide_eq_true_iff
    subst this
    have hp1 : H1 p = none := fresh_back (e2.trans hide_le) hp
    exact q p _ (fresh_back e1 hp1) (e1.trans ((e2.trans hide_le).trans (Ex.new hp))) upd_same⟩
/-! ### drawn lists whose items are new, parts and all -/
/-- x stands at l by what is new in H' alone -/
def New {α : Type} (R : α → Addr → Hp → Prop) (x : α) (l : Addr) (H H' : Hp) : Prop := ∀ G : Hp, (∀ (a : Addr) (o : HO), H a = none → H' a = some o → G a = some o) → R x l G
theorem New.here {α : Type} {R : α → Addr → Hp → Prop} {x : α} {l : Addr} {H H' : Hp} (n : New R x l H H') : R x l H' := n H' fun _ _ _ h => h
theorem lc_drawN {α : Type} {R : α → Addr → Hp → Prop} (up : Up R) {f : Int × Int → α × (Int × Int)} (hf : ∀ s, Pk s → Pk (f s).2) {te : TE} {σ : L2.St} {us : List Nat} {j : Nat} {p : Addr} {s : Int × Int} {H0 H1 : Hp} {n : Nat} {Q : VK} (hk : Pk s) (hp : H1 p = some (pl s)) (hn : n ≤ 1000)
    (hw : ∀ x, wipe ((wipe σ us).set j (some x)) us = wipe σ us)
    (he : ∀ (i : Nat) (H : Hp) (s : Int × Int), Pk s → H p = some (pl s) → Ex (hide p H1) H → ∀ Q : VK, (∀ l H', H l = none → Ex (hide p H) H' → H' p = some (pl (f s).2) → New R (f s).1 l H H' → Q (.ref l) H') → te ((wipe σ us).set j (some (.int (i : Int)))) H Q)
    (hq : ∀ l vs H', H1 l = none → Ex (hide p H1) H' → H' p = some (pl (drawN f n s).2) → H' l = some (.lst vs) → Rs R (hide p (hide l H')) vs (drawN f n s).1 → Q (.ref l) H') : tLc (iHere (Itr 0 n) H1) (gName j) tYes te us σ H0 Q := fun D hD => by
  have npD : p ≠ D := fun z => by
    rw [z, hD] at hp
    cases hp
  refine lc_it (walk_range (lo := 0) (n := n)) (fun i H => ∃ vs, H D = some (.lst vs) ∧ H p = some (pl (drawN f i s).2) ∧ Ex (hide p H1) (hide p (hide D H)) ∧ Rs R (hide p (hide D H)) vs (drawN f i s).1) ⟨[], upd_same, ?_, ?_, .nil⟩ (fun _ _ _ _ => trivial) ?_ ?_
  · rw [upd_ne npD]
    exact hp
  · rw [hide_upd, hide_none hD]
    exact Ex.refl _
  · rintro i x H H' hi ⟨vs, hv, hp2, e, r⟩ ⟨rfl, rfl⟩
    have ez : (0 : Int) + (i : Int) = (i : Int) := Int.zero_add _
    show wipe ((wipe σ us).set j (some (.int ((0 : Int) + (i : Int))))) us = wipe σ us ∧ te ((wipe σ us).set j (some (.int ((0 : Int) + (i : Int))))) H' _
    rw [ez]
    refine ⟨hw _, he i H' _ (drawN_pk hf hk i) hp2 (e.trans (hide_le.trans hide_le)) _ fun l H4 hl e4 hp4 nw => ?_⟩
    have hv4 : H4 D = some (.lst vs) := e4 _ _ (by rw [hide_ne npD.symm]; exact hv)
    have el := r.len
    rw [drawN_len] at el
    refine ⟨vs, hv4, sz_lt (by omega), vs ++ [.ref l], upd_same, ?_, ?_, ?_⟩
    · rw [upd_ne npD]
      exact hp4
    · rw [hide_upd]
      exact e.trans (ex_hide2 e4)
    · rw [hide_upd]
      refine (r.ex up (ex_hide2 e4)).snoc (nw _ fun a o h1 h2 => ?_)
      have n1 : a ≠ p := fun z => by
        rw [z, hp2] at h1
        cases h1
      have n2 : a ≠ D := fun z => by
        rw [z, hv] at h1
        cases h1
      rw [hide_ne n1, hide_ne n2]
      exact h2
  · rintro H ⟨vs, hv, hp2, e, r⟩
    have e2 : Ex (hide p (hide D H)) (hide p H) := ex_hide hide_le
    exact hq D vs H hD ((e.trans e2).trans hide_le) hp2 hv r
theorem qp_asgDrawN {α : Type} {R : α → Addr → Hp → Prop} (up : Up R) {f : Int × Int → α × (Int × Int)} (hf : ∀ s, Pk s → Pk (f s).2) {ta : TA} {te : TE} {tz : TS} {E : Ends} {σ : L2.St} {us : List Nat} {i j : Nat} {p : Addr} {s s1 : Int × Int} {G H : Hp} {n : Int} (K0 : Kn G p s H) (h : EvAP ta σ G p s [.int n] s1) (hk : Pk s1) (hn : 0 ≤ n ∧ n ≤ 1000)
    (hw : ∀ x, wipe ((wipe σ us).set j (some x)) us = wipe σ us)
    (he : ∀ (i : Nat) (H2 : Hp) (s : Int × Int), Pk s → H2 p = some (pl s) → Ex (hide p H) H2 → ∀ Q : VK, (∀ l H', H2 l = none → Ex (hide p H2) H' → H' p = some (pl (f s).2) → New R (f s).1 l H2 H' → Q (.ref l) H') → te ((wipe σ us).set j (some (.int (i : Int)))) H2 Q)
    (k : ∀ l vs H', l ≠ p → H l = none ∨ True → Ex (hide p H) H' → H' p = some (pl (drawN f n.toNat s1).2) → H' l = some (.lst vs) → Rs R (hide p (hide l H')) vs (drawN f n.toNat s1).1 → tz E (σ.set i (some (.ref l))) H') : tSeq (tAsg (tLc (iRng1 ta) (gName j) tYes te us) (gName i)) tz E σ H :=
  h H K0 _ fun H1 e1 g1 => ⟨n, rfl, by omega, by omega, lc_drawN (H0 := H1) (Q := fun v H' => tz E (σ.set i (some v)) H') up hf hk g1 (by omega) hw (fun i H2 s hs hp2 ex => he i H2 s hs hp2 (hx_trans e1 ex)) fun l vs H' hl e' hp' hl' r' => k l vs H' (fun z => by
    rw [z, g1] at hl
    cases hl) (.inr trivial) (hx_trans e1 e') hp' hl' r'⟩
/-! ### [k for k in range(n) if a draw of m is 0] -/
def siftN (m : Int) : Nat → Int × Int → List Nat × (Int × Int)
  | 0, s => ([], s)
  | i + 1, s => (if (take (siftN m i s).2 m).1 = 0 then (siftN m i s).1 ++ [i] else (siftN m i s).1, (take (siftN m i s).2 m).2)
theorem sift_one {m : Int} {s : Int × Int} {n : Nat} : (siftN m (n + 1) s).1 = if (take (siftN m n s).2 m).1 = 0 then (siftN m n s).1 ++ [n] else (siftN m n s).1 := rfl
theorem sift_pk {m : Int} {s : Int × Int} (h : Pk s) : ∀ n, Pk (siftN m n s).2
  | 0 => h
  | n + 1 => take_pk (sift_pk h n)
theorem sift_lt {m : Int} {s : Int × Int} : ∀ n, (siftN m n s).1.Pairwise (· < ·) ∧ ∀ k ∈ (siftN m n s).1, k < n
  | 0 => ⟨.nil, fun k hk => by cases hk⟩
  | n + 1 => by
    obtain ⟨h1, h2⟩ := sift_lt (m := m) (s := s) n
    rw [sift_one]
    split
    · refine ⟨List.pairwise_append.mpr ⟨h1, by simp, fun a ha b hb => ?_⟩, fun k hk => ?_⟩
      · rw [List.mem_singleton.mp hb]
        exact h2 a ha
      · rcases List.mem_append.mp hk with hk | hk
        · exact Nat.lt_succ_of_lt (h2 k hk)
        · rw [List.mem_singleton.mp hk]
          exact Nat.lt_succ_self n
    · exact ⟨h1, fun k hk => Nat.lt_succ_of_lt (h2 k hk)⟩
theorem sift_len {m : Int} {s : Int × Int} : ∀ n, (siftN m n s).1.length ≤ n
  | 0 => Nat.le_refl _
  | n + 1 => by
    have := sift_len (m := m) (s := s) n
    rw [sift_one]
    split
    · rw [List.length_append]
      simp
      omega
    · omega
theorem lc_sift {m : Int} {tt : TT} {te : TE} {σ : L2.St} {us : List Nat} {j : Nat} {p : Addr} {s : Int × Int} {H0 H1 : Hp} {n : Nat} {Q : VK} (hk : Pk s) (hp : H1 p = some (pl s)) (hn : n ≤ 1000)
    (hw : ∀ x, wipe ((wipe σ us).set j (some x)) us = wipe σ us)
    (ht : ∀ (i : Nat) (H : Hp) (s : Int × Int), Pk s → H p = some (pl s) → Ex (hide p H1) H → ∀ Q : Bool → Hp → Prop, (∀ H', Ex (hide p H) H' → H' p = some (pl (take s m).2) → Q (decide ((take s m).1 = 0)) H') → tt ((wipe σ us).set j (some (.int (i : Int)))) H Q)
    (he : ∀ (i : Nat) (H : Hp), Ev te ((wipe σ us).set j (some (.int (i : Int)))) H (.int (i : Int)))
    (hq : ∀ l H', H1 l = none → Ex (hide p H1) H' → H' p = some (pl (siftN m n s).2) → H' l = some (.lst ((siftN m n s).1.map fun (k : Nat) => V.int (k : Int))) → Q (.ref l) H') : tLc (iHere (Itr 0 n) H1) (gName j) tt te us σ H0 Q := fun D hD => by
  have npD : p ≠ D := fun z => by
    rw [z, hD] at hp
    cases hp
  refine lc_it (walk_range (lo := 0) (n := n)) (fun i H => H D = some (.lst ((siftN m i s).1.map fun (k : Nat) => V.int (k : Int))) ∧ H p = some (pl (siftN m i s).2) ∧ Ex (hide p H1) (hide p (hide D H))) ⟨upd_same, ?_, ?_⟩ (fun _ _ _ _ => trivial) ?_ ?_
  · rw [upd_ne npD]
    exact hp
  · rw [hide_upd, hide_none hD]
    exact Ex.refl _
  · rintro i x H H' hi ⟨hv, hp2, e⟩ ⟨rfl, rfl⟩
    have ez : (0 : Int) + (i : Int) = (i : Int) := Int.zero_add _
    show wipe ((wipe σ us).set j (some (.int ((0 : Int) + (i : Int))))) us = wipe σ us ∧ tt ((wipe σ us).set j (some (.int ((0 : Int) + (i : Int))))) H' _
    rw [ez]
    refine ⟨hw _, ht i H' _ (sift_pk hk i) hp2 (e.trans (hide_le.trans hide_le)) _ fun H4 e4 hp4 => ?_⟩
    have hv4 := e4 D _ (by rw [hide_ne npD.symm]; exact hv)
    by_cases c : (take (siftN m i s).2 m).1 = 0
    · rw [decide_eq_true c, if_pos rfl]
      show te ((wipe σ us).set j (some (.int ((0 : Int) + (i : Int))))) H4 _
      rw [ez]
      refine he i H4 H4 (Ex.refl _) _ fun H5 e5 => ⟨_, e5 _ _ hv4, sz_lt ?_, ?_, ?_, ?_⟩
      · have := sift_len (m := m) (s := s) i
        rw [List.length_map]
        omega
      · rw [upd_same, sift_one, if_pos c, List.map_append]
        rfl
      · rw [upd_ne npD]
        exact e5 _ _ hp4
      · rw [hide_upd]
        exact (e.trans (ex_hide2 e4)).trans (ex_hide (ex_hide e5))
    · rw [decide_eq_false c, if_neg (by simp)]
      refine ⟨?_, hp4, e.trans (ex_hide2 e4)⟩
      rw [sift_one, if_neg c]
      exact hv4
  · rintro H ⟨hv, hp2, e⟩
    have e2 : Ex (hide p (hide D H)) (hide p H) := ex_hide hide_le
    exact hq D H hD ((e.trans e2).trans hide_le) hp2 hv
/-! ### xs.index(x); a def that never raises, where one may -/
theorem pe_indexK {X : Cx} {o e : Expr} {to : TE} {ta : TA} {apos cpos : Pos} (K : PySem.W.Frag) (eK : X.K = K) (ho : PE X o to) (ha : PA X [e] ta)
    (hbase : attributeBase o "index" X.env (eval o X.env) = eval o X.env := by rfl)
    (hfew : ((backTo cpos (starEach [e] X.env)).all (fun x => !x.1) && (backToKw cpos (keywordEach [] X.env)).all (fun x => x.1.isSome) && decide (([e] : List Expr).length + ([] : List Keyword).length + (if ([] : List Keyword).isEmpty then 0 else 1) < 30)) = true := by rfl)
    (hline : (apos.endLine == cpos.line) = true := by rfl) (hs : starEach [e] X.env = (false, eval e X.env) :: starEach [] X.env := by rfl) (hplain : (backTo cpos (starEach [] X.env)).any (·.1) = false := by rfl) :
    PE X (.Call (.Attribute o "index" apos) [e] [] cpos) (tBM K "list" (rIndex K) to ta) := eK ▸ pe_bm PySem.F.plainAttrs_list PySem.F.slot_list_index PySem.F.type_list_index mt_index ho ha hbase hfew hline hs hplain
theorem fnok_cx {P : Program} {w : World} {K : PySem.W.Frag} {mg : Str → Option Value} {base : Heap} {CX : CXT} {k : Nat} {f : Addr} {fd : FuncData} {ps : List Str} {sp : Sp} (F : FnOk P w K mg base CX0 k f fd ps sp) : FnOk P w K mg base CX k f fd ps sp :=
  ⟨F.len, fun A outer s H args us vs Q E hr he hb hv hs => codeAny_mono (F.run A outer s H args us vs Q E hr he hb hv hs) fun z s' h => by
    match z, h with
    | .error e, h => exact h.elim
    | .ok (.ret u), h => exact h
    | .ok .next, h => exact h.elim
    | .ok .brk, h => exact h.elim
    | .ok .cont, h => exact h.elim⟩
theorem ev_index {K : PySem.W.Frag} {σ : L2.St} {H : Hp} {to te : TE} {a : Addr} {ks : List Nat} {j x : Nat} (ho : Ev to σ H (.ref a)) (hx : H a = some (.lst (ks.map fun (k : Nat) => V.int (k : Int)))) (h : Ev te σ H (.int (x : Int))) (hj : ks[j]? = some x) (hn : ks.Nodup) :
    Ev (tBM K "list" (rIndex K) to (tCons te tNil)) σ H (.int (j : Int)) := fun H1 e Q q => ho H1 e _ fun H2 e2 => ⟨Or.inl ⟨rfl, _, sq_of (e2 _ _ (e _ _ hx))⟩, h H2 (e.trans e2) _ fun H3 e3 =>
  ⟨a, _, .int (x : Int), j, .int (x : Int), rfl, rfl, sq_of (e3 _ _ (e2 _ _ (e _ _ hx))), rfl, List.all_eq_true.mpr fun v hv => by
    obtain ⟨_, _, rfl⟩ := List.mem_map.mp hv
    rfl, by rw [List.getElem?_map, hj]; rfl, by simp [eqV], fun m z hm hz => by
    rw [List.getElem?_map] at hz
    cases hk : ks[m]? with
    | none =>
      rw [hk] at hz
      cases hz
    | some y =>
      rw [hk] at hz
      cases hz
      have ne : y ≠ x := fun z => by
        subst z
        obtain ⟨l1, g1⟩ := List.getElem?_eq_some_iff.mp hk
        obtain ⟨l2, g2⟩ := List.getElem?_eq_some_iff.mp hj
        exact List.pairwise_iff_getElem.mp (List.nodup_iff_pairwise_ne.mp hn) m j l1 l2 hm (g1.trans g2.symm)
      simp [eqV]
      omega, q H3 (e2.trans e3)⟩⟩
theorem pe_fldK {X : Cx} {e : Expr} {f : Str} {ta : TE} {pos : Pos} (K : PySem.W.Frag) (eK : X.K = K) (he : PE X e ta) (hb : attributeBase e f X.env (eval e X.env) = eval e X.env) : PE X (.Attribute e f pos) (tFld K ta f) := eK ▸ pe_fld he hb
theorem call_list_ofK {X : Cx} (K : PySem.W.Frag) (e : X.K = K) : CallR X (.type "list") (fun xs H Q => ∃ p ys, xs = [.ref p] ∧ (SqL K H p ys ∨ SqT K H p ys) ∧ ∀ l, H l = none → Q (.ref l) (upd H l (.lst ys))) := e ▸ call_list_of
theorem qp_asgSift {m : Int} {ta : TA} {tt : TT} {te : TE} {tz : TS} {E : Ends} {σ : L2.St} {us : List Nat} {i j : Nat} {p : Addr} {s s1 : Int × Int} {G H : Hp} {n : Nat} (K0 : Kn G p s H) (h : EvAP ta σ G p s [.int (n : Int)] s1) (hk : Pk s1) (hn : n ≤ 1000)
    (hw : ∀ x, wipe ((wipe σ us).set j (some x)) us = wipe σ us)
    (ht : ∀ (i : Nat) (H2 : Hp) (s : Int × Int), Pk s → H2 p = some (pl s) → Ex (hide p H) H2 → ∀ Q : Bool → Hp → Prop, (∀ H', Ex (hide p H2) H' → H' p = some (pl (take s m).2) → Q (decide ((take s m).1 = 0)) H') → tt ((wipe σ us).set j (some (.int (i : Int)))) H2 Q)
    (he : ∀ (i : Nat) (H : Hp), Ev te ((wipe σ us).set j (some (.int (i : Int)))) H (.int (i : Int)))
    (k : ∀ l H', l ≠ p → Ex (hide p H) H' → H' p = some (pl (siftN m n s1).2) → H' l = some (.lst ((siftN m n s1).1.map fun (k : Nat) => V.int (k : Int))) → tz E (σ.set i (some (.ref l))) H') : tSeq (tAsg (tLc (iRng1 ta) (gName j) tt te us) (gName i)) tz E σ H :=
  h H K0 _ fun H1 e1 g1 => ⟨(n : Int), rfl, by omega, by omega, lc_sift (H0 := H1) (Q := fun v H' => tz E (σ.set i (some v)) H') hk g1 (by omega) hw (fun i H2 s hs hp2 ex => ht i H2 s hs hp2 (hx_trans e1 ex)) he fun l H' hl e' hp' hl' => k l H' (fun z => by
    rw [z, g1] at hl
    cases hl) (hx_trans e1 e') hp' hl'⟩
/-- one name forgotten, stored, forgotten again -/
theorem wipe1 {σ : L2.St} {j : Nat} (x : V) : wipe ((wipe σ [j]).set j (some x)) [j] = wipe σ [j] := by
  simp [wipe]
theorem set_at {σ : L2.St} {j : Nat} {x : V} (h : j < σ.length) : ((wipe σ [j]).set j (some x))[j]? = some (some x) := by
  rw [List.getElem?_set_self]
  simp [wipe]
  exact h
theorem set_off {σ : L2.St} {i j : Nat} {x : V} {v : Option V} (n : j ≠ i) (h : σ[i]? = some v) : ((wipe σ [j]).set j (some x))[i]? = some v := by
  rw [List.getElem?_set_ne n, wipe_out (by simp; omega)]
  exact h
/-! ### a list of new objects over range(n), each told apart from the lists that stood -/
def EvNF {α : Type} (te : TE) (σ : L2.St) (H : Hp) (R : α → Addr → Hp → Prop) (y : α) : Prop := ∀ H1, Ex H H1 → ∀ Q : VK, (∀ p H2, H1 p = none → Ex H1 H2 → R y p H2 → (∀ (D : Addr) (acc : List V), H1 D = some (.lst acc) → (∀ v ∈ acc, ∃ r : Addr, v = .ref r) → R y p (hide D H2)) → Q (.ref p) H2) → te σ H1 Q
theorem ers_rngF {α : Type} {R : α → Addr → Hp → Prop} {xs : List α} {σ : L2.St} {H : Hp} {te : TE} {ta : TA} {n j : Nat} {us : List Nat} (up : Up R) (h : EvA ta σ H [.int (n : Int)]) (hn : n ≤ 40000) (hl : xs.length = n) (hw : ∀ x, wipe ((wipe σ us).set j (some x)) us = wipe σ us)
    (he : ∀ (i : Nat) (y : α) (H1 : Hp), Ex H H1 → xs[i]? = some y → EvNF te ((wipe σ us).set j (some (.int (i : Int)))) H1 R y) : EvRs (tLc (iRng1 ta) (gName j) tYes te us) σ H R xs := fun H0 e Q q => h H0 e _ fun H1 e1 => ⟨(n : Int), rfl, by omega, by omega, fun D hD => by
  refine lc_it (walk_range (lo := 0) (n := n)) (fun i H => ∃ vs, H D = some (.lst vs) ∧ Ex H1 (hide D H) ∧ Rs R (hide D H) vs (xs.take i)) ⟨[], upd_same, ?_, ?_⟩ (fun _ _ _ _ => trivial) ?_ ?_
  · rw [hide_upd, hide_none hD]
    exact Ex.refl _
  · exact .nil
  · rintro i x H2 H3 hi ⟨vs, hv, e2, r⟩ ⟨rfl, rfl⟩
    have ez : (0 : Int) + (i : Int) = (i : Int) := Int.zero_add _
    obtain ⟨z, hz⟩ : ∃ z, xs[i]? = some z := ⟨xs[i]'(by omega), List.getElem?_eq_getElem (by omega)⟩
    show wipe ((wipe σ us).set j (some (.int ((0 : Int) + (i : Int))))) us = wipe σ us ∧ te ((wipe σ us).set j (some (.int ((0 : Int) + (i : Int))))) H3 _
    rw [ez]
    refine ⟨hw _, he i z H3 ((e.trans e1).trans (e2.trans hide_le)) hz H3 (Ex.refl _) _ fun p H4 hp e4 rp rD => ?_⟩
    have hv4 := e4 _ _ hv
    have el : vs.length = (xs.take i).length := r.len
    rw [List.length_take] at el
    refine ⟨vs, hv4, sz_lt (by omega), vs ++ [.ref p], upd_same, ?_, ?_⟩
    · rw [hide_upd]
      exact e2.trans (ex_hide e4)
    · rw [hide_upd, List.take_add_one, hz]
      exact (r.ex up (ex_hide e4)).snoc (rD D vs hv r.refs)
  · rintro H2 ⟨vs, hv, e2, r⟩
    rw [← hl, List.take_length] at r
    exact q D vs H2 (fresh_back e1 hD) (e1.trans (e2.trans hide_le)) hv (r.ex up hide_le)⟩
theorem q_asgNF {α : Type} {R : α → Addr → Hp → Prop} {y : α} {te : TE} {g : TG} {tz : TS} {D : Ends} {σ : L2.St} {H : Hp} (h : EvNF te σ H R y) (k : ∀ p H1, H p = none → Ex H H1 → R y p H1 → (∀ (A : Addr) (acc : List V), H A = some (.lst acc) → (∀ v ∈ acc, ∃ r : Addr, v = .ref r) → R y p (hide A H1)) → g (.ref p) σ H1 fun σ2 H2 => tz D σ2 H2) :
    tSeq (tAsg te g) tz D σ H := h H (Ex.refl H) _ k
end Kz
namespace Kz
open PySem PySem.Spec PyProof.Rows L2 Evl StX
def rLenOwn (C : Addr) (sp : Sp) (E : XK) : List V → Hp → VK → Prop := fun xs H Q => ∃ a dx fs, xs = [.ref a] ∧ H a = some (.ins C dx fs) ∧ sp [.ref a] H (fun v H' => ∃ n : Int, v = .int n ∧ 0 ≤ n ∧ n < 2 ^ 63 ∧ Q (.int n) H') E
theorem call_lenOwn {X : Cx} {CX : CXT} {C f : Addr} {fd : FuncData} {ps : List Str} {k : Nat} {sp : Sp} {E : XK} (h1 : PySem.W.findIn X.K (.ref C) "__len__" = some (some (.ref f))) (h2 : PySem.W.isFn X.K (.ref f) = true) (F : FnOk X.prog X.w X.K X.mg X.base CX k f fd ps sp) (hr : Room (k + 1) X.A) (hb : Binds X.K fd ps []) (hx : Passes CX X E) : CallR X (.builtin "len") (rLenOwn C sp E) := by
  intro pins s σ H xs us Q I r h
  obtain ⟨a, dx, fs, rfl, ha, hsp⟩ := h
  obtain ⟨u, rfl, rx⟩ := vals1 r
  cases (show u = Value.ref a from rx)
  obtain ⟨mA, J, _⟩ := ins_get I.hok ha
  obtain ⟨oa, J, _⟩ := J.look
  obtain ⟨m, fr⟩ := I.fr
  have sb : Sub X k X.A.in1 := (sub_here hr).in1
  refine PySem.W.len_K fr I.ok.mod.kin J h1 h2 (wpAny_mono (call_at F hb hx sb I (us := [.ref a]) (.cons (show RelV (.ref a) (Value.ref a) from rfl) .nil) hsp) (fun v s' z => ?_) fun _ _ z => z)
  obtain ⟨x, H', I', rv, n, rfl, n0, n1, q⟩ := z
  obtain ⟨t, rfl⟩ := rv
  exact ⟨⟨n0, n1⟩, .int n, H', I'.tok _, ⟨_, rfl⟩, q⟩
def rIxOwn (C : Addr) (sp : Sp) (E : XK) : R2 := fun x y H Q => ∃ a dx fs, x = .ref a ∧ H a = some (.ins C dx fs) ∧ sp [.ref a, y] H Q E
theorem pe_ixOwn0 {X : Cx} {CX : CXT} {C f : Addr} {fd : FuncData} {ps : List Str} {k : Nat} {sp : Sp} {E : XK} {e i : Expr} {ta tb : TE} {pos : Pos} (h1 : PySem.W.findIn X.K (.ref C) "__getitem__" = some (some (.ref f))) (h2 : PySem.W.fnIn X.K f = true) (h3 : PySem.W.isFn X.K (.ref f) = true)
    (F : FnOk X.prog X.w X.K X.mg X.base CX k f fd ps sp) (hr : Room (k + 1) X.A) (hb : Binds X.K fd ps []) (hx : Passes CX X E) (he : PE X e ta) (hi : PE X i tb)
    (hsl : ∀ (x : Addr) (v : Value), subscripted i true (.ref x) v = runValue (.builtin "lifetime.subscript" ⟨[.ref x, v], []⟩)) : PE X (.Subscript e i pos) (tOp (rIxOwn C sp E) ta tb) := by
  refine ⟨fun pins s σ H Q I h => ?_⟩
  refine Subscript_ (binT he hi I h fun v u s2 x y H2 I2 rx ry q => ?_)
  obtain ⟨a, dx, fs, rfl, ha, hsp⟩ := q
  cases (show v = Value.ref a from rx)
  obtain ⟨mA, J, _⟩ := ins_get I2.hok ha
  obtain ⟨oa, J, _⟩ := J.look
  obtain ⟨m, fr⟩ := I2.fr
  have sb : Sub X k X.A.in1 := (sub_here hr).in1
  exact PySem.W.sub_K fr I2.ok.mod.kin J h1 h2 h3 (call_at F hb hx sb I2 (us := [.ref a, u]) (.cons (show RelV (.ref a) (Value.ref a) from rfl) (.cons ry .nil)) hsp) (hsl a u)
section
variable (P : Program) (w : World) (K : PySem.W.Frag) (mg : Str → Option Value) (base : Heap)
def DfLen (C : Addr) (ps : List Str) (k : Nat) (sp : Sp) : Prop := ∃ (f : Addr) (fd : FuncData), (PySem.W.findIn K (.ref C) "__len__" = some (some (.ref f)) ∧ PySem.W.isFn K (.ref f) = true) ∧ Binds K fd ps [] ∧ FnOk P w K mg base CX0 k f fd ps sp
def DfGet (C : Addr) (ps : List Str) (k : Nat) (sp : Sp) : Prop := ∃ (f : Addr) (fd : FuncData), (PySem.W.findIn K (.ref C) "__getitem__" = some (some (.ref f)) ∧ PySem.W.fnIn K f = true ∧ PySem.W.isFn K (.ref f) = true) ∧ Binds K fd ps [] ∧ FnOk P w K mg base CX0 k f fd ps sp
end
theorem call_len_df {X : Cx} {C : Addr} {ps : List Str} {k : Nat} {sp : Sp} (D : DfLen X.prog X.w X.K X.mg X.base C ps k sp) (hr : Room (k + 1) X.A) : CallR X (.builtin "len") (rLenOwn C sp E0) := by
  obtain ⟨f, fd, ⟨h1, h2⟩, hb, F⟩ := D
  exact call_lenOwn h1 h2 F hr hb pass0
theorem pe_ixOwn {X : Cx} {C : Addr} {ps : List Str} {k : Nat} {sp : Sp} {e i : Expr} {ta tb : TE} {pos : Pos} (D : DfGet X.prog X.w X.K X.mg X.base C ps k sp) (hr : Room (k + 1) X.A) (he : PE X e ta) (hi : PE X i tb)
    (hsl : ∀ (x : Addr) (v : Value), subscripted i true (.ref x) v = runValue (.builtin "lifetime.subscript" ⟨[.ref x, v], []⟩) := by intro _ _; with_unfolding_all rfl) : PE X (.Subscript e i pos) (tOp (rIxOwn C sp E0) ta tb) := by
  obtain ⟨f, fd, ⟨h1, h2, h3⟩, hb, F⟩ := D
  exact pe_ixOwn0 h1 h2 h3 F hr hb pass0 he hi hsl
/-- [x] * n -/
theorem el_repN {σ : L2.St} {H : Hp} {ta tb : TE} {n : Nat} (h : EvL ta σ H ([n].map fun (k : Nat) => V.int (k : Int))) (hb : Ev tb σ H (.int (n : Int))) (hn : n ≤ 1000) : EvL (tOp rRep ta tb) σ H ((List.replicate n n).map fun (k : Nat) => V.int (k : Int)) := fun H1 e Q q =>
  h H1 e _ fun l H2 hl e2 h2 => hb H2 (e.trans e2) _ fun H3 e3 => ⟨l, (n : Int), _, rfl, rfl, e3 _ _ h2, by omega, by omega, sz_of (by simp; omega), fun p hp => by
    have er : (List.replicate ((n : Int)).toNat ([n].map fun (k : Nat) => V.int (k : Int))).flatten = (List.replicate n n).map fun (k : Nat) => V.int (k : Int) := by
      rw [Int.toNat_natCast, List.map_replicate]
      generalize n = m
      have : ∀ j : Nat, (List.replicate j ([m].map fun (k : Nat) => V.int (k : Int))).flatten = List.replicate j (V.int (m : Int)) := fun j => by
        induction j with
        | zero => rfl
        | succ j ih =>
          rw [List.replicate_succ, List.flatten_cons, ih, List.replicate_succ]
          rfl
      exact this m
    rw [er]
    exact q p _ (fresh_back (e2.trans e3) hp) ((e2.trans e3).trans (Ex.new hp)) upd_same⟩
/-- a new list of draws, told apart from all that is frozen -/
theorem qp_asgLstN {G H : Hp} {p : Addr} {s s1 : Int × Int} {σ : L2.St} {D : Ends} {tz : TS} {ta : TA} {i : Nat} {vs : List V} (k : Kn G p s H) (h : EvAP ta σ G p s vs s1) (hl : vs.length ≤ 100000) (nx : ∀ l H', G l = none → H l = none → l ≠ p → Kn G p s1 H' → Ex (hide p H) H' → H' l = some (.lst vs) → tz D (σ.set i (some (.ref l))) H') :
    tSeq (tAsg (tLst ta) (gName i)) tz D σ H := h H k _ fun H' e g => ⟨sz_of hl, fun l nl => by
  have ne : l ≠ p := fun z => by
    rw [z, g] at nl
    cases nl
  refine nx l _ ?_ ?_ ne ((k.next e g).same (Ex.new nl)) (e.trans (Ex.new nl)) upd_same
  · cases hG : G l with
    | none => rfl
    | some o =>
      have := (k.next e g).ex l o hG
      rw [nl] at this
      cases this
  · cases hH : H l with
    | none => rfl
    | some o =>
      have := e l o (by rw [hide_ne ne]; exact hH)
      rw [nl] at this
      cases this⟩
theorem ev_lenA {K : PySem.W.Frag} {σ : L2.St} {H : Hp} {te : TE} {a : Addr} {xs : List V} (h : Ev te σ H (.ref a)) (hx : SqL K H a xs) : Ev (tCB (fun ys H Q => ∃ x n, ys = [x] ∧ LenV K x H n ∧ Q (.int (n : Int)) H) (tCons te tNil)) σ H (.int (xs.length : Int)) := fun H1 e Q q =>
  h H1 e _ fun H2 e2 => ⟨.ref a, xs.length, rfl, .inl ⟨xs, ex_l (e.trans e2) hx, rfl⟩, q H2 e2⟩
/-! ### a list of drawn texts, one for each item of a list that stands -/
theorem lc_drawL {K : PySem.W.Frag} {P : Str → Prop} {te tl : TE} {σ : L2.St} {us : List Nat} {j : Nat} {p a : Addr} {s : Int × Int} {H1 : Hp} {xs : List V} {Q : VK} (hk : Pk s) (hp : H1 p = some (pl s)) (hn : xs.length ≤ 1000) (ht : Ev tl σ H1 (.ref a)) (ha : hide p H1 a = some (.lst xs))
    (hw : ∀ x, wipe ((wipe σ us).set j (some x)) us = wipe σ us)
    (he : ∀ (i : Nat) (x : V) (H : Hp) (s : Int × Int), xs[i]? = some x → Pk s → H p = some (pl s) → Ex (hide p H1) H → ∀ Q : VK, (∀ (z : Str) (s' : Int × Int), P z → Pk s' → RetP p s' (.str z) H Q) → te ((wipe σ us).set j (some x)) H Q)
    (hq : ∀ (l : Addr) (zs : List Str) (s' : Int × Int) (H' : Hp), H1 l = none → (∀ z ∈ zs, P z) → zs.length = xs.length → Pk s' → Ex (hide p H1) H' → H' p = some (pl s') → H' l = some (.lst (zs.map V.str)) → Q (.ref l) H') : tLc (iList K tl) (gName j) tYes te us σ H1 Q :=
  ht H1 (Ex.refl _) _ fun H2 e2 => ⟨a, rfl, ⟨xs, sq_of (e2 _ _ (hide_le _ _ ha))⟩, fun D hD => by
  have hp2 := e2 _ _ hp
  have npD : p ≠ D := fun z => by
    rw [z, hD] at hp2
    cases hp2
  have e12 : Ex (hide p H1) (hide p H2) := ex_hide e2
  have ha2 := e12 _ _ ha
  refine lc_it (walk_list (K := K) (a := a) (xs := xs)) (fun i H => ∃ (zs : List Str) (s' : Int × Int), H D = some (.lst (zs.map V.str)) ∧ (∀ z ∈ zs, P z) ∧ zs.length = i ∧ Pk s' ∧ H p = some (pl s') ∧ Ex (hide p H2) (hide p (hide D H))) ⟨[], s, upd_same, fun z hz => (by cases hz), rfl, hk, ?_, ?_⟩ ?_ ?_ ?_
  · rw [upd_ne npD]
    exact hp2
  · rw [hide_upd, hide_none hD]
    exact Ex.refl _
  · rintro i H _ ⟨_, _, _, _, _, _, _, e⟩
    exact sq_of (hide_le _ _ (hide_le _ _ (e _ _ ha2)))
  · rintro i x H H' hi ⟨zs, s', hv, hz, hl, hk', hp', e⟩ y
    obtain ⟨rfl, hx⟩ := y
    refine ⟨hw _, he i x H' s' hx hk' hp' (e12.trans (e.trans (hide_le.trans hide_le))) _ fun z s2 pz hk2 H4 e4 hp4 => ?_⟩
    have hv4 := e4 D _ (by rw [hide_ne npD.symm]; exact hv)
    refine ⟨_, hv4, sz_lt (by rw [List.length_map]; omega), zs ++ [z], s2, by rw [upd_same, List.map_append]; rfl, fun u hu => ?_, by rw [List.length_append, hl]; rfl, hk2, by rw [upd_ne npD]; exact hp4, ?_⟩
    · rcases List.mem_append.mp hu with h | h
      · exact hz u h
      · rw [List.mem_singleton.mp h]
        exact pz
    · rw [hide_upd]
      exact e.trans (ex_hide2 e4)
  · rintro H ⟨zs, s', hv, hz, hl, hk', hp', e⟩
    have e3 : Ex (hide p (hide D H)) (hide p H) := ex_hide hide_le
    exact hq D zs s' H (fresh_back e2 hD) hz hl hk' (e12.trans ((e.trans e3).trans hide_le)) hp' hv⟩
end Kz
namespace Kz
open PySem PySem.Spec PyProof.Rows L2 Evl StX

/-- the name's cell holds v, a text object that is older than the next one -/
def TokC (X : Cx) (s : Shared) (x v : Str) : Prop := ∃ c t, X.env.cells.lookup x = some c ∧ s.heap.IsCell c (some (.str v t)) ∧ t ≠ 0 ∧ t < s.toks
def Toks (X : Cx) (L : List (Nat × Str)) (σ : L2.St) (s : Shared) : Prop := ∀ p ∈ L, ∃ v, σ[p.1]? = some (some (.str v)) ∧ TokC X s p.2 v
/-- the cells stand -/
def StayC (X : Cx) (s s' : Shared) : Prop := ∀ x c u, X.env.cells.lookup x = some c → s.heap.IsCell c u → s'.heap.IsCell c u
theorem StayC.refl {X : Cx} {s : Shared} : StayC X s s := fun _ _ _ _ h => h
theorem StayC.trans {X : Cx} {s s1 s2 : Shared} (a : StayC X s s1) (b : StayC X s1 s2) : StayC X s s2 := fun x c u e h => b x c u e (a x c u e h)
theorem TokC.keep {X : Cx} {s s' : Shared} {x v : Str} (h : TokC X s x v) (st : StayC X s s') (ht : s.toks ≤ s'.toks) : TokC X s' x v :=
  let ⟨c, t, e, ic, h0, h1⟩ := h
  ⟨c, t, e, st x c _ e ic, h0, Nat.lt_of_lt_of_le h1 ht⟩

def PEc (X : Cx) (e : Expr) (te : TE) : Prop := ∀ (pins : List (Addr × Obj)) (s : Shared) (σ : L2.St) (H : Hp) (Q : VK), Inv X pins σ H s → te σ H Q →
  wpAny (model X.prog X.w) X.A (eval e X.env) (fun v s' => StayC X s s' ∧ EP X pins σ Q v s') X.xe s
def PAc (X : Cx) (es : List Expr) (ta : TA) : Prop := ∀ (pos : Pos) (pins : List (Addr × Obj)) (s : Shared) (σ : L2.St) (H : Hp) (Q : List V → Hp → Prop), Inv X pins σ H s → ta σ H Q →
  wpAny (model X.prog X.w) X.A (spliced (backTo pos (starEach es X.env))) (fun us s' => StayC X s s' ∧ AP X pins σ Q us s') X.xe s
section
variable {X : Cx} {e : Expr} {es : List Expr} {te : TE} {ta : TA}
theorem pec_var {i : Nat} {x : Str} {pos : Pos} (hN : X.N[i]? = some x) (hv : Vis X.env.scope x) (hd : (x == ("__debug__" : Str)) = false := by decide) (hcd : (x == ("__classdict__" : Str)) = false := by decide) : PEc X (.Name x pos) (tVar i) := by
  intro pins s σ H Q I h
  obtain ⟨v, e, h⟩ := h
  exact raw_name hN hv I e (fun u r => ⟨StayC.refl, v, H, I, r, h⟩) hd hcd
theorem pcv (i : Nat) {x : Str} {pos : Pos} (hN : X.N[i]? = some x := by rfl) (hv : Vis X.env.scope x := by first | exact Or.inl rfl | exact Or.inr (Or.inl rfl) | exact Or.inr (Or.inr rfl))
    (hd : (x == ("__debug__" : Str)) = false := by decide) (hcd : (x == ("__classdict__" : Str)) = false := by decide) : PEc X (.Name x pos) (tVar i) := pec_var hN hv hd hcd
theorem pec_int {i : Int} {j : Nat} {pos : Pos} : PEc X (.Constant (.int i) j pos) (tC (.int i)) := fun _ _ _ H _ I h => wpAny_Constant_int ⟨fun _ _ _ _ z => z, .int i, H, I.tok _, ⟨_, rfl⟩, h⟩
theorem pac_nil : PAc X [] tNil := fun _ _ _ _ H Q I h => Calls.spliced_nil ⟨StayC.refl, [], H, I, .nil, h⟩
theorem pac_cons {tr : TA} (ha : PEc X e te) (hr : PAc X es tr) (hs : starEach (e :: es) X.env = (false, eval e X.env) :: starEach es X.env := by rfl) : PAc X (e :: es) (tCons te tr) := by
  intro pos pins s σ H Q I h
  rw [hs]
  show wpAny _ _ (spliced ((false, eval e X.env) :: backTo pos (starEach es X.env))) _ _ s
  refine Calls.spliced_cons (thn (ha pins s σ H _ I h) fun v s1 ⟨k1, x, H1, I1, r1, q1⟩ => ?_)
  exact thn (hr pos pins s1 σ H1 _ I1 q1) fun us s2 ⟨k2, xs, H2, I2, r2, q2⟩ => ⟨k1.trans k2, x :: xs, H2, I2, .cons r1 r2, q2⟩
theorem pec_df {k : Nat} {ps : List Str} {sp : Sp} {x : Str} {p pos : Pos} {e : Expr} {es : List Expr} {t : TA} (D : Df X.prog X.w X.K X.mg X.base x ps k sp) (hr : Room k X.A) (hg : Gl X x)
    (ha : PAc X (e :: es) t) (hdb : (x == ("__debug__" : Str)) = false := by decide) (he : starEach (e :: es) X.env = (false, eval e X.env) :: starEach es X.env := by rfl) (hpl : (backTo pos (starEach es X.env)).any (·.1) = false := by rfl) :
    PEc X (.Call (.Name x p) (e :: es) [] pos) (tCall sp [] E0 t) := by
  obtain ⟨f, fd, hm, hk, hb, F⟩ := D
  intro pins s σ H Q I h
  refine wpAny_Call_Name_kw (ld_glob I hg hm ?_ hdb)
  refine PySem.W.callWith_K (h₀ := X.base) I.ok.mod.kin hk (thn (ha pos pins s σ H _ I h) fun us s1 ⟨k1, vs, H1, I1, r, q⟩ => ⟨I1.kIn, ?_⟩) he hpl
  have r2 : Vals (vs ++ []) (us ++ []) := r.append .nil
  have hl : (us ++ []).length = ps.length := by rw [← r2.length]; exact F.len _ _ _ _ q
  refine wpAny_call (codeAny_mono (F.run X.A X.stack s1 H1 ⟨us, []⟩ (us ++ []) (vs ++ []) Q E0 hr I1.env0 (hb s1 us I1.kIn hl) r2 q) fun r s' hq => ?_)
  cases r with
  | error e => exact pass0 pins σ H1 s1 e s' I1 hq
  | ok fl =>
    cases fl with
    | ret u =>
      refine ⟨k1.trans fun y c w ec ic => ?_, I1.after hq⟩
      obtain ⟨v, H', os, bare, un, hok, _, _⟩ := hq
      obtain ⟨o, ho, hd⟩ := ic
      obtain ⟨sl, hs⟩ := un.any ho (I1.freeC y c ec) (by simp)
      exact ⟨_, hs, hd⟩
    | next => exact False.elim hq
    | brk => exact False.elim hq
    | cont => exact False.elim hq
end

/-- statements behind which the texts of L are known by their tokens -/
def PSsX (X : Cx) (L : List (Nat × Str)) (st : List Stmt) (t : TS) : Prop :=
  ∀ (pins : List (Addr × Obj)) (s : Shared) (σ : L2.St) (H : Hp) (D : Ends), 1 ≤ s.toks → Toks X L σ s → Inv X pins σ H s → t D σ H → wpAny (model X.prog X.w) X.A (execs st X.env) (SP X pins D) X.xe s
section
variable {X : Cx} {L : List (Nat × Str)} {rest : List Stmt} {u : TS}
theorem PSsX.of (h : PSs X rest u) : PSsX X L rest u := fun pins s σ H D _ _ I q => h.run pins s σ H D I q
theorem PSsX.toT (h : PSsX X [] rest u) : PSsT X rest u := fun pins s σ H D h0 I q => h pins s σ H D h0 (fun p hp => absurd hp (by simp)) I q

/-- a name of a cell is stored: what its cell holds -/
theorem store_cell {i : Nat} {x : Str} {v : V} {u : Value} {pins : List (Addr × Obj)} {σ : L2.St} {H : Hp} {s : Shared} {M : Model} {A : Around} {E : Value → Shared → Prop} (I : Inv X pins σ H s) (hN : X.N.Nodup) (hi : X.N[i]? = some x) (hk : X.env.scope.names.lookup x = some .cell)
    (hfn : X.fn x = true) (r : RelV v u) {Q : Unit → Shared → Prop}
    (h : ∀ s', Inv X pins (σ.set i (some v)) H s' → (∃ c, X.env.cells.lookup x = some c ∧ s'.heap.IsCell c (some u) ∧ Heap.SameBut c s.heap s'.heap) → s'.toks = s.toks → Q () s') : wpAny M A (storeName X.env x u) Q E s := by
  obtain ⟨c, hc⟩ := I.ok.has x (.inl hk)
  obtain ⟨w', z⟩ := I.cell x c hc
  have h1 : wpAny M A (storeName X.env x u) (fun _ s' => Inv X pins (σ.set i (some v)) H s') E s := store_ok I hN hi (.inr hk) r (fun _ I' => I') (.inl hfn)
  have hl : X.env.kindOf x = some .cell := hk
  obtain ⟨o, ho, hd⟩ := z
  have e : storeName X.env x u = PySem.cellSet c (some u) := by
    have e2 : PySem.cellOf X.env x = pure c := by unfold PySem.cellOf; rw [hc]
    have e1 : storeName X.env x u = (PySem.cellOf X.env x >>= fun c' => PySem.cellSet c' (some u)) := by unfold storeName; simp only [hl, I.ok.kind]; rfl
    rw [e1, e2]
    rfl
  intro Γ p hΓ
  have a := h1 Γ p hΓ
  rw [e] at a ⊢
  unfold cellSet at a ⊢
  rw [Sem.wp_bind', Sem.wp_load_of M Γ _ p s ho _] at a ⊢
  simp only [hd] at a ⊢
  rw [Sem.wp_cmd_update] at a ⊢
  exact ⟨a.1, h _ a.2 ⟨c, hc, ⟨{ o with data := .cell (some u) }, Heap.get?_update_self _ ho rfl, rfl⟩, Heap.SameBut.update ..⟩ rfl⟩

/-- x = z[n] of a text: the cell's text is new -/
theorem psx_ixs {i : Nat} {x : Str} {a b : Expr} {ta tb : TE} {pos pos' p : Pos} (hN : X.N.Nodup) (hi : X.N[i]? = some x) (hk : X.env.scope.names.lookup x = some .cell) (hfn : X.fn x = true) (hL : ∀ p ∈ L, p.1 ≠ i ∧ p.2 ≠ x)
    (ha : PEc X a ta) (hb : PEc X b tb) (hpl : PlainIxT b) (h2 : PSsX X ((i, x) :: L) rest u) (hs : swapsWith (.Subscript a b p) (some (.Name x pos')) pos.line X.env = pure false := by rfl) :
    PSsX X L (.Assign [.Name x pos'] (.Subscript a b p) pos :: rest)
      (tSeq (tAsg (tOp rIxS ta tb) (gName i)) u) := by
  intro pins s σ H D h0 hT I h
  refine wpAny_execs_cons (wpAny_Assign_Name (Subscript_ ?_) hs)
  refine wpAny_mono (PySem.wpAny_toks (ha pins s σ H _ I h)) (fun v s1 q => ?_) fun _ _ z => z.2
  obtain ⟨k1, c1, y, H1, I1, r1, q1⟩ := q
  refine wpAny_mono (PySem.wpAny_toks (hb pins s1 σ H1 _ I1 q1)) (fun w s2 q => ?_) fun _ _ z => z.2
  obtain ⟨k2, c2, y2, H2, I2, r2, q2⟩ := q
  obtain ⟨z, n, c, rfl, rfl, hz, hc, q⟩ := q2
  obtain ⟨t, rfl⟩ := r1
  obtain ⟨t', rfl⟩ := r2
  obtain ⟨j, j1, j2, j3, j4, j5⟩ := atI_get hc
  rw [show z.cps.toList.length = z.length by simp [Str.length]] at j1 j4 j5
  have hn := line63
  refine tail_any (typeIs_str s2 z t) slot_str_getitem.lookup (getItem_str (c := c) (by
    have e1 : decide (n < -(2 ^ 63 : Int)) = false := decide_eq_false (by omega)
    have e2 : decide (n ≥ 2 ^ 63) = false := decide_eq_false (by omega)
    rw [e1, e2, Bool.or_false]) (by rw [j1]; simpa using j2) ?_) (hpl _ _)
  refine store_cell (v := .str ⟨#[c]⟩) (I2.tok (s2.toks + 1)) hN hi hk hfn ⟨_, rfl⟩ fun s' I' hcell ht => ?_
  have ht : s'.toks = s2.toks + 1 := ht
  refine h2 pins s' _ H2 D (by omega) (fun p hp => ?_) I' q
  obtain ⟨d, hd, ic, sb⟩ := hcell
  have hσ : i < σ.length := by rw [I.len]; exact (List.getElem?_eq_some_iff.mp hi).1
  rcases List.mem_cons.mp hp with rfl | hp
  · exact ⟨⟨#[c]⟩, List.getElem?_set_self hσ, d, s2.toks, hd, ic, (show s2.toks ≠ 0 by omega), (show s2.toks < s'.toks by omega)⟩
  · obtain ⟨v, e1, tk⟩ := hT p hp
    obtain ⟨n1, n2⟩ := hL p hp
    refine ⟨v, by rw [List.getElem?_set_ne (Ne.symm n1)]; exact e1, ?_⟩
    obtain ⟨d', t3, hd', ic', t0, t1⟩ := tk
    have ic2 : s2.heap.IsCell d' (some (.str v t3)) := c2 _ _ _ hd' (c1 _ _ _ hd' ic')
    refine ⟨d', t3, hd', ic2.sameBut sb (fun z => n2 (I.ok.inj _ _ _ hd' (z ▸ hd))), t0, Nat.lt_of_lt_of_le t1 (show s.toks ≤ s'.toks by omega)⟩

/-- expressions that read texts by their tokens -/
def PEk (X : Cx) (L : List (Nat × Str)) (e : Expr) (te : TE) : Prop := ∀ (pins : List (Addr × Obj)) (s : Shared) (σ : L2.St) (H : Hp) (Q : VK), 1 ≤ s.toks → Toks X L σ s → Inv X pins σ H s → te σ H Q →
  wpAny (model X.prog X.w) X.A (eval e X.env) (fun v s' => StayC X s s' ∧ EP X pins σ Q v s') X.xe s
theorem PEk.of {e : Expr} {te : TE} (h : PEc X e te) : PEk X L e te := fun pins s σ H Q _ _ I q => h pins s σ H Q I q
theorem raw_tok {x v : Str} {pos : Pos} {s : Shared} {Q E : Value → Shared → Prop} (ok : X.Ok) (hT : TokC X s x v) (hk : X.env.kindOf x = some .cell ∨ X.env.kindOf x = some .free) (fin : ∀ t, t ≠ 0 → t < s.toks → Q (.str v t) s)
    (hd : (x == ("__debug__" : Str)) = false := by decide) (hcd : (x == ("__classdict__" : Str)) = false := by decide) : wpAny (model X.prog X.w) X.A (eval (.Name x pos) X.env) Q E s := by
  obtain ⟨c, t, hc, ic, h0, h1⟩ := hT
  rcases hk with hk | hk
  · exact wpAny_Name (wpAny_loadName_cell ok.kind hk hc ic (fin t h0 h1)) hd
  · exact wpAny_Name (wpAny_loadName_free ok.kind hk hc ic (fin t h0 h1) hcd) hd
def tRp (i : Nat) (to : TE) : TE := fun σ H Q => to σ H fun v H1 => ∃ a b : Str, v = .str a ∧ σ[i]? = some (some (.str b)) ∧ (b == ("" : Str)) = false ∧ a.length ≤ 100000 ∧ Q (.str (Txt.replace a b "")) H1
theorem pek_repl {i j : Nat} {x : Str} {o : Expr} {to : TE} {p1 c0 apos pos : Pos} (hm : (i, x) ∈ L) (hk : X.env.kindOf x = some .cell ∨ X.env.kindOf x = some .free) (ho : PEk X L o to)
    (hd : (x == ("__debug__" : Str)) = false := by decide) (hcd : (x == ("__classdict__" : Str)) = false := by decide)
    (hst : starEach [.Name x p1, .Constant (.str ("" : Str)) j c0] X.env = [(false, eval (.Name x p1) X.env), (false, eval (.Constant (.str ("" : Str)) j c0) X.env)] := by rfl)
    (hbase : attributeBase o "replace" X.env (eval o X.env) = eval o X.env := by rfl) (hline : (apos.endLine == pos.line) = true := by rfl) :
    PEk X L (.Call (.Attribute o "replace" apos) [.Name x p1, .Constant (.str ("" : Str)) j c0] [] pos) (tRp i to) := by
  intro pins s σ H Q h0 hT I h
  refine PySem.Call_method2 hbase hst hline (wpAny_mono (PySem.wpAny_toks (ho pins s σ H _ h0 hT I h)) (fun v s1 q => ?_) fun _ _ z => z.2)
  obtain ⟨k1, st1, v', H1, I1, r1, a, b, e1, e2, hb, hz, q⟩ := q
  subst e1
  obtain ⟨tx, e3⟩ := r1
  subst e3
  obtain ⟨v, e4, tk⟩ := hT (i, x) hm
  have e5 : v = b := by
    have e6 : σ[i]? = some (some (.str v)) := e4
    rw [e2] at e6
    cases e6
    rfl
  subst e5
  refine ⟨"str", _, PySem.F.plainAttrs_str, PySem.F.slot_str_replace, PySem.F.type_str_replace, typeIs_str _ _ _, (fun _ e => nomatch e), Calls.callWith_builtin rfl (Calls.evalArgs_plain (Calls.spliced_cons ?_))⟩
  refine raw_tok I1.ok (tk.keep st1 k1) hk (fun t t0 t1 => ?_) hd hcd
  refine Calls.spliced_cons (Calls.Constant_str (Calls.spliced_nil ?_))
  have hz2 : a.length + (a.length + 1) * ("" : Str).length ≤ 16777216 := by
    show a.length + (a.length + 1) * 0 ≤ 16777216
    omega
  exact PySem.SC.replace t0 (show s1.toks ≠ 0 by omega) (show t ≠ s1.toks by omega) hb hz2 fun t' k => ⟨fun y c w ec ic => st1 y c w ec ic, .str (Txt.replace a v ""), H1, I1.tok k, ⟨t', rfl⟩, q⟩
/-- e[n] of a text -/
theorem pek_ixs {a b : Expr} {ta tb : TE} {p : Pos} (ha : PEk X L a ta) (hb : PEc X b tb) (hpl : PlainIxT b) :
    PEk X L (.Subscript a b p) (tOp rIxS ta tb) := by
  intro pins s σ H Q h0 hT I h
  refine Subscript_ (thn (ha pins s σ H _ h0 hT I h) fun v s1 ⟨c1, y, H1, I1, r1, q1⟩ => thn (hb pins s1 σ H1 _ I1 q1) fun w s2 ⟨c2, y2, H2, I2, r2, q2⟩ => ?_)
  obtain ⟨z, n, c, rfl, rfl, hz, hc, q⟩ := q2
  obtain ⟨t, rfl⟩ := r1
  obtain ⟨t', rfl⟩ := r2
  obtain ⟨j, j1, j2, j3, j4, j5⟩ := atI_get hc
  rw [show z.cps.toList.length = z.length by simp [Str.length]] at j1 j4 j5
  have hn := line63
  exact tail_any (typeIs_str s2 z t) slot_str_getitem.lookup (getItem_str (c := c) (by
    have e1 : decide (n < -(2 ^ 63 : Int)) = false := decide_eq_false (by omega)
    have e2 : decide (n ≥ 2 ^ 63) = false := decide_eq_false (by omega)
    rw [e1, e2, Bool.or_false]) (by rw [j1]; simpa using j2) ⟨fun y c w ec ic => c2 y c w ec (c1 y c w ec ic), .str ⟨#[c]⟩, H2, I2.tok _, ⟨_, rfl⟩, q⟩) (hpl _ _)
/-- n = e, n a local -/
theorem psx_set {i : Nat} {n : Str} {e : Expr} {te : TE} {pos pos' : Pos} (hN : X.N.Nodup) (hi : X.N[i]? = some n) (hl : X.env.scope.names.lookup n = some .local) (hL : ∀ p ∈ L, p.1 ≠ i ∧ p.2 ≠ n) (he : PEk X L e te) (h2 : PSsX X L rest u)
    (hs : swapsWith e (some (.Name n pos')) pos.line X.env = pure false := by rfl) : PSsX X L (.Assign [.Name n pos'] e pos :: rest) (tSeq (tAsg te (gName i)) u) := by
  intro pins s σ H D h0 hT I h
  refine wpAny_execs_cons (wpAny_Assign_Name ?_ hs)
  refine wpAny_mono (PySem.wpAny_toks (he pins s σ H _ h0 hT I h)) (fun v s1 q => ?_) fun _ _ z => z.2
  obtain ⟨k1, c1, y, H1, I1, r1, q1⟩ := q
  refine wpAny_mono (PySem.wpAny_toks (store_ok2 (Q := fun _ s2 => Inv X pins (σ.set i (some y)) H1 s2 ∧ ∃ a, Heap.SameBut a s1.heap s2.heap ∧ (a = X.env.locals ∨ X.env.cells.lookup n = some a)) I1 hN hi (.inl hl) r1 (fun s2 I2 sb => ⟨I2, sb⟩) (.inr hl))) (fun _ s2 q => ?_) fun _ _ z => z.2
  obtain ⟨k2, I2, a, sb, ha⟩ := q
  refine h2 pins s2 _ H1 D (by omega) (fun p hp => ?_) I2 q1
  obtain ⟨v2, e1, tk⟩ := hT p hp
  obtain ⟨n1, n2⟩ := hL p hp
  refine ⟨v2, by rw [List.getElem?_set_ne (Ne.symm n1)]; exact e1, ?_⟩
  obtain ⟨d, t, hd, ic, t0, t1⟩ := tk
  refine ⟨d, t, hd, (c1 _ _ _ hd ic).sameBut sb (fun z => ?_), t0, Nat.lt_of_lt_of_le t1 (show s.toks ≤ s2.toks by omega)⟩
  rcases ha with rfl | ha
  · exact I1.cne _ _ hd z
  · exact n2 (I.ok.inj _ _ _ hd (z ▸ ha))

/-! ### a comprehension whose item reads texts by their tokens -/
theorem pec_lst {es : List Expr} {ta : TA} {pos : Pos} (h : PAc X es ta) : PEc X (.List es pos) (tLst ta) := by
  intro pins s σ H Q I hq
  refine wpAny_List_spliced (thn (h pos pins s σ H _ I hq) fun us s1 ⟨c1, xs, H1, I1, r, z, q⟩ => ⟨by rw [← r.length]; exact z, ?_⟩)
  have hf : H1 s1.heap.objs.size = none := I1.hok.fresh (Nat.le_refl _)
  refine ⟨c1.trans fun y c w _ ic => ic.keeps fun b o e => Heap.get?_push_of_some _ e, .ref s1.heap.objs.size, upd H1 s1.heap.objs.size (.lst xs), I1.laid (t' := s1.toks) (fun b u e => Heap.get?_push_of_some _ e) (Nat.le_refl _) ?_, rfl, q _ hf⟩
  exact ⟨z, us, 0, r, Heap.get?_push_size _ rfl⟩
def PIc (X : Cx) (tg iter : Expr) (wi : TI) : Prop :=
  ∀ (pins : List (Addr × Obj)) (s : Shared) (σ : L2.St) (H : Hp) (R : It → Hp → Prop), Inv X pins σ H s → wi σ H R →
    wpAny (model X.prog X.w) X.A (eval iter X.env) (fun v s1 => wpAny (model X.prog X.w) X.A (pyIter v) (fun it s2 => StayC X s s2 ∧ PIE X pins σ tg R it s2) X.xe s1) X.xe s
theorem pic_list {tg l : Expr} {tl : TE} (hl : PEc X l tl) : PIc X tg l (iList X.K tl) := by
  intro pins s σ H R I h
  refine thn (hl pins s σ H _ I h) fun v s1 ⟨c1, x, H1, I1, r1, a, e, ⟨xs, hq⟩, q⟩ => ?_
  subst e
  cases r1
  obtain ⟨its, rv, p, hz⟩ := I1.list hq
  refine wpAny_pyIter_list p.isList ⟨c1.trans fun y c w _ ic => ic.keeps fun b o e => Heap.get?_push_of_some _ e, ?_⟩
  refine ⟨s1.heap.objs.size, [s1.heap.objs.size], _, _, H1, rfl, I1.kept (t' := s1.toks) fun b o e => Heap.get?_push_of_some _ e, turn_list a _, ⟨_, Heap.get?_push_size _ rfl, rfl, rfl⟩, fun b hb => ?_, q⟩
  have e : b = s1.heap.objs.size := by simpa using hb
  subst e
  exact I1.fpOk (Nat.le_refl _) (I1.hok.fresh (Nat.le_refl _))

theorem wipe_off {σ : L2.St} {i : Nat} : ∀ {vs : List Nat}, i ∉ vs → (wipe σ vs)[i]? = σ[i]?
  | [], _ => rfl
  | v :: vs, h => by
    unfold wipe
    rw [List.getElem?_set_ne (fun e => h (by rw [e]; exact List.mem_cons_self)), wipe_off fun z => h (List.mem_cons_of_mem _ z)]
/-- a captured name's cell in the block is the def's own -/
theorem blk_cell {scope : Scope} {own : List (Str × Nat)} {h : Heap} {x : Str} {c : Addr} (ok : BlkOk X.N X.env.scope scope own) (hx : scope.names.lookup x = some .free) (hc : X.env.cells.lookup x = some c) :
    (cellsFrom (h.objs.size + 1) scope.names (cloFrom X.env.cells scope.names [])).lookup x = some c := by
  have hy : (x, NameKind.free) ∈ scope.names := PySem.mem_of_lookup hx
  rw [← Heap.size_push h { cls := .type "dict", data := .dict #[] }]
  obtain ⟨c', e'⟩ := mem_lookup (cells_acc (names := scope.names) (n := (h.push { cls := .type "dict", data := .dict #[] }).objs.size) (cloFrom_has (cells := X.env.cells) (acc := []) hy))
  rw [e']
  rcases cells_mem (PySem.mem_of_lookup e') with hm | ⟨h1, _, _⟩
  · rcases cloFrom_mem hm with hm | ⟨_, rfl⟩
    · cases hm
    · rw [hc]
      rfl
  · have := ok.uniq _ h1
    rw [hx] at this
    cases this
theorem thnT {α : Type} {t : Sem α} {Q Q' : α → Shared → Prop} {M : Model} {A : Around} {E : Value → Shared → Prop} {s : Shared} (h : wpAny M A t Q (fun _ _ => False) s) (hQ : ∀ a s', s.toks ≤ s'.toks → Q a s' → Q' a s') : wpAny M A t Q' E s :=
  wpAny_mono (PySem.wpAny_toks h) (fun a s' z => hQ a s' z.1 z.2) fun _ _ z => False.elim z.2

def PSk (X : Cx) (L : List (Nat × Str)) (st : Stmt) (t : TS) : Prop :=
  ∀ (pins : List (Addr × Obj)) (s : Shared) (σ : L2.St) (H : Hp) (D : Ends), 1 ≤ s.toks → Toks X L σ s → Inv X pins σ H s → t D σ H → wpAny (model X.prog X.w) X.A (exec st X.env) (SP X pins D) X.xe s
theorem psx_last {st : Stmt} {t : TS} (h1 : PSk X L st t) (h2 : PSs X rest u) : PSsX X L (st :: rest) (tSeq t u) := by
  intro pins s σ H D h0 hT I h
  refine wpAny_execs_cons (thn (h1 pins s σ H { D with nx := u D } h0 hT I h) fun f s1 q => ?_)
  cases f with
  | next =>
    obtain ⟨σ', H', I', q⟩ := q
    exact h2.run pins s1 σ' H' D I' q
  | ret v => exact q
  | brk => exact q
  | cont => exact q

/-- the texts of L, seen from the block -/
theorem blk_toks {pins : List (Addr × Obj)} {σ σ' : L2.St} {H3 H' : Hp} {s s3 s' : Shared} {scope : Scope} {own : List (Str × Nat)} {C : Addr} {fp : List Addr} {ps : List (Addr × Obj)}
    (ok : BlkOk X.N X.env.scope scope own) (hL : ∀ p ∈ L, scope.names.lookup p.2 = some .free ∧ p.1 ∉ own.map (·.2)) (hT : Toks X L σ s) (st : StayC X s s3) (I3 : Inv X pins σ H3 s3) (f3 : ∀ b ∈ fp, FpOk X pins H3 b)
    (I' : Inv (X.blk s3 H3 scope (compEnvC scope (cellsFrom (s3.heap.objs.size + 1) scope.names (cloFrom X.env.cells scope.names [])) C X.env) fp) ps σ' H' s') (hw : wipe σ' (own.map (·.2)) = wipe σ (own.map (·.2))) (ht : s.toks ≤ s'.toks) :
    Toks (X.blk s3 H3 scope (compEnvC scope (cellsFrom (s3.heap.objs.size + 1) scope.names (cloFrom X.env.cells scope.names [])) C X.env) fp) L σ' s' := by
  intro p hp
  obtain ⟨v, e1, c, t, hc, ic, t0, t1⟩ := hT p hp
  obtain ⟨hx, hi⟩ := hL p hp
  refine ⟨v, ?_, c, t, blk_cell ok hx hc, ?_, t0, Nat.lt_of_lt_of_le t1 ht⟩
  · rw [← wipe_off (σ := σ') hi, hw, wipe_off hi]
    exact e1
  · obtain ⟨o, ho, hd⟩ := st _ _ _ hc ic
    obtain ⟨sl, hs⟩ := I'.base.any (b := c) (ob := o) ho (I3.freeC _ _ hc) (fun z => (f3 c z).2.2.2.2.1 _ _ hc rfl)
    exact ⟨_, hs, hd⟩

/-- the block's run: as lc_core, the tokens kept along -/
theorem lc_tok {pins : List (Addr × Obj)} {s : Shared} {σ : L2.St} {H : Hp} {Q : VK} {elt tg iter : Expr} {scope : Scope} {own : List (Str × Nat)} {pos pos' : Pos} {wi : TI} {g : TG} {te : TE} {use : Option (Value → Sem Unit)} {Qf : Value → Shared → Prop}
    (hc : X.calm = true) (hN : X.N.Nodup) (h0 : 1 ≤ s.toks) (hT : Toks X L σ s) (I : Inv X pins σ H s) (hi : PIc X tg iter wi) (ok : BlkOk X.N X.env.scope scope own) (hL : ∀ p ∈ L, scope.names.lookup p.2 = some .free ∧ p.1 ∉ own.map (·.2))
    (hg : ∀ (s : Shared) (H : Hp) (C : Addr) (cl : List (Str × Addr)) (fp : List Addr), PG (X.blk s H scope (compEnvC scope cl C X.env) fp) tg g)
    (he : ∀ (s : Shared) (H : Hp) (C : Addr) (cl : List (Str × Addr)) (fp : List Addr), PEk (X.blk s H scope (compEnvC scope cl C X.env) fp) L elt te) (hs : ∀ x, foldedSetIterable iter X.env x = pure x)
    (h : tLc wi g tYes te (own.map (·.2)) σ H Q)
    (fin : ∀ D C s' m H', Inv X pins σ H' s' → Q (.ref D) H' → s'.heap.Ns C m → FpOk X pins H' C → compPost (model X.prog X.w) X.A X.xe use Qf (.ref D) C (.ok .next) s') :
    wpAny (model X.prog X.w) X.A (comprehension (.ListComp elt [⟨tg, iter, [], 0⟩] scope pos) scope X.env pos' (newList []) false (eval iter X.env) use) Qf X.xe s := by
  have hfree : ∀ y ∈ scope.names, y.2 = .free → ∃ c, X.env.cells.lookup y.1 = some c := fun y hy e => I.ok.has _ (ok.free y hy e)
  refine wpAny_comprehension_free (use := use) rfl hs (closure_ok hfree) ok.kind (fun y hy e => by rw [ok.uniq y hy, e])
    (wpAny_mono (PySem.wpAny_toks (hi pins s σ H _ I h)) (fun xv s1 hx => wpAny_mono (PySem.wpAny_toks hx.2) (fun itv s2 h2 => ?_) fun _ _ z => z.2) fun _ _ z => z.2)
  obtain ⟨k2, c2, it, fp, tn, J, H2, e, I2, T, st2, f2, q⟩ := h2
  have k1 := hx.1
  subst e
  refine wpAny_newObj_type (newEnv_comp ?_) (by show 0 ≤ sizeLine; decide)
  generalize hD : s2.heap.objs.size = D
  have hDn : H2 D = none := I2.hok.fresh (Nat.le_of_eq hD)
  obtain ⟨W, ⟨m0, w0⟩, turn⟩ := q D hDn
  generalize hs3 : ({ s2 with heap := s2.heap.push { cls := .type "list", data := .seq ([] : List Value).toArray } } : Shared) = s3
  have h3 : s3.heap = s2.heap.push { cls := .type "list", data := .seq ([] : List Value).toArray } := by rw [← hs3]
  have k3 : s3.toks = s2.toks := by rw [← hs3]
  have c3 : StayC X s s3 := c2.trans fun y c w _ ic => ic.keeps fun b o e => by rw [h3]; exact Heap.get?_push_of_some _ e
  have I3 : Inv X pins σ (upd H2 D (.lst [])) s3 := by
    rw [← hs3]
    refine I2.laid (t' := s2.toks) (fun b o e => Heap.get?_push_of_some _ e) (Nat.le_of_eq hD) ⟨Nat.zero_le _, [], 0, .nil, ?_⟩
    rw [← hD]
    exact Heap.get?_push_size _ rfl
  have f3 : ∀ b ∈ fp, FpOk X pins (upd H2 D (.lst [])) b ∧ b < s3.heap.objs.size := fun b hb => by
    obtain ⟨o, e, _⟩ := T.obj _ _ st2 b hb
    have hlt := Heap.lt_size e
    refine ⟨⟨?_, (f2 b hb).2⟩, by rw [h3, Heap.size_push]; exact Nat.lt_succ_of_lt hlt⟩
    rw [upd_ne (by rw [← hD]; exact Nat.ne_of_lt hlt)]
    exact (f2 b hb).1
  have I4 := block_start I3 ok hN f3
  have st4 : tn 0 (pushCells (s3.heap.push { cls := .type "dict", data := .dict #[] }) scope.names) :=
    T.keep _ _ _ (T.keep _ _ _ st2 fun b _ o e => by rw [h3]; exact Heap.get?_push_of_some _ e) fun b hb o e => pushCells_keeps _ _ _ _ (Heap.get?_push_of_some _ e)
  have nfp : ∀ b ∈ fp, (upd H2 D (.lst [])) b = none := fun b hb => (f3 b hb).1.1
  generalize hH3 : upd H2 D (.lst []) = H3 at I3 I4 w0 nfp f3
  have pg := hg s3 H3 s3.heap.objs.size (cellsFrom (s3.heap.objs.size + 1) scope.names (cloFrom X.env.cells scope.names [])) fp
  have pe := he s3 H3 s3.heap.objs.size (cellsFrom (s3.heap.objs.size + 1) scope.names (cloFrom X.env.cells scope.names [])) fp
  have tok : ∀ {σ' : L2.St} {H' : Hp} {s' : Shared} {ps : List (Addr × Obj)}, Inv (X.blk s3 H3 scope (compEnvC scope (cellsFrom (s3.heap.objs.size + 1) scope.names (cloFrom X.env.cells scope.names [])) s3.heap.objs.size X.env) fp) ps σ' H' s' →
      wipe σ' (own.map (·.2)) = wipe σ (own.map (·.2)) → s3.toks ≤ s'.toks → Toks (X.blk s3 H3 scope (compEnvC scope (cellsFrom (s3.heap.objs.size + 1) scope.names (cloFrom X.env.cells scope.names [])) s3.heap.objs.size X.env) fp) L σ' s' :=
    fun {σ' H' s' ps} I' hw ht => blk_toks ok hL hT c3 I3 (fun b hb => (f3 b hb).1) I' hw (by omega)
  show codeAny _ _ (.compStart (.ListComp elt [⟨tg, iter, [], 0⟩] scope pos) 0 (.ref it) (.ref D) (compEnvC scope (cellsFrom (s3.heap.objs.size + 1) scope.names (cloFrom X.env.cells scope.names [])) s3.heap.objs.size X.env)) (compPost (model X.prog X.w) X.A X.xe use Qf (.ref D) s3.heap.objs.size) { s3 with heap := pushCells (s3.heap.push { cls := .type "dict", data := .dict #[] }) scope.names }
  generalize hce : compEnvC scope (cellsFrom (s3.heap.objs.size + 1) scope.names (cloFrom X.env.cells scope.names [])) s3.heap.objs.size X.env = ce at I4 pg pe tok ⊢
  have cL : ce.locals = s3.heap.objs.size := by subst hce; rfl
  generalize hs4 : ({ s3 with heap := pushCells (s3.heap.push { cls := .type "dict", data := .dict #[] }) scope.names } : Shared) = s4 at I4 ⊢
  have k4 : s4.toks = s3.toks := by rw [← hs4]
  have st4 : tn 0 s4.heap := by rw [← hs4]; exact st4
  have stat : ∀ {σ' : L2.St} {H' : Hp} {s' : Shared}, Inv (X.blk s3 H3 scope ce fp) [] σ' H' s' → (∀ b ∈ fp, H' b = none) → ∀ b ∈ fp, FpOk (X.blk s3 H3 scope ce fp) [] H' b := fun {σ' H' s'} I' hn b hb =>
    ⟨hn b hb, (I'.ok.exf b hb).1, I'.ok.exfs b hb, .inl hb, fun x c e => (I'.ok.exf b hb).2 x c e, fun p hp => absurd (show p ∈ ([] : List (Addr × Obj)) ++ [] from hp) (by simp)⟩
  have loop : codeAny (model X.prog X.w) X.A (.compLoop (.ListComp elt [⟨tg, iter, [], 0⟩] scope pos) 0 (.ref it) (.ref D) ce) (compPost (model X.prog X.w) X.A X.xe use Qf (.ref D) s3.heap.objs.size) s4 := by
    refine compLoop_any (fun n s' => s3.toks ≤ s'.toks ∧ ∃ i H', Inv (X.blk s3 H3 scope ce fp) [] (wipe σ (own.map (·.2))) H' s' ∧ tn i s'.heap ∧ (∀ b ∈ fp, H' b = none) ∧ W i n H') ?_ m0 ⟨by omega, 0, H3, I4, st4, nfp, w0⟩
    rintro n s5 ⟨k5, i, H5, I5, st5, n5, w5⟩
    rcases turn i n H5 w5 with ⟨stop, qq⟩ | ⟨go, Nx, hNx, step⟩
    · refine thnF (T.done (X.blk s3 H3 scope ce fp) rfl rfl rfl hc i [] s5 _ H5 (fun _ _ => False) I5 (stat I5 n5) st5 stop) fun r s6 ⟨hr, I6⟩ => ?_
      subst hr
      have I7 : Inv X pins σ H5 s6 := I3.call' (ch := fp) I6.os I6.base I6.hok I6.bare fun b hb => ⟨(f3 b hb).1.2.2.2.1, (f3 b hb).1.2.1, (f3 b hb).1.2.2.2.2.1, (f3 b hb).1.2.2.2.2.2⟩
      have nC : H5 s3.heap.objs.size = none := by
        have z : H5 ce.locals = none := I6.free
        rwa [cL] at z
      obtain ⟨m, hn, _⟩ := I6.loc
      have hn : s6.heap.Ns ce.locals m := hn
      rw [cL] at hn
      exact fin D s3.heap.objs.size s6 m H5 I7 qq hn (I3.fpOk (Nat.le_refl _) nC)
    · refine thnT (T.item (X.blk s3 H3 scope ce fp) rfl rfl rfl hc i [] s5 _ H5 (fun _ _ => False) I5 (stat I5 n5) st5 go) fun r s6 k6 ⟨u, hr, h6⟩ => ?_
      subst hr
      refine thnT h6 fun _ s7 k7 ⟨x, H7, I7, r7, y7, st7, n7⟩ => ?_
      have I7' := I7.pinned (stat I7 n7) (T.obj _ _ st7)
      refine thnT (pg.run _ s7 _ H7 x u _ I7' r7 (step x H7 y7)) fun _ s8 k8 ⟨σ8, H8, I8, hw8, q8⟩ => ?_
      refine wpAny_tests_nil ?_
      have q8 : te σ8 H8 fun y H4 => ∃ acc, H4 D = some (.lst acc) ∧ acc.length < sizeLine ∧ Nx (upd H4 D (.lst (acc ++ [y]))) := q8
      simp only [if_true]
      refine thnT (pe _ s8 σ8 H8 _ (by omega) (tok I8 hw8 (by omega)) I8 q8) fun z s9 k9 ⟨_, yv, H10, I10, r10, acc, hD10, hz10, nx⟩ => ?_
      refine wpAny_mono (PySem.wpAny_toks (app_ok (X := X.blk s3 H3 scope ce fp) (E := fun _ _ => False) (Q := fun _ s' => Inv (X.blk s3 H3 scope ce fp) ([] ++ pinsAt fp s7.heap) σ8 (upd H10 D (.lst (acc ++ [yv]))) s') I10 hD10 hz10 r10 fun s11 I11 => I11)) (fun _ s11 ⟨k11, I11⟩ => ?_) fun _ _ z => False.elim z.2
      obtain ⟨m', hm, w'⟩ := hNx _ nx
      have pin' : ∀ b ∈ fp, ∀ o, s7.heap.get? b = some o → s11.heap.get? b = some o ∧ (upd H10 D (.lst (acc ++ [yv]))) b = none := fun b hb o e =>
        let z := I11.pin (b, o) (List.mem_append_right _ (List.mem_append_right _ (mem_pinsAt hb e)))
        ⟨z.1, z.2.1⟩
      have hl : (wipe σ (own.map (·.2))).length = σ8.length := by rw [← hw8, wipe_length]
      refine ⟨m', hm, by omega, i + 1, _, (I11.unpinned (pins := [])).weak hl (fun j v e => ?_), T.keep _ _ _ st7 fun b hb o e => (pin' b hb o e).1, fun b hb => ?_, w'⟩
      · rw [← hw8] at e
        exact (wipe_some e).1
      · obtain ⟨o, e, _⟩ := T.obj _ _ st7 b hb
        exact (pin' b hb o e).2
  exact codeAny_compStart_list loop (T.self X.A 0 _ _ _ st4 loop)

/-- y = [elt for tg in iter], y a local, the item by tokens -/
theorem psk_setLc {i : Nat} {y : Str} {py : Pos} {elt tg iter : Expr} {scope : Scope} {own : List (Str × Nat)} {pos spos : Pos} {wi : TI} {g : TG} {te : TE} (hc : X.calm = true) (hN : X.N.Nodup) (hy : X.N[i]? = some y) (hyl : X.env.scope.names.lookup y = some .local)
    (hsw : swapsWith (.ListComp elt [⟨tg, iter, [], 0⟩] scope pos) (some (.Name y py)) spos.line X.env = pure true) (hi : PIc X tg iter wi) (ok : BlkOk X.N X.env.scope scope own) (hL : ∀ p ∈ L, scope.names.lookup p.2 = some .free ∧ p.1 ∉ own.map (·.2))
    (hg : ∀ (s : Shared) (H : Hp) (C : Addr) (cl : List (Str × Addr)) (fp : List Addr), PG (X.blk s H scope (compEnvC scope cl C X.env) fp) tg g)
    (he : ∀ (s : Shared) (H : Hp) (C : Addr) (cl : List (Str × Addr)) (fp : List Addr), PEk (X.blk s H scope (compEnvC scope cl C X.env) fp) L elt te) (hs : ∀ x, foldedSetIterable iter X.env x = pure x := by intro _; rfl) :
    PSk X L (.Assign [.Name y py] (.ListComp elt [⟨tg, iter, [], 0⟩] scope pos) spos) (tAsg (tLc wi g tYes te (own.map (·.2))) (gName i)) := by
  intro pins s σ H D h0 hT I h
  rw [exec_Assign_Name_used _ _ _ _ hsw]
  refine wpAny_bind (wpAny_standAt (wpAny_bind ?_))
  show wpAny _ X.A (do let _ ← comprehension (.ListComp elt [⟨tg, iter, [], 0⟩] scope pos) scope X.env (firstIterPos [⟨tg, iter, [], 0⟩] pos) (newList []) false (eval iter X.env) (some (assign (.Name y py) X.env))) _ _ s
  have h : tLc wi g tYes te (own.map (·.2)) σ H (fun x H1 => gName i x σ H1 D.nx) := h
  refine wpAny_bind (thn (lc_tok (Qf := fun _ s' => SP X pins D .next s') hc hN h0 hT I hi ok hL hg he hs h fun M C s' m H' I' q hn f => ?_) fun _ s' hq => wpAny_pure (wpAny_pure hq))
  show wpAny _ _ (assign (.Name y py) X.env (.ref M)) _ _ _
  refine wpAny_assign_Name (store_ok2 (v := V.ref M) I' hN hy (.inl hyl) rfl (fun s2 I2 ⟨a, sb, ha⟩ => ?_) (.inr hyl))
  obtain ⟨f0, f1, f2, f3, f4, f5⟩ := f
  have haC : C ≠ a := by
    rcases ha with z | z
    · rw [z]; exact f1
    · exact fun e => f4 y a z e.symm
  exact ⟨m, hn.sameBut sb haC, fun h3 sb3 => ⟨_, H', I2.turned (t' := s2.toks) (fun b o hb e => (sb3.2 b hb).trans e) f0 f1 f3 f4 f5, q⟩⟩
end

/-! ### x not in an object -/
def rNiOwn (C : Addr) (sp : Sp) (E : XK) : R2 := fun x y H Q => ∃ a dx fs, y = .ref a ∧ H a = some (.ins C dx fs) ∧ sp [.ref a, x] H (fun v H' => ∃ b, v = .bl b ∧ Q (.bl (!b)) H') E
theorem op_notIn_df {X : Cx} {C : Addr} {ps : List Str} {k : Nat} {sp : Sp} (D : DfC X.prog X.w X.K X.mg X.base C "__contains__" ps k sp) (hr : Room k X.A) : OpR X (compareOp .NotIn) (rNiOwn C sp E0) := by
  obtain ⟨f, fd, hs, hf, hb, F⟩ := D
  intro pins s σ H x y v u Q I rx ry h
  obtain ⟨a, dx, fs, rfl, ha, hsp⟩ := h
  cases (show u = Value.ref a from ry)
  show wpAny _ _ (contains (.ref a) v >>= fun b => (pure (Value.bool (!b)) : Sem Value)) _ _ s
  refine wpAny_bind (wpAny_mono (contains_own (Q := fun b H' => Q (.bl (!b)) H') hs hf F hr hb pass0 I rx ha hsp) (fun b s' q => ?_) fun _ _ z => z)
  obtain ⟨H', I', q⟩ := q
  exact wpAny_pure ⟨.bl (!b), H', I', rfl, q⟩
end Kz
set_option Elab.async false
set_option linter.all false
set_option maxRecDepth 100000
set_option maxHeartbeats 4000000
namespace Q
open PySem PySem.Spec PyProof.Rows L2 Evl StX Kz
def topS (i : Nat) : Stmt := PySem.Challenge.pw_gluedlines_k10_shared_lines.main.body.getD i (.Pass ⟨0, 0, 0, 0⟩)

abbrev s_is_line : Stmt := topS 4
theorem sc_is_line : FnScope ["thing", "sign"] ["thing"] (defScope s_is_line) := ⟨rfl, rfl, rfl, by decide +kernel, rfl, by decide +kernel, by decide +kernel⟩
abbrev s_cells_of : Stmt := topS 10
theorem sc_cells_of : FnScope ["parts", "cells", "part"] ["parts"] (defScope s_cells_of) := ⟨rfl, rfl, rfl, by decide +kernel, rfl, by decide +kernel, by decide +kernel⟩
abbrev s_started : Stmt := topS 11
theorem sc_started : FnScope ["cells"] ["cells"] (defScope s_started) := ⟨rfl, rfl, rfl, by decide +kernel, rfl, by decide +kernel, by decide +kernel⟩
abbrev s_moved : Stmt := topS 12
theorem sc_moved : FnScope ["cells", "positions", "sign", "found", "k"] ["cells", "positions", "sign"] (defScope s_moved) := ⟨rfl, rfl, rfl, by decide +kernel, rfl, by decide +kernel, by decide +kernel⟩
abbrev s_is_done : Stmt := topS 13
theorem sc_is_done : FnScope ["cells", "positions"] ["cells", "positions"] (defScope s_is_done) := ⟨rfl, rfl, rfl, by decide +kernel, rfl, by decide +kernel, by decide +kernel⟩
abbrev s__closed : Stmt := topS 14
theorem sc__closed : FnScope ["cells", "positions", "closed", "k"] ["cells", "positions"] (defScope s__closed) := ⟨rfl, rfl, rfl, by decide +kernel, rfl, by decide +kernel, by decide +kernel⟩
abbrev s__takes : Stmt := topS 15
theorem sc__takes : FnScope ["cell", "sign"] ["cell", "sign"] (defScope s__takes) := ⟨rfl, rfl, rfl, by decide +kernel, rfl, by decide +kernel, by decide +kernel⟩
abbrev s_truths : Stmt := topS 17
theorem sc_truths : FnScope ["forms", "state", "form", "positions"] ["forms", "state"] (defScope s_truths) := ⟨rfl, rfl, rfl, by decide +kernel, rfl, by decide +kernel, by decide +kernel⟩
abbrev s_signs_for : Stmt := topS 18
theorem sc_signs_for : FnScope ["forms", "fixed", "rest", "digits", "letters", "others", "form", "cell", "sign"] ["forms"] (defScope s_signs_for) := ⟨rfl, rfl, rfl, by decide +kernel, rfl, by decide +kernel, by decide +kernel⟩
abbrev s_numbered : Stmt := topS 19
theorem sc_numbered : FnScope ["form", "signs", "cells", "states", "numbers", "rows", "row", "sign", "after"] ["form", "signs"] (defScope s_numbered) := ⟨rfl, rfl, rfl, by decide +kernel, rfl, by decide +kernel, by decide +kernel⟩
abbrev s_least_line : Stmt := topS 21
theorem sc_least_line : FnScope ["pattern"] ["pattern"] (defScope s_least_line) := ⟨rfl, rfl, rfl, by decide +kernel, rfl, by decide +kernel, by decide +kernel⟩
abbrev s_shared_line : Stmt := topS 22
theorem sc_shared_line : FnScope ["one", "other"] ["one", "other"] (defScope s_shared_line) := ⟨rfl, rfl, rfl, by decide +kernel, rfl, by decide +kernel, by decide +kernel⟩
abbrev s__least : Stmt := topS 23
theorem sc__least : FnScope ["goals", "found"] ["goals"] (defScope s__least) := ⟨rfl, rfl, rfl, by decide +kernel, rfl, by decide +kernel, by decide +kernel⟩
abbrev s__fitting : Stmt := topS 24
theorem sc__fitting : FnScope ["goals", "marks", "only_first", "forms", "signs", "tables", "seen", "found", "queue", "at", "numbers", "line", "k", "sign", "after", "state", "told", "pattern", "form", "n", "_", "rows", "states"] ["goals", "marks", "only_first"] (defScope s__fitting) := ⟨rfl, rfl, rfl, by decide +kernel, rfl, by decide +kernel, by decide +kernel⟩
abbrev s__may_hold : Stmt := topS 25
theorem sc__may_hold : FnScope ["goals", "state", "positions"] ["goals", "state"] (defScope s__may_hold) := ⟨rfl, rfl, rfl, by decide +kernel, rfl, by decide +kernel, by decide +kernel⟩
abbrev s__held : Stmt := topS 26
theorem sc__held : FnScope ["patterns", "told", "held", "at", "pattern", "many"] ["patterns", "told"] (defScope s__held) := ⟨rfl, rfl, rfl, by decide +kernel, rfl, by decide +kernel, by decide +kernel⟩
abbrev s_Form___init__ : Stmt := inClass (topS 35) 3
theorem sc_Form___init__ : FnScope ["self", "parts", "at"] ["self", "parts"] (defScope s_Form___init__) := ⟨rfl, rfl, rfl, by decide +kernel, rfl, by decide +kernel, by decide +kernel⟩
abbrev s_Form_parts : Stmt := inClass (topS 35) 4
theorem sc_Form_parts : FnScope ["self"] ["self"] (defScope s_Form_parts) := ⟨rfl, rfl, rfl, by decide +kernel, rfl, by decide +kernel, by decide +kernel⟩
abbrev s_Form_forms : Stmt := inClass (topS 35) 5
theorem sc_Form_forms : FnScope ["self"] ["self"] (defScope s_Form_forms) := ⟨rfl, rfl, rfl, by decide +kernel, rfl, by decide +kernel, by decide +kernel⟩
abbrev s_Form_holds : Stmt := inClass (topS 35) 6
theorem sc_Form_holds : FnScope ["self", "truths"] ["self", "truths"] (defScope s_Form_holds) := ⟨rfl, rfl, rfl, by decide +kernel, rfl, by decide +kernel, by decide +kernel⟩
abbrev s_Form___contains__ : Stmt := inClass (topS 35) 7
theorem sc_Form___contains__ : FnScope ["self", "line", "positions", "sign"] ["self", "line"] (defScope s_Form___contains__) := ⟨rfl, rfl, rfl, by decide +kernel, rfl, by decide +kernel, by decide +kernel⟩
abbrev s_Form___and__ : Stmt := inClass (topS 35) 8
theorem sc_Form___and__ : FnScope ["self", "other"] ["self", "other"] (defScope s_Form___and__) := ⟨rfl, rfl, rfl, by decide +kernel, rfl, by decide +kernel, by decide +kernel⟩
abbrev s_Form___or__ : Stmt := inClass (topS 35) 9
theorem sc_Form___or__ : FnScope ["self", "other"] ["self", "other"] (defScope s_Form___or__) := ⟨rfl, rfl, rfl, by decide +kernel, rfl, by decide +kernel, by decide +kernel⟩
abbrev s_Form___str__ : Stmt := inClass (topS 35) 11
theorem sc_Form___str__ : FnScope ["self"] ["self"] (defScope s_Form___str__) := ⟨rfl, rfl, rfl, by decide +kernel, rfl, by decide +kernel, by decide +kernel⟩
abbrev s_Both___init__ : Stmt := inClass (topS 36) 0
theorem sc_Both___init__ : FnScope ["self", "one", "other"] ["self", "one", "other"] (defScope s_Both___init__) := ⟨rfl, rfl, rfl, by decide +kernel, rfl, by decide +kernel, by decide +kernel⟩
abbrev s_Both_forms : Stmt := inClass (topS 36) 1
theorem sc_Both_forms : FnScope ["self"] ["self"] (defScope s_Both_forms) := ⟨rfl, rfl, rfl, by decide +kernel, rfl, by decide +kernel, by decide +kernel⟩
abbrev s_Both_holds : Stmt := inClass (topS 36) 2
theorem sc_Both_holds : FnScope ["self", "truths", "many"] ["self", "truths"] (defScope s_Both_holds) := ⟨rfl, rfl, rfl, by decide +kernel, rfl, by decide +kernel, by decide +kernel⟩
abbrev s_Both___contains__ : Stmt := inClass (topS 36) 3
theorem sc_Both___contains__ : FnScope ["self", "line"] ["self", "line"] (defScope s_Both___contains__) := ⟨rfl, rfl, rfl, by decide +kernel, rfl, by decide +kernel, by decide +kernel⟩
abbrev s_Both___and__ : Stmt := inClass (topS 36) 4
theorem sc_Both___and__ : FnScope ["self", "other"] ["self", "other"] (defScope s_Both___and__) := ⟨rfl, rfl, rfl, by decide +kernel, rfl, by decide +kernel, by decide +kernel⟩
abbrev s_Both___or__ : Stmt := inClass (topS 36) 5
theorem sc_Both___or__ : FnScope ["self", "other"] ["self", "other"] (defScope s_Both___or__) := ⟨rfl, rfl, rfl, by decide +kernel, rfl, by decide +kernel, by decide +kernel⟩
abbrev s_Both___str__ : Stmt := inClass (topS 36) 7
theorem sc_Both___str__ : FnScope ["self"] ["self"] (defScope s_Both___str__) := ⟨rfl, rfl, rfl, by decide +kernel, rfl, by decide +kernel, by decide +kernel⟩
abbrev s_Either___init__ : Stmt := inClass (topS 37) 0
theorem sc_Either___init__ : FnScope ["self", "one", "other"] ["self", "one", "other"] (defScope s_Either___init__) := ⟨rfl, rfl, rfl, by decide +kernel, rfl, by decide +kernel, by decide +kernel⟩
abbrev s_Either_forms : Stmt := inClass (topS 37) 1
theorem sc_Either_forms : FnScope ["self"] ["self"] (defScope s_Either_forms) := ⟨rfl, rfl, rfl, by decide +kernel, rfl, by decide +kernel, by decide +kernel⟩
abbrev s_Either_holds : Stmt := inClass (topS 37) 2
theorem sc_Either_holds : FnScope ["self", "truths", "many"] ["self", "truths"] (defScope s_Either_holds) := ⟨rfl, rfl, rfl, by decide +kernel, rfl, by decide +kernel, by decide +kernel⟩
abbrev s_Either___contains__ : Stmt := inClass (topS 37) 3
theorem sc_Either___contains__ : FnScope ["self", "line"] ["self", "line"] (defScope s_Either___contains__) := ⟨rfl, rfl, rfl, by decide +kernel, rfl, by decide +kernel, by decide +kernel⟩
abbrev s_Either___str__ : Stmt := inClass (topS 37) 7
theorem sc_Either___str__ : FnScope ["self"] ["self"] (defScope s_Either___str__) := ⟨rfl, rfl, rfl, by decide +kernel, rfl, by decide +kernel, by decide +kernel⟩
abbrev s__is_allowed : Stmt := topS 38
theorem sc__is_allowed : FnScope ["parts", "at", "part"] ["parts", "at"] (defScope s__is_allowed) := ⟨rfl, rfl, rfl, by decide +kernel, rfl, by decide +kernel, by decide +kernel⟩
abbrev s__check_room : Stmt := topS 39
theorem sc__check_room : FnScope ["one", "other"] ["one", "other"] (defScope s__check_room) := ⟨rfl, rfl, rfl, by decide +kernel, rfl, by decide +kernel, by decide +kernel⟩
abbrev s__law_pool : Stmt := topS 41
theorem sc__law_pool : FnScope ["script", "k", "cell", "seed"] ["script", "k"] (defScope s__law_pool) := ⟨rfl, rfl, rfl, by decide +kernel, rfl, by decide +kernel, by decide +kernel⟩
abbrev s__law_take : Stmt := topS 42
theorem sc__law_take : FnScope ["pool", "many", "digit"] ["pool", "many"] (defScope s__law_take) := ⟨rfl, rfl, rfl, by decide +kernel, rfl, by decide +kernel, by decide +kernel⟩
abbrev s__law_signs : Stmt := topS 43
theorem sc__law_signs : FnScope ["pool", "letters", "odd", "digits", "some", "x", "y", "rest_of", "part"] ["pool"] (defScope s__law_signs) := ⟨rfl, rfl, rfl, by decide +kernel, rfl, by decide +kernel, by decide +kernel⟩
abbrev s__law_parts : Stmt := topS 44
theorem sc__law_parts : FnScope ["signs", "number", "x", "y", "menu"] ["signs", "number"] (defScope s__law_parts) := ⟨rfl, rfl, rfl, by decide +kernel, rfl, by decide +kernel, by decide +kernel⟩
abbrev s__law_takes : Stmt := topS 45
theorem sc__law_takes : FnScope ["part", "sign"] ["part", "sign"] (defScope s__law_takes) := ⟨rfl, rfl, rfl, by decide +kernel, rfl, by decide +kernel, by decide +kernel⟩
abbrev s__law_ends : Stmt := topS 46
theorem sc__law_ends : FnScope ["part", "line", "at", "found", "end"] ["part", "line", "at"] (defScope s__law_ends) := ⟨rfl, rfl, rfl, by decide +kernel, rfl, by decide +kernel, by decide +kernel⟩
abbrev s__law_fits : Stmt := topS 47
theorem sc__law_fits : FnScope ["parts", "line", "places", "part", "more", "at", "end"] ["parts", "line"] (defScope s__law_fits) := ⟨rfl, rfl, rfl, by decide +kernel, rfl, by decide +kernel, by decide +kernel⟩
abbrev s__law_lines : Stmt := topS 48
theorem sc__law_lines : FnScope ["signs", "found", "level", "size", "longer", "line", "sign"] ["signs"] (defScope s__law_lines) := ⟨rfl, rfl, rfl, by decide +kernel, rfl, by decide +kernel, by decide +kernel⟩
abbrev s__law_pattern : Stmt := topS 49
theorem sc__law_pattern : FnScope ["pool", "one", "other"] ["pool"] (defScope s__law_pattern) := ⟨rfl, rfl, rfl, by decide +kernel, rfl, by decide +kernel, by decide +kernel⟩
abbrev s__law_made : Stmt := topS 50
theorem sc__law_made : FnScope ["signs", "pattern", "one", "form", "more", "other"] ["signs", "pattern"] (defScope s__law_made) := ⟨rfl, rfl, rfl, by decide +kernel, rfl, by decide +kernel, by decide +kernel⟩
abbrev s__law_bears : Stmt := topS 51
theorem sc__law_bears : FnScope ["signs", "pattern", "line", "one", "other"] ["signs", "pattern", "line"] (defScope s__law_bears) := ⟨rfl, rfl, rfl, by decide +kernel, rfl, by decide +kernel, by decide +kernel⟩
abbrev s__law_due : Stmt := topS 52
theorem sc__law_due : FnScope ["signs", "one", "other", "line"] ["signs", "one", "other"] (defScope s__law_due) := ⟨rfl, rfl, rfl, by decide +kernel, rfl, by decide +kernel, by decide +kernel⟩
abbrev s_law : Stmt := topS 53
theorem sc_law : FnScope ["script", "k", "pool", "signs", "some", "built", "at", "there", "due", "one"] ["script"] (defScope s_law) := ⟨rfl, rfl, rfl, by decide +kernel, rfl, by decide +kernel, by decide +kernel⟩
structure Txt (K : PySem.W.Frag) (mg : Str → Option Value) (a_OPEN_PARTS : Addr) (C_Both : Addr) (C_Either : Addr) (C_Form : Addr) : Prop where
  c_ANY_SIGNS : Cst mg "ANY_SIGNS" (.str (Str.ofString "<any>"))
  c_DIGIT_SIGNS : Cst mg "DIGIT_SIGNS" (.str (Str.ofString "0123456789"))
  c_LETTER_SIGNS : Cst mg "LETTER_SIGNS" (.str (Str.ofString "ABCDEFGHIJKLMNOPQRSTUVWXYZabcdefghijklmnopqrstuvwxyz"))
  c_MOST_FORMS : Cst mg "MOST_FORMS" (.int 3)
  c_MOST_PARTS : Cst mg "MOST_PARTS" (.int 4)
  c_MOST_SIGNS : Cst mg "MOST_SIGNS" (.int 4)
  c_OPEN_PARTS : Cst mg "OPEN_PARTS" (.ref a_OPEN_PARTS)
  o_OPEN_PARTS : WT K a_OPEN_PARTS [V.str (Str.ofString "<digits>"), V.str (Str.ofString "<word>"), V.str (Str.ofString "<any>")]
  c_SIGNS : Cst mg "SIGNS" (.str (Str.ofString " #-.0123456789:>ABCDEFGHIJKLMNOPQRSTUVWXYZabcdefghijklmnopqrstuvwxyz"))
  c_SOME_DIGITS : Cst mg "SOME_DIGITS" (.str (Str.ofString "<digits>"))
  c_SOME_LETTERS : Cst mg "SOME_LETTERS" (.str (Str.ofString "<word>"))
  n_all : mg "all" = none
  n_enumerate : mg "enumerate" = none
  n_int : mg "int" = none
  n_isinstance : mg "isinstance" = none
  n_len : mg "len" = none
  n_list : mg "list" = none
  n_max : mg "max" = none
  n_min : mg "min" = none
  n_range : mg "range" = none
  n_set : mg "set" = none
  n_sorted : mg "sorted" = none
  n_str : mg "str" = none
  n_tuple : mg "tuple" = none
  n_zip : mg "zip" = none
  k_Both : Cls K C_Both
  k_Either : Cls K C_Either
  k_Form : Cls K C_Form
  a_Both__one : NoAttr K C_Both "_one"
  a_Both__other : NoAttr K C_Both "_other"
  a_Either__one : NoAttr K C_Either "_one"
  a_Either__other : NoAttr K C_Either "_other"
  a_Form__cells : NoAttr K C_Form "_cells"
  a_Form__parts : NoAttr K C_Form "_parts"
section
variable {P : Program} {w : World} {K : PySem.W.Frag} {mg : Str → Option Value} {base : Heap} {a_OPEN_PARTS : Addr} {C_Both : Addr} {C_Either : Addr} {C_Form : Addr}
/-! ### drawing: _law_pool, _law_take, _law_all_signs -/
theorem ok__law_take {f : Addr} {fd : FuncData} (F : Fun K "_law_take" "_law_take" s__law_take f fd) (T : Txt K mg a_OPEN_PARTS C_Both C_Either C_Form) : FnOk P w K mg base CX0 1 f fd ["pool", "many"] spTake := by
  refine F.ok sc__law_take (fun vs H Q E h => ?_) (fun cdv A outer s0 H vs Q E hr h => ?_)
  · obtain ⟨p, s, n, rfl, _⟩ := h
    rfl
  · obtain ⟨p, s, n, rfl, hp, hk, h0, h1, q⟩ := h
    refine ⟨_, (pss_cons (ps_if (pt_cmpR op_gt (pe_ix ix_list (pv 0) pe_int (fun _ _ => rfl)) pe_int (nomark _))
      (pss_cons (ps_set (i := 2) sc__law_take.nd rfl (Or.inl rfl) (pe_op op_mod (pe_callTy call_int1 (by rfl) T.n_int (by decide +kernel) (pa_cons (pe_ix ix_list (pv 0) pe_int (fun _ _ => rfl)) pa_nil)) (pv 1)))
      (pss_cons (ps_asg (pe_op op_fdivW (pe_ix ix_list (pv 0) pe_int (fun _ _ => rfl)) (pv 1)) (pg_sub (pv 0) pe_int set_list))
      (pss_one (ps_ret (pv 2)))))
      pss_nil)
      (pss_cons (ps_asg (pe_op op_mod (pe_callTy call_int1 (by rfl) T.n_int (by decide +kernel) (pa_cons (pe_op op_add (pe_op op_mul (pe_ix ix_list (pv 0) pe_int (fun _ _ => rfl)) pe_int) pe_int) pa_nil)) pe_int) (pg_sub (pv 0) pe_int set_list))
      (pss_one (ps_ret (pe_op op_mod (pe_callTy call_int1 (by rfl) T.n_int (by decide +kernel) (pa_cons (pe_op op_fdivW (pe_op op_mod (pe_callTy call_int1 (by rfl) T.n_int (by decide +kernel) (pa_cons (pe_op op_mul (pe_ix ix_list (pv 0) pe_int (fun _ _ => rfl)) (pe_ix ix_list (pv 0) pe_int (fun _ _ => rfl))) pa_nil)) pe_int) pe_int) pa_nil)) (pv 1)))))), ?_⟩
    refine q_when (b := decide (0 < s.1)) (et_test (ev_op (ev_op (ev_var rfl) ev_c (rv_ixL (sq_of hp) rfl)) ev_c rv_I0)) (fun hb H1 e1 => ?_) (fun hb H1 e1 => ?_)
    · have hc : 0 < s.1 := of_decide_eq_true hb
      rw [take_pos hc] at q
      have hp1 := e1 p _ hp
      refine q_asg (ev_op (ev_int (ev_op (ev_var rfl) ev_c (rv_ixL (sq_of hp1) rfl))) (ev_var rfl) (rv_mod h0)) fun H2 e2 => ?_
      have hp2 := e2 p _ hp1
      refine q_setL hp2 (ev_op (ev_op (ev_var rfl) ev_c (rv_ixL (sq_of hp2) rfl)) (ev_var rfl) (rv_div h0 (by omega))) (ev_var rfl) (j := 0) ev_c (by simp) fun H3 e3 => ?_
      refine s_ret (ev_var rfl) fun H4 e4 => q H4 ?_ (e4 p _ upd_same)
      exact (hx_trans (hx_of ((e1.trans e2).trans e3)) hx_upd).trans e4
    · have hc : ¬ 0 < s.1 := of_decide_eq_false hb
      rw [take_neg hc] at q
      have hp1 := e1 p _ hp
      have k2 := hk.2
      have k1 := hk.1
      refine q_setL hp1 (ev_op (ev_int (ev_op (ev_op (ev_op (ev_var rfl) ev_c (rv_ixL (sq_of hp1) rfl)) ev_c (rv_mul (.inr (by decide)))) ev_c rv_add)) ev_c (rv_mod (by decide))) (ev_var rfl) (j := 1) ev_c (by simp) fun H3 e3 => ?_
      have hp3 : (upd H3 p (.lst [.int s.1, .int ((s.2 * 48271 + 11) % 2147483647)])) p = some (.lst [.int s.1, .int ((s.2 * 48271 + 11) % 2147483647)]) := upd_same
      have b1 : 0 ≤ (s.2 * 48271 + 11) % 2147483647 := Int.emod_nonneg _ (by omega)
      have b2 : (s.2 * 48271 + 11) % 2147483647 < 2147483647 := Int.emod_lt_of_pos _ (by omega)
      refine s_ret (ev_op (ev_int (ev_op (ev_op (ev_int (ev_op (ev_op (ev_var rfl) ev_c (rv_ixL (sq_of hp3) rfl)) (ev_op (ev_var rfl) ev_c (rv_ixL (sq_of hp3) rfl)) (rv_mul (.inr (by omega))))) ev_c (rv_mod (by decide))) ev_c (rv_div (by decide) (by decide)))) (ev_var rfl) (rv_mod h0)) fun H4 e4 => q H4 ?_ (e4 p _ upd_same)
      exact (hx_trans (hx_of (e1.trans e3)) hx_upd).trans e4
theorem cell_ix {ns : List Int} {k : Int} (h : ns ≠ []) : atI (ns.map V.int) (k % ((ns.map V.int).length : Int)) = some (.int (cellAt ns k)) := by
  have hl : 0 < ns.length := List.length_pos_iff.mpr h
  have h1 : 0 ≤ k % (ns.length : Int) := Int.emod_nonneg k (by omega)
  have h2 : k % (ns.length : Int) < (ns.length : Int) := Int.emod_lt_of_pos k (by omega)
  rw [List.length_map]
  unfold atI ixN cellAt
  rw [List.length_map, if_pos h1, if_pos h2, if_neg h]
  have h3 : (k % (ns.length : Int)).toNat < ns.length := by omega
  show (ns.map V.int)[(k % (ns.length : Int)).toNat]? = _
  rw [List.getElem?_map, List.getElem?_eq_getElem h3, List.getD_eq_getElem?_getD, List.getElem?_eq_getElem h3]
  rfl
theorem ok__law_pool {f : Addr} {fd : FuncData} (F : Fun K "_law_pool" "_law_pool" s__law_pool f fd) (T : Txt K mg a_OPEN_PARTS C_Both C_Either C_Form) : FnOk P w K mg base CX0 1 f fd ["script", "k"] (spPool K) := by
  refine F.ok sc__law_pool (fun vs H Q E h => ?_) (fun cdv A outer s0 H vs Q E hr h => ?_)
  · obtain ⟨a, ns, k, rfl, _⟩ := h
    rfl
  · obtain ⟨a, ns, k, rfl, hS, hl, k0, k1, q⟩ := h
    refine ⟨_, (pss_cons (ps_set (i := 2) sc__law_pool.nd rfl (Or.inl rfl) pe_int)
      (pss_cons (ps_if (pt_cmpR (op_neD hr.units) (pv 0) (pe_lst pa_nil) (nomark _))
      (pss_one (ps_set (i := 2) sc__law_pool.nd rfl (Or.inl rfl) (pe_ix ix_list (pv 0) (pe_op op_mod (pe_callTy call_int1 (by rfl) T.n_int (by decide +kernel) (pa_cons (pv 1) pa_nil)) (pe_callB call_len_seq (by rfl) T.n_len PySem.boot_len (pa_cons (pv 0) pa_nil))) (fun _ _ => rfl))))
      pss_nil)
      (pss_cons (ps_set (i := 3) sc__law_pool.nd rfl (Or.inl rfl) (pe_op op_mod (pe_op op_mul (pe_callTy call_int1 (by rfl) T.n_int (by decide +kernel) (pa_cons (pe_op op_add (pe_op op_add (pe_op op_mod (pe_callTy call_int1 (by rfl) T.n_int (by decide +kernel) (pa_cons (pv 2) pa_nil)) pe_int) (pe_op op_mul pe_int (pv 1))) pe_int) pa_nil)) pe_int) pe_int))
      (pss_one (ps_ret (pe_lst (pa_cons (pe_op op_mul (pv 2) (pe_callTy call_int1 (by rfl) T.n_int (by decide +kernel) (pa_cons (pe_cmpR op_ge (pv 2) (pe_op op_pow pe_int pe_int) (nomark _)) pa_nil))) (pa_cons (pv 3) pa_nil)))))))), ?_⟩
    refine q_asg ev_c fun H1 e1 => ?_
    have hS1 := ex_l e1 hS
    refine q_ifAsg (v := .int (cellAt ns k)) (b := !eqF (ns.map V.int) []) (et_test (ev_opL (ev_var rfl) (el_lst ea_nil (Nat.zero_le _)) fun p H2 hp2 e2 => rv_neL (ex_l e2 hS1) (sq_of hp2) okV_ints (by simp)))
      (fun hb => ?_) (fun hb => ?_) fun H2 e2 => ?_
    · have hn : ns ≠ [] := fun z => by
        subst z
        cases hb
      have hn2 : 0 < ((ns.map V.int).length : Int) := by
        have := List.length_pos_iff.mpr hn
        rw [List.length_map]
        omega
      exact ev_op (ev_var rfl) (ev_op (ev_int (ev_var rfl)) (ev_lenL (ev_var rfl) hS1) (rv_mod hn2)) (rv_ixL hS1 (cell_ix hn))
    · have hn : ns = [] := by
        rw [eqF_nil] at hb
        cases ns with
        | nil => rfl
        | cons _ _ => cases hb
      subst hn
      rfl
    refine q_asg (ev_op (ev_op (ev_int (ev_op (ev_op (ev_op (ev_int (ev_var rfl)) ev_c (rv_mod (by decide))) (ev_op ev_c (ev_var rfl) (rv_mul (.inl (by decide)))) rv_add) ev_c rv_add)) ev_c (rv_mul (.inr (by decide)))) ev_c (rv_mod (by decide))) fun H3 e3 => ?_
    refine s_retL (el_lst (ea_cons (ev_op (ev_var rfl) (ev_intB (ev_op (ev_var rfl) (ev_op ev_c ev_c (rv_I ⟨by decide, by decide, by decide⟩)) rv_I0)) (rv_mul (.inr ?_))) (ea_cons (ev_var rfl) ea_nil)) (by simp)) fun p H4 hp e4 h4 => ?_
    · split <;> decide
    · exact q p H4 (fresh_back ((e1.trans e2).trans e3) hp) (((e1.trans e2).trans e3).trans e4) h4
/-- a def without arguments that hands back v -/
def spK (v : V) : Sp := fun vs H Q _ => vs = [] ∧ RetV v H Q
theorem sv_spK {v : V} {G : Hp} : SpV (spK v) [] G v := fun H1 e Q q E => ⟨rfl, q⟩
def signsS : Str := " #-.0123456789:>ABCDEFGHIJKLMNOPQRSTUVWXYZabcdefghijklmnopqrstuvwxyz"
/-! ### is_line -/
def isLn (z : Str) : Bool := decide ((0 : Int) < (z.length : Int)) && z.cps.toList.all fun c => decide (c ∈ signsS.cps.toList)
def spIsLine (K : PySem.W.Frag) : Sp := fun vs H Q _ => ∃ x : V, vs = [x] ∧ ((∃ z : Str, x = .str z ∧ z.length ≤ 40000 ∧ RetV (.bl (isLn z)) H Q) ∨ (∃ a : String, TyX K H x (.type a) ∧ kitB a "str" = some false ∧ RetV (.bl false) H Q))
theorem ok_is_line {f : Addr} {fd : FuncData} (F : Fun K "is_line" "is_line" s_is_line f fd) (T : Txt K mg a_OPEN_PARTS C_Both C_Either C_Form) : FnOk P w K mg base CX0 1 f fd ["thing"] (spIsLine K) := by
  refine F.ok sc_is_line (fun vs H Q E h => ?_) (fun cdv A outer s0 H vs Q E hr h => ?_)
  · obtain ⟨x, rfl, _⟩ := h
    rfl
  · obtain ⟨x, rfl, h⟩ := h
    refine ⟨_, (pss_one (ps_ret (pe_and (pe_callB call_isi (by rfl) T.n_isinstance (by decide +kernel) (pa_cons (pv 0) (pa_cons (pe_bltn (v := .ty "str") (by rfl) T.n_str (by decide +kernel) rfl) pa_nil))) (pe_and (pe_cmpR op_gt (pe_callB call_len_str (by rfl) T.n_len PySem.boot_len (pa_cons (pv 0) pa_nil)) pe_int (nomark _)) (pe_one (pe_callB (cr_all rfl) (by rfl) T.n_all (by decide +kernel) (pa_cons (pe_lc (own := [("sign", 1)]) (g := gName 1) rfl sc_is_line.nd (pi_str (pv 0)) (blkOk_by (own := [("sign", 1)]) (N := ["thing", "sign"]) (sc := defScope s_is_line) (by decide +kernel)) (fun _ _ _ _ _ => pg_name (i := 1) sc_is_line.nd rfl (Or.inl rfl)) (fun _ _ _ _ _ => pts_nil) (fun _ _ _ _ _ => (pe_cmpR op_in_sign (pv 1) (pe_cst T.c_SIGNS (by rfl)) (by rfl)))) pa_nil))))))), ?_⟩
    rcases h with ⟨z, rfl, hz, q⟩ | ⟨a, ty, hk, q⟩
    · refine s_ret (v := .bl (true && (decide ((0 : Int) < (z.length : Int)) && (z.cps.toList.map fun c => decide (c ∈ signsS.cps.toList)).all id))) ?_ ?_
      · refine ev_andV (ev_isi (ev_var rfl) (.base (.str z)) (by decide +kernel)) fun _ => ?_
        refine ev_andV (ev_op (ev_lenS (ev_var rfl) (by omega)) ev_c rv_I0) fun _ => ?_
        refine ev_all ?_
        have e := el_lcT (σ := start ["thing", "sign"] [.str z]) (H := H) (tl := tVar 0) (te := tOp _ (tVar 1) (tC (.str signsS))) (t := tYes) (j := 1) (vs := [1]) (fun _ => true) (fun c => .bl (decide (c ∈ signsS.cps.toList))) (ev_var rfl) hz (fun _ => rfl) (fun _ _ _ _ => et_yes)
          (fun c H1 e1 hc _ => ev_op (ev_var rfl) ev_c rv_sgn)
        rw [filter_yes] at e
        rw [List.map_map]
        exact e
      · have ee : (true && (decide ((0 : Int) < (z.length : Int)) && (z.cps.toList.map fun c => decide (c ∈ signsS.cps.toList)).all id)) = isLn z := by
          unfold isLn
          rw [Bool.true_and, List.all_map]
          rfl
        rw [ee]
        exact q
    · refine s_ret (v := .bl (false && false)) (ev_andV (ev_isi (ev_var rfl) ty hk) fun z => by cases z) q

/-! ### cells: the mirror -/
def anyP : Str := "<any>"
def digP : Str := "<digits>"
def wordP : Str := "<word>"
def digS : Str := "0123456789"
def letS : Str := "ABCDEFGHIJKLMNOPQRSTUVWXYZabcdefghijklmnopqrstuvwxyz"
def vN (k : Nat) : V := .int (k : Int)
def isOpen (p : Str) : Bool := inV (.str p) [V.str digP, V.str wordP, V.str anyP]
/-- the signs of a text, a text each -/
def signsOf (p : Str) : List Str := p.cps.toList.map fun c => ⟨#[c]⟩
def cellOf1 (p : Str) : List Str := if isOpen p then [p] else signsOf p
def cellsM : List Str → List Str
  | [] => []
  | p :: ps => cellOf1 p ++ cellsM ps
def takesM (cell : Str) (c : Nat) : Bool := if cell = digP then decide (c ∈ digS.cps.toList) else if cell = wordP then decide (c ∈ letS.cps.toList) else decide (cell = ⟨#[c]⟩)
def cellAt' (cells : List Str) (k : Nat) : Str := cells.getD k ""
def closeT (cells : List Str) (ps cl : List Nat) (k : Nat) : Bool := decide (k ∈ ps) || (decide (0 < k) && decide (k - 1 ∈ cl) && decide (cellAt' cells (k - 1) = anyP))
def closedN (cells : List Str) (ps : List Nat) : Nat → List Nat
  | 0 => []
  | k + 1 => if closeT cells ps (closedN cells ps k) k then closedN cells ps k ++ [k] else closedN cells ps k
def closedM (cells : List Str) (ps : List Nat) : List Nat := closedN cells ps (cells.length + 1)
def rawA (cells : List Str) (c : Nat) (acc : List Nat) (k : Nat) : List Nat :=
  if decide (k < cells.length) && decide (cellAt' cells k = anyP) then acc ++ [k] else if decide (k < cells.length) && takesM (cellAt' cells k) c then acc ++ [k + 1] else acc
def rawT (cells : List Str) (c : Nat) (k : Nat) : Bool := decide (0 < k) && (decide (cellAt' cells (k - 1) = digP) || decide (cellAt' cells (k - 1) = wordP)) && takesM (cellAt' cells (k - 1)) c
def rawB (cells : List Str) (c : Nat) (acc : List Nat) (k : Nat) : List Nat := if rawT cells c k then rawA cells c acc k ++ [k] else rawA cells c acc k
def rawM (cells : List Str) (c : Nat) (ps : List Nat) : List Nat := ps.foldl (rawB cells c) []
def movedM (cells : List Str) (ps : List Nat) (c : Nat) : List Nat := closedM cells (rawM cells c ps)
def startedM (cells : List Str) : List Nat := closedM cells [0]
/-! small facts -/
theorem flat_vN (ps : List Nat) : (ps.map vN).all flatV = true := by
  rw [List.all_map]
  exact List.all_eq_true.mpr fun _ _ => rfl
theorem flat_str (ps : List Str) : (ps.map V.str).all flatV = true := by
  rw [List.all_map]
  exact List.all_eq_true.mpr fun _ _ => rfl
theorem inV_vN (k : Nat) : ∀ ps : List Nat, inV (.int (k : Int)) (ps.map vN) = decide (k ∈ ps)
  | [] => rfl
  | p :: ps => by
    show (eqV (vN p) (.int (k : Int)) || inV (.int (k : Int)) (ps.map vN)) = _
    rw [inV_vN k ps, show eqV (vN p) (.int (k : Int)) = ((p : Int) == (k : Int)) from rfl]
    by_cases h : k = p
    · subst h
      simp
    · have : ¬ ((p : Int) = (k : Int)) := by omega
      simp [h, this]
theorem inV_str (k : Str) : ∀ ps : List Str, inV (.str k) (ps.map V.str) = decide (k ∈ ps)
  | [] => rfl
  | p :: ps => by
    show (eqV (.str p) (.str k) || inV (.str k) (ps.map V.str)) = _
    rw [inV_str k ps, show eqV (.str p) (.str k) = (p == k) from rfl]
    by_cases h : k = p
    · subst h
      simp
    · have : ¬ p = k := fun z => h z.symm
      simp [h, this]
theorem isOpen_eq (p : Str) : isOpen p = decide (p ∈ [digP, wordP, anyP]) := inV_str p [digP, wordP, anyP]
theorem isOpen_iff {p : Str} : isOpen p = true ↔ p = digP ∨ p = wordP ∨ p = anyP := by
  rw [isOpen_eq]
  simp
theorem chars_eq (z : Str) : chars z = (signsOf z).map V.str := by
  unfold chars signsOf
  rw [List.map_map]
  rfl
theorem cell_get {cells : List Str} {k : Nat} (h : k < cells.length) : (cells.map V.str)[k]? = some (.str (cellAt' cells k)) := by
  unfold cellAt'
  rw [List.getElem?_map, List.getElem?_eq_getElem h, List.getD_eq_getElem?_getD, List.getElem?_eq_getElem h]
  rfl
theorem cell_at {cells : List Str} {k : Nat} (h : k < cells.length) : atI (cells.map V.str) (k : Int) = some (.str (cellAt' cells k)) := by
  unfold atI ixN
  rw [if_pos (by omega), if_pos (by rw [List.length_map]; omega)]
  exact cell_get h
theorem cell_at1 {cells : List Str} {k : Nat} (h0 : 0 < k) (h : k ≤ cells.length) : atI (cells.map V.str) ((k : Int) - 1) = some (.str (cellAt' cells (k - 1))) := by
  rw [show (k : Int) - 1 = ((k - 1 : Nat) : Int) by omega]
  exact cell_at (by omega)
theorem inV_pred {k : Nat} (ps : List Nat) : inV (.int ((k : Int) - 1)) (ps.map vN) = (decide (0 < k) && decide (k - 1 ∈ ps)) := by
  by_cases h : 0 < k
  · rw [show (k : Int) - 1 = ((k - 1 : Nat) : Int) by omega, inV_vN, decide_eq_true h, Bool.true_and]
  · have e : k = 0 := by omega
    subst e
    rw [decide_eq_false (by omega), Bool.false_and]
    induction ps with
    | nil => rfl
    | cons p ps ih =>
      show (eqV (vN p) (.int ((0 : Nat) - 1 : Int)) || inV (.int (((0 : Nat) : Int) - 1)) (ps.map vN)) = _
      rw [ih, show eqV (vN p) (.int ((0 : Nat) - 1 : Int)) = ((p : Int) == ((0 : Nat) : Int) - 1) from rfl]
      have : ¬ ((p : Int) = ((0 : Nat) : Int) - 1) := by omega
      simp [this]
theorem closedN_len (cells : List Str) (ps : List Nat) : ∀ k, (closedN cells ps k).length ≤ k
  | 0 => Nat.zero_le _
  | k + 1 => by
    have := closedN_len cells ps k
    show (if closeT cells ps (closedN cells ps k) k then closedN cells ps k ++ [k] else closedN cells ps k).length ≤ k + 1
    split
    · rw [List.length_append, List.length_singleton]
      omega
    · omega
theorem rawB_len (cells : List Str) (c : Nat) (acc : List Nat) (k : Nat) : (rawB cells c acc k).length ≤ acc.length + 2 := by
  unfold rawB rawA
  split <;> split <;> simp <;> split <;> simp
theorem rawM_len (cells : List Str) (c : Nat) : ∀ (ps acc : List Nat), (ps.foldl (rawB cells c) acc).length ≤ acc.length + 2 * ps.length
  | [], acc => by simp
  | k :: ps, acc => by
    have h1 := rawM_len cells c ps (rawB cells c acc k)
    have h2 := rawB_len cells c acc k
    rw [List.foldl_cons, List.length_cons]
    omega
/-! the promises -/
def RetU (xs : List V) (H : Hp) (Q : VK) : Prop := ∀ p H2, H p = none → Ex H H2 → H2 p = some (.tup xs) → Q (.ref p) H2

def spTakes : Sp := fun vs H Q _ => ∃ (cell : Str) (c : Nat), vs = [.str cell, .str ⟨#[c]⟩] ∧ RetV (.bl (takesM cell c)) H Q
theorem sv_takes {cell : Str} {c : Nat} {G : Hp} : SpV spTakes [.str cell, .str ⟨#[c]⟩] G (.bl (takesM cell c)) := fun H1 e Q q E => ⟨_, _, rfl, q⟩
theorem ok__takes {f : Addr} {fd : FuncData} (F : Fun K "_takes" "_takes" s__takes f fd) (T : Txt K mg a_OPEN_PARTS C_Both C_Either C_Form) : FnOk P w K mg base CX0 1 f fd ["cell", "sign"] spTakes := by
  refine F.ok sc__takes (fun vs H Q E h => ?_) (fun cdv A outer s0 H vs Q E hr h => ?_)
  · obtain ⟨cell, c, rfl, _⟩ := h
    rfl
  · obtain ⟨cell, c, rfl, q⟩ := h
    refine ⟨_, (pss_cons (ps_if (pt_cmpR op_eq (pv 0) (pe_cst T.c_SOME_DIGITS (by rfl)) (nomark _))
      (pss_one (ps_ret (pe_cmpR op_in_sign (pv 1) (pe_cst T.c_DIGIT_SIGNS (by rfl)) (by rfl))))
      pss_nil)
      (pss_cons (ps_if (pt_cmpR op_eq (pv 0) (pe_cst T.c_SOME_LETTERS (by rfl)) (nomark _))
      (pss_one (ps_ret (pe_cmpR op_in_sign (pv 1) (pe_cst T.c_LETTER_SIGNS (by rfl)) (by rfl))))
      pss_nil)
      (pss_one (ps_ret (pe_cmpR op_eq (pv 0) (pv 1) (nomark _)))))), ?_⟩
    unfold takesM at q
    refine q_when (b := decide (cell = digP)) (et_test (ev_op (ev_var rfl) ev_c rv_eqS)) (fun hb H1 e1 => ?_) (fun hb H1 e1 => ?_)
    · rw [if_pos (of_decide_eq_true hb)] at q
      exact s_ret (ev_op (ev_var rfl) ev_c rv_sgn) fun H2 e2 => q H2 (e1.trans e2)
    · rw [if_neg (of_decide_eq_false hb)] at q
      refine q_when (b := decide (cell = wordP)) (et_test (ev_op (ev_var rfl) ev_c rv_eqS)) (fun hb H2 e2 => ?_) (fun hb H2 e2 => ?_)
      · rw [if_pos (of_decide_eq_true hb)] at q
        exact s_ret (ev_op (ev_var rfl) ev_c rv_sgn) fun H3 e3 => q H3 ((e1.trans e2).trans e3)
      · rw [if_neg (of_decide_eq_false hb)] at q
        exact s_ret (ev_op (ev_var rfl) (ev_var rfl) rv_eqS) fun H3 e3 => q H3 ((e1.trans e2).trans e3)
/-- positions in a list or a tuple -/
def SqA (K : PySem.W.Frag) (H : Hp) (a : Addr) (xs : List V) : Prop := SqL K H a xs ∨ SqT K H a xs
theorem ex_a {H H' : Hp} {a : Addr} {xs : List V} (e : Ex H H') (h : SqA K H a xs) : SqA K H' a xs := h.elim (fun h => .inl (ex_l e h)) (fun h => .inr (ex_t e h))
theorem rv_inA {G : Hp} {x : V} {a : Addr} {xs : List V} (h : SqA K G a xs) (hx : flatV x = true) (ha : xs.all flatV = true) : RV (rIn K false) x (.ref a) G (.bl (inV x xs)) := h.elim (fun h => rv_isL h hx ha) (fun h => rv_isT h hx ha)
def spClosed (K : PySem.W.Frag) : Sp := fun vs H Q _ => ∃ (a b : Addr) (cells : List Str) (ps : List Nat), vs = [.ref a, .ref b] ∧ SqL K H a (cells.map V.str) ∧ SqA K H b (ps.map vN) ∧ cells.length ≤ 10000 ∧ RetU ((closedM cells ps).map vN) H Q
theorem ok__closed {f : Addr} {fd : FuncData} (F : Fun K "_closed" "_closed" s__closed f fd) (T : Txt K mg a_OPEN_PARTS C_Both C_Either C_Form) : FnOk P w K mg base CX0 1 f fd ["cells", "positions"] (spClosed K) := by
  refine F.ok sc__closed (fun vs H Q E h => ?_) (fun cdv A outer s0 H vs Q E hr h => ?_)
  · obtain ⟨a, b, cells, ps, rfl, _⟩ := h
    rfl
  · obtain ⟨a, b, cells, ps, rfl, hA, hB, hl, q⟩ := h
    refine ⟨_, (pss_cons (ps_set (i := 2) sc__closed.nd rfl (Or.inl rfl) (pe_lst pa_nil))
      (pss_cons (ps_for PassesOwn.never rfl (pi_range1 (by rfl) T.n_range (pa_cons (pe_op op_add (pe_callB call_len_seq (by rfl) T.n_len PySem.boot_len (pa_cons (pv 0) pa_nil)) pe_int) pa_nil)) (pg_name (i := 3) sc__closed.nd rfl (Or.inl rfl))
      (pss_one (ps_if (PW.pt (pw_or (pt_cmpR op_in_seq (pv 3) (pv 1) (by rfl)) (pw_or1 (PW.pt (pw_and (pt_cmpR op_in_seq (pe_op op_sub (pv 3) pe_int) (pv 2) (by rfl)) (pw_and1 (pt_cmpR op_eq (pe_ix ix_list (pv 0) (pe_op op_sub (pv 3) pe_int) (fun _ _ => rfl)) (pe_cst T.c_ANY_SIGNS (by rfl)) (nomark _))))))))
      (pss_one (ps_expr (pe_bm PySem.F.plainAttrs_list PySem.F.slot_list_append PySem.F.type_list_append mt_append (pv 2) (pa_cons (pv 3) pa_nil))))
      pss_nil)))
      (pss_one (ps_ret (pe_callTy call_tuple_of (by rfl) T.n_tuple (by decide +kernel) (pa_cons (pv 2) pa_nil)))))), ?_⟩
    refine q_asgL (el_lst ea_nil (Nat.zero_le _)) fun l H1 hl0 e1 h1 => ?_
    refine q_forR1 (n := (cells.length : Int) + 1) (ea_cons (ev_is (ev_op (ev_lenL (ev_var rfl) (ex_l e1 hA)) ev_c rv_add) (by rw [List.length_map])) ea_nil) (by omega)
      (fun i σ' H' => ∃ y : Option V, σ' = [some (.ref a), some (.ref b), some (.ref l), y] ∧ Ex H H' ∧ H' l = some (.lst ((closedN cells ps i).map vN))) (fun H2 e2 => ⟨none, rfl, e1.trans e2, e2 _ _ h1⟩) ?_ ?_
    · rintro i σ' H2 hi ⟨y, rfl, e2, h2⟩
      have hi2 : i ≤ cells.length := by omega
      have hcl := closedN_len cells ps i
      refine s_when (b := closeT cells ps (closedN cells ps i) i) (et_is (et_or (et_test (ev_is (ev_op (ev_var rfl) (ev_var rfl) (rv_inA (ex_a e2 hB) rfl (flat_vN ps))) (by rw [inV_vN])))
          (fun hb => et_and (et_test (ev_is (ev_op (ev_op (ev_var rfl) ev_c rv_I0) (ev_var rfl) (rv_isL (sq_of h2) rfl (flat_vN _))) (by rw [inV_pred]))) (fun hc => et_test (ev_op (ev_op (ev_var rfl) (ev_op (ev_var rfl) ev_c rv_I0) (rv_ixL (ex_l e2 hA) (cell_at1 (by
              have := (Bool.and_eq_true _ _ ▸ hc : _ ∧ _).1
              exact of_decide_eq_true this) hi2))) ev_c rv_eqS)))) rfl) (fun hb H3 e3 => ?_) (fun hb H3 e3 => ?_)
      · refine s_app (e3 _ _ h2) (ev_var rfl) (ev_var rfl) (by rw [List.length_map]; omega) fun H4 e4 => ⟨_, rfl, Ex.mut ((e2.trans e3).trans e4) hl0, ?_⟩
        rw [upd_same]
        show some (HO.lst ((closedN cells ps i).map vN ++ [vN i])) = some (HO.lst ((if closeT cells ps (closedN cells ps i) i then closedN cells ps i ++ [i] else closedN cells ps i).map vN))
        rw [if_pos hb, List.map_append]
        rfl
      · refine ⟨_, rfl, e2.trans e3, ?_⟩
        rw [e3 _ _ h2]
        show _ = some (HO.lst ((if closeT cells ps (closedN cells ps i) i then closedN cells ps i ++ [i] else closedN cells ps i).map vN))
        rw [hb]
        rfl
    · rintro σ' H2 ⟨y, rfl, e2, h2⟩
      have en : ((cells.length : Int) + 1).toNat = cells.length + 1 := by omega
      rw [en] at h2
      have eu := eu_tupL (K := K) (σ := [some (.ref a), some (.ref b), some (.ref l), y]) (H := H2) (te := tVar 2) (ev_var rfl) (sq_of h2)
      exact eu H2 (Ex.refl _) _ fun p H3 hp e3 h3 => q p H3 (fresh_back e2 hp) (e2.trans e3) h3

def spStarted (K : PySem.W.Frag) : Sp := fun vs H Q _ => ∃ (a : Addr) (cells : List Str), vs = [.ref a] ∧ SqL K H a (cells.map V.str) ∧ cells.length ≤ 10000 ∧ RetU ((startedM cells).map vN) H Q
theorem ok_started {f : Addr} {fd : FuncData} (F : Fun K "started" "started" s_started f fd) (T : Txt K mg a_OPEN_PARTS C_Both C_Either C_Form) (D__closed : Df P w K mg base "_closed" ["cells", "positions"] 1 (spClosed K)) : FnOk P w K mg base CX0 2 f fd ["cells"] (spStarted K) := by
  refine F.ok sc_started (fun vs H Q E h => ?_) (fun cdv A outer s0 H vs Q E hr h => ?_)
  · obtain ⟨a, cells, rfl, _⟩ := h
    rfl
  · obtain ⟨a, cells, rfl, hA, hl, q⟩ := h
    refine ⟨_, (pss_one (ps_ret (pe_df D__closed (hr.mono (by decide)) (by rfl) (pa_cons (pv 0) (pa_cons (pe_lst (pa_cons pe_int pa_nil)) pa_nil))))), ?_⟩
    exact ⟨_, rfl, sz_of (by simp), fun l nl => ⟨a, l, cells, [0], rfl, ex_l (Ex.new nl) hA, .inl (sq_of upd_same), hl, fun p H2 hp e2 h2 => q p H2 (fresh_back (Ex.new nl) hp) ((Ex.new nl).trans e2) h2⟩⟩
def spMoved (K : PySem.W.Frag) : Sp := fun vs H Q _ => ∃ (a b : Addr) (cells : List Str) (ps : List Nat) (c : Nat), vs = [.ref a, .ref b, .str ⟨#[c]⟩] ∧ SqL K H a (cells.map V.str) ∧ SqT K H b (ps.map vN) ∧ cells.length ≤ 10000 ∧ ps.length ≤ 10000 ∧ (∀ k ∈ ps, k ≤ cells.length) ∧
  RetU ((movedM cells ps c).map vN) H Q
theorem lt_len {a : Nat} {b : Nat} : decide ((a : Int) < (b : Int)) = decide (a < b) := by
  by_cases h : a < b
  · rw [decide_eq_true h, decide_eq_true (by omega)]
  · rw [decide_eq_false h, decide_eq_false (by omega)]
theorem gt_zero {a : Nat} : decide ((0 : Int) < (a : Int)) = decide (0 < a) := by
  by_cases h : 0 < a
  · rw [decide_eq_true h, decide_eq_true (by omega)]
  · rw [decide_eq_false h, decide_eq_false (by omega)]

theorem ok_moved {f : Addr} {fd : FuncData} (F : Fun K "moved" "moved" s_moved f fd) (T : Txt K mg a_OPEN_PARTS C_Both C_Either C_Form) (D__takes : Df P w K mg base "_takes" ["cell", "sign"] 1 spTakes) (D__closed : Df P w K mg base "_closed" ["cells", "positions"] 1 (spClosed K)) : FnOk P w K mg base CX0 2 f fd ["cells", "positions", "sign"] (spMoved K) := by
  refine F.ok sc_moved (fun vs H Q E h => ?_) (fun cdv A outer s0 H vs Q E hr h => ?_)
  · obtain ⟨a, b, cells, ps, c, rfl, _⟩ := h
    rfl
  · obtain ⟨a, b, cells, ps, c, rfl, hA, hB, hl, hpl, hk, q⟩ := h
    refine ⟨_, (pss_cons (ps_set (i := 3) sc_moved.nd rfl (Or.inl rfl) (pe_lst pa_nil))
      (pss_cons (ps_for PassesOwn.never rfl (pi_tup (pv 1)) (pg_name (i := 4) sc_moved.nd rfl (Or.inl rfl))
      (pss_cut (ps_if (PW.pt (pw_and (pt_cmpR op_lt (pv 4) (pe_callB call_len_seq (by rfl) T.n_len PySem.boot_len (pa_cons (pv 0) pa_nil)) (nomark _)) (pw_and1 (pt_cmpR op_eq (pe_ix ix_list (pv 0) (pv 4) (fun _ _ => rfl)) (pe_cst T.c_ANY_SIGNS (by rfl)) (nomark _)))))
      (pss_one (ps_expr (pe_bm PySem.F.plainAttrs_list PySem.F.slot_list_append PySem.F.type_list_append mt_append (pv 3) (pa_cons (pv 4) pa_nil))))
      (pss_one (ps_if (PW.pt (pw_and (pt_cmpR op_lt (pv 4) (pe_callB call_len_seq (by rfl) T.n_len PySem.boot_len (pa_cons (pv 0) pa_nil)) (nomark _)) (pw_and1 (pt_val (pe_df D__takes (hr.mono (by decide)) (by rfl) (pa_cons (pe_ix ix_list (pv 0) (pv 4) (fun _ _ => rfl)) (pa_cons (pv 2) pa_nil)))))))
      (pss_one (ps_expr (pe_bm PySem.F.plainAttrs_list PySem.F.slot_list_append PySem.F.type_list_append mt_append (pv 3) (pa_cons (pe_op op_add (pv 4) pe_int) pa_nil))))
      pss_nil)))
      (pss_one (ps_if (PW.pt (pw_and (pt_cmpR op_gt (pv 4) pe_int (nomark _)) (pw_and (pt_cmpR op_in_seq (pe_ix ix_list (pv 0) (pe_op op_sub (pv 4) pe_int) (fun _ _ => rfl)) (pe_tup (pa_cons (pe_cst T.c_SOME_DIGITS (by rfl)) (pa_cons (pe_cst T.c_SOME_LETTERS (by rfl)) pa_nil))) (by rfl)) (pw_and1 (pt_val (pe_df D__takes (hr.mono (by decide)) (by rfl) (pa_cons (pe_ix ix_list (pv 0) (pe_op op_sub (pv 4) pe_int) (fun _ _ => rfl)) (pa_cons (pv 2) pa_nil))))))))
      (pss_one (ps_expr (pe_bm PySem.F.plainAttrs_list PySem.F.slot_list_append PySem.F.type_list_append mt_append (pv 3) (pa_cons (pv 4) pa_nil))))
      pss_nil))))
      (pss_one (ps_ret (pe_df D__closed (hr.mono (by decide)) (by rfl) (pa_cons (pv 0) (pa_cons (pv 3) pa_nil))))))), ?_⟩
    refine q_asgL (el_lst ea_nil (Nat.zero_le _)) fun l H1 hl0 e1 h1 => ?_
    refine q_forT (ev_var rfl) (ex_t e1 hB)
      (fun i σ' H' => ∃ y : Option V, σ' = [some (.ref a), some (.ref b), some (.str ⟨#[c]⟩), some (.ref l), y] ∧ Ex H H' ∧ H' l = some (.lst (((ps.take i).foldl (rawB cells c) []).map vN))) (fun H2 e2 => ⟨none, rfl, e1.trans e2, e2 _ _ h1⟩) (fun i σ' H' _ pv => ?_) ?_ ?_
    · obtain ⟨y, _, e2, _⟩ := pv
      exact ex_t e2 hB
    · rintro i x σ' H2 hx ⟨y, rfl, e2, h2⟩
      have hip : i < ps.length := by
        have := (List.getElem?_eq_some_iff.mp hx).1
        rw [List.length_map] at this
        exact this
      obtain ⟨k, hkk⟩ : ∃ k, ps[i]? = some k := ⟨ps[i], List.getElem?_eq_getElem hip⟩
      have ex : x = vN k := by
        rw [List.getElem?_map, hkk] at hx
        exact (Option.some.inj hx).symm
      subst ex
      have hkl : k ≤ cells.length := hk k (List.mem_of_getElem? hkk)
      have htake : (ps.take (i + 1)).foldl (rawB cells c) [] = rawB cells c ((ps.take i).foldl (rawB cells c) []) k := by
        rw [List.take_add_one, hkk, List.foldl_append]
        rfl
      have hlen := rawM_len cells c (ps.take i) []
      rw [List.length_take, List.length_nil] at hlen
      rw [htake]
      generalize (ps.take i).foldl (rawB cells c) [] = acc at h2 hlen ⊢
      have hacc : acc.length ≤ 20000 := by omega
      -- the first if: what acc is then
      have e2A := ex_l e2 hA
      refine q_cut (M := fun σ' H' => σ' = [some (.ref a), some (.ref b), some (.str ⟨#[c]⟩), some (.ref l), some (vN k)] ∧ Ex H H' ∧ H' l = some (.lst ((rawA cells c acc k).map vN))) ?_ ?_
      · have hσ : (List.set [some (V.ref a), some (.ref b), some (.str ⟨#[c]⟩), some (.ref l), y] 4 (some (vN k))) = [some (V.ref a), some (.ref b), some (.str ⟨#[c]⟩), some (.ref l), some (.int (k : Int))] := rfl
        rw [hσ]
        refine s_if (b := decide (k < cells.length) && decide (cellAt' cells k = anyP)) (et_and (et_test (ev_is (ev_op (ev_var rfl) (ev_lenL (ev_var rfl) e2A) rv_I0) (by rw [List.length_map]; exact congrArg V.bl lt_len))) fun hb => et_test (ev_op (ev_op (ev_var rfl) (ev_var rfl) (rv_ixL e2A (cell_at (of_decide_eq_true hb)))) ev_c rv_eqS))
          (fun hb H3 e3 => ?_) (fun hb H3 e3 => ?_)
        · refine s_app (e3 _ _ h2) (ev_var rfl) (ev_var rfl) (by rw [List.length_map]; omega) fun H4 e4 => ⟨rfl, Ex.mut ((e2.trans e3).trans e4) hl0, ?_⟩
          unfold rawA
          rw [upd_same, if_pos hb, List.map_append]
          rfl
        · have e3A := ex_l e3 e2A
          refine s_if (b := decide (k < cells.length) && takesM (cellAt' cells k) c) (et_and (et_test (ev_is (ev_op (ev_var rfl) (ev_lenL (ev_var rfl) e3A) rv_I0) (by rw [List.length_map]; exact congrArg V.bl lt_len))) fun hc => et_B (ev_call (ea_cons (ev_op (ev_var rfl) (ev_var rfl) (rv_ixL e3A (cell_at (of_decide_eq_true hc)))) (ea_cons (ev_var rfl) ea_nil)) sv_takes))
            (fun hc H4 e4 => ?_) (fun hc H4 e4 => ?_)
          · refine s_app (e4 _ _ (e3 _ _ h2)) (ev_var rfl) (ev_op (ev_var rfl) ev_c rv_I0) (by rw [List.length_map]; omega) fun H5 e5 => ⟨rfl, Ex.mut (((e2.trans e3).trans e4).trans e5) hl0, ?_⟩
            unfold rawA
            rw [upd_same, hb, if_neg Bool.false_ne_true, if_pos hc, List.map_append]
            rfl
          · refine ⟨rfl, (e2.trans e3).trans e4, ?_⟩
            unfold rawA
            rw [hb, if_neg Bool.false_ne_true, hc, if_neg Bool.false_ne_true]
            exact e4 _ _ (e3 _ _ h2)
      · rintro σ' H3 ⟨rfl, e3, h3⟩
        have e3A := ex_l e3 hA
        have hlA : (rawA cells c acc k).length ≤ acc.length + 1 := by
          unfold rawA
          split
          · simp
          · split <;> simp
        refine s_when (b := rawT cells c k) (et_is (et_and (et_test (ev_is (ev_op (ev_var rfl) ev_c rv_I0) (congrArg V.bl gt_zero))) fun hb => et_and (et_test (ev_is (ev_inU (ev_op (ev_var rfl) (ev_op (ev_var rfl) ev_c rv_I0) (rv_ixL e3A (cell_at1 (of_decide_eq_true hb) hkl))) (eu_tup (ea_cons ev_c (ea_cons ev_c ea_nil)) (by simp)) rfl rfl) (congrArg V.bl (inV_str _ [digP, wordP]))))
            fun hc => et_B (ev_call (ea_cons (ev_op (ev_var rfl) (ev_op (ev_var rfl) ev_c rv_I0) (rv_ixL e3A (cell_at1 (of_decide_eq_true hb) hkl))) (ea_cons (ev_var rfl) ea_nil)) sv_takes)) ?_)
          (fun hb H4 e4 => ?_) (fun hb H4 e4 => ?_)
        · unfold rawT
          rw [Bool.and_assoc]
          congr 2
          by_cases h1 : cellAt' cells (k - 1) = digP
          · simp [h1]
          · by_cases h2 : cellAt' cells (k - 1) = wordP <;> simp [h1, h2]
        · refine s_app (e4 _ _ h3) (ev_var rfl) (ev_var rfl) (by rw [List.length_map]; omega) fun H5 e5 => ⟨_, rfl, Ex.mut ((e3.trans e4).trans e5) hl0, ?_⟩
          unfold rawB
          rw [upd_same, if_pos hb, List.map_append]
          rfl
        · refine ⟨_, rfl, e3.trans e4, ?_⟩
          unfold rawB
          rw [hb, if_neg Bool.false_ne_true]
          exact e4 _ _ h3
    · rintro σ' H2 ⟨y, rfl, e2, h2⟩
      rw [List.length_map, List.take_of_length_le (Nat.le_refl _)] at h2
      refine s_retU ?_ fun p H3 hp e3 h3 => q p H3 (fresh_back e2 hp) (e2.trans e3) h3
      exact fun H3 e3 Q' q' => ⟨_, rfl, _, rfl, a, l, cells, _, rfl, ex_l (e2.trans e3) hA, .inl (sq_of (e3 _ _ h2)), hl, q'⟩
def spIsDone (K : PySem.W.Frag) : Sp := fun vs H Q _ => ∃ (a b : Addr) (cells : List Str) (ps : List Nat), vs = [.ref a, .ref b] ∧ SqL K H a (cells.map V.str) ∧ SqT K H b (ps.map vN) ∧ RetV (.bl (decide (cells.length ∈ ps))) H Q
theorem ok_is_done {f : Addr} {fd : FuncData} (F : Fun K "is_done" "is_done" s_is_done f fd) (T : Txt K mg a_OPEN_PARTS C_Both C_Either C_Form) : FnOk P w K mg base CX0 1 f fd ["cells", "positions"] (spIsDone K) := by
  refine F.ok sc_is_done (fun vs H Q E h => ?_) (fun cdv A outer s0 H vs Q E hr h => ?_)
  · obtain ⟨a, b, cells, ps, rfl, _⟩ := h
    rfl
  · obtain ⟨a, b, cells, ps, rfl, hA, hB, q⟩ := h
    refine ⟨_, (pss_one (ps_ret (pe_cmpR op_in_seq (pe_callB call_len_seq (by rfl) T.n_len PySem.boot_len (pa_cons (pv 0) pa_nil)) (pv 1) (by rfl)))), ?_⟩
    exact s_ret (ev_is (ev_op (ev_lenL (ev_var rfl) hA) (ev_var rfl) (rv_isT hB rfl (flat_vN ps))) (by rw [List.length_map]; exact congrArg V.bl (inV_vN _ ps))) q
theorem cellsM_app (ps qs : List Str) : cellsM (ps ++ qs) = cellsM ps ++ cellsM qs := by
  induction ps with
  | nil => rfl
  | cons p ps ih =>
    show cellOf1 p ++ cellsM (ps ++ qs) = (cellOf1 p ++ cellsM ps) ++ cellsM qs
    rw [ih, List.append_assoc]
theorem cellOf1_len {p : Str} (h : p.length ≤ 100) : (cellOf1 p).length ≤ 100 := by
  unfold cellOf1
  split
  · simp
  · unfold signsOf
    rw [List.length_map]
    simpa [Str.length] using h
theorem cellsM_len {ps : List Str} (h : ∀ p ∈ ps, p.length ≤ 100) : (cellsM ps).length ≤ 100 * ps.length := by
  induction ps with
  | nil => simp [cellsM]
  | cons p ps ih =>
    have h1 := cellOf1_len (h p List.mem_cons_self)
    have h2 := ih fun q hq => h q (List.mem_cons_of_mem _ hq)
    show (cellOf1 p ++ cellsM ps).length ≤ _
    rw [List.length_append, List.length_cons]
    omega
/-- what a list that is handed back is -/
def spCells (K : PySem.W.Frag) : Sp := fun vs H Q _ => ∃ (a : Addr) (ps : List Str), vs = [.ref a] ∧ SqL K H a (ps.map V.str) ∧ ps.length ≤ 100 ∧ (∀ p ∈ ps, p.length ≤ 100) ∧ RetL ((cellsM ps).map V.str) H Q
def spCellsT (K : PySem.W.Frag) : Sp := fun vs H Q _ => ∃ (a : Addr) (ps : List Str), vs = [.ref a] ∧ SqT K H a (ps.map V.str) ∧ ps.length ≤ 100 ∧ (∀ p ∈ ps, p.length ≤ 100) ∧ RetL ((cellsM ps).map V.str) H Q
theorem cells_turn {σ : L2.St} {H H2 : Hp} {l : Addr} {i : Nat} {ps : List Str} {p : Str} {y : Addr} {a : Addr} {D : Ends} (T : Txt K mg a_OPEN_PARTS C_Both C_Either C_Form) (hp : ps[i]? = some p) (hl : ∀ p ∈ ps, p.length ≤ 100) (hn : ps.length ≤ 100) (hl0 : H l = none) (e2 : Ex H H2) (h2 : H2 l = some (.lst ((cellsM (ps.take i)).map V.str)))
    (k : ∀ H', Ex H H' → H' l = some (.lst ((cellsM (ps.take (i + 1))).map V.str)) → D.nx [some (.ref a), some (.ref l), some (.str p)] H') :
    tIfS (tTest (tOp (rIn K false) (tVar 2) (tC (.ref a_OPEN_PARTS)))) (tDrop (tBM K "list" rAppend (tVar 1) (tCons (tVar 2) tNil))) (tDrop (tBM K "list" rExtend (tVar 1) (tCons (tCB rListStr (tCons (tVar 2) tNil)) tNil))) D [some (.ref a), some (.ref l), some (.str p)] H2 := by
  have hpm := List.mem_of_getElem? hp
  have hp1 := hl p hpm
  have ht : cellsM (ps.take (i + 1)) = cellsM (ps.take i) ++ cellOf1 p := by
    rw [List.take_add_one, hp, cellsM_app]
    show cellsM (ps.take i) ++ (cellOf1 p ++ []) = _
    rw [List.append_nil]
  have hlen : (cellsM (ps.take i)).length ≤ 10000 := by
    have h1 := cellsM_len (ps := ps.take i) fun q hq => hl q (List.mem_of_mem_take hq)
    have h2 : (ps.take i).length ≤ ps.length := by
      rw [List.length_take]
      omega
    omega
  rw [ht] at k
  refine s_if (b := isOpen p) (et_test (ev_op (ev_var rfl) ev_c (rv_isT T.o_OPEN_PARTS.at_ rfl rfl))) (fun hb H3 e3 => ?_) (fun hb H3 e3 => ?_)
  · have e1 : cellOf1 p = [p] := if_pos hb
    rw [e1] at k
    refine s_app (e3 _ _ h2) (ev_var rfl) (ev_var rfl) (by rw [List.length_map]; omega) fun H4 e4 => k _ (Ex.mut ((e2.trans e3).trans e4) hl0) ?_
    rw [upd_same, List.map_append]
    rfl
  · have e1 : cellOf1 p = signsOf p := by
      unfold cellOf1
      rw [hb]
      rfl
    rw [e1] at k
    have hs : (signsOf p).length = p.length := by
      unfold signsOf
      rw [List.length_map]
      simp [Str.length]
    refine s_extL (ys := (signsOf p).map V.str) (e3 _ _ h2) (ev_var rfl) (by rw [← chars_eq]; exact el_listS (ev_var rfl) (by omega)) (by rw [List.length_map, List.length_map, hs]; omega) fun q H4 hq e4 => k _ (Ex.mut ((e2.trans e3).trans e4) hl0) ?_
    rw [upd_same, List.map_append]

theorem ok_cells_of {f : Addr} {fd : FuncData} (F : Fun K "cells_of" "cells_of" s_cells_of f fd) (T : Txt K mg a_OPEN_PARTS C_Both C_Either C_Form) : FnOk P w K mg base CX0 1 f fd ["parts"] (spCells K) := by
  refine F.ok sc_cells_of (fun vs H Q E h => ?_) (fun cdv A outer s0 H vs Q E hr h => ?_)
  · obtain ⟨a, ps, rfl, _⟩ := h
    rfl
  · obtain ⟨a, ps, rfl, hA, hn, hl, q⟩ := h
    refine ⟨_, (pss_cons (ps_set (i := 1) sc_cells_of.nd rfl (Or.inl rfl) (pe_lst pa_nil))
      (pss_cons (ps_for PassesOwn.never rfl (pi_list (pv 0)) (pg_name (i := 2) sc_cells_of.nd rfl (Or.inl rfl))
      (pss_one (ps_if (pt_cmpR op_in_seq (pv 2) (pe_cst T.c_OPEN_PARTS (by rfl)) (by rfl))
      (pss_one (ps_expr (pe_bm PySem.F.plainAttrs_list PySem.F.slot_list_append PySem.F.type_list_append mt_append (pv 1) (pa_cons (pv 2) pa_nil))))
      (pss_one (ps_expr (pe_bm PySem.F.plainAttrs_list PySem.F.slot_list_extend PySem.F.type_list_extend mt_extend (pv 1) (pa_cons (pe_callTy (call_listS rfl) (by rfl) T.n_list (by decide +kernel) (pa_cons (pv 2) pa_nil)) pa_nil)))))))
      (pss_one (ps_ret (pv 1))))), ?_⟩
    refine q_asgL (el_lst ea_nil (Nat.zero_le _)) fun l H1 hl0 e1 h1 => ?_
    refine q_forLn (ev_var rfl) (ex_l e1 hA) (fun i σ' H' => ∃ y : Option V, σ' = [some (.ref a), some (.ref l), y] ∧ Ex H H' ∧ H' l = some (.lst ((cellsM (ps.take i)).map V.str))) (fun H2 e2 => ⟨none, rfl, e1.trans e2, e2 _ _ h1⟩) (fun i σ' H' _ pv => ?_) ?_ ?_
    · obtain ⟨y, _, e2, _⟩ := pv
      exact ex_l e2 hA
    · rintro i x σ' H2 hx ⟨y, rfl, e2, h2⟩
      obtain ⟨p, hp, rfl⟩ : ∃ p, ps[i]? = some p ∧ x = .str p := by
        rw [List.getElem?_map] at hx
        cases hq : ps[i]? with
        | none =>
          rw [hq] at hx
          cases hx
        | some p =>
          rw [hq] at hx
          exact ⟨p, rfl, (Option.some.inj hx).symm⟩
      exact cells_turn (σ := []) (y := a) T hp hl hn hl0 e2 h2 fun H' e' h' => ⟨_, rfl, e', h'⟩
    · rintro σ' H2 ⟨y, rfl, e2, h2⟩
      rw [List.length_map, List.take_of_length_le (Nat.le_refl _)] at h2
      exact s_ret (ev_var rfl) fun H3 e3 => q l H3 hl0 (e2.trans e3) (e3 _ _ h2)
theorem ok_cells_of__t {f : Addr} {fd : FuncData} (F : Fun K "cells_of" "cells_of" s_cells_of f fd) (T : Txt K mg a_OPEN_PARTS C_Both C_Either C_Form) : FnOk P w K mg base CX0 1 f fd ["parts"] (spCellsT K) := by
  refine F.ok sc_cells_of (fun vs H Q E h => ?_) (fun cdv A outer s0 H vs Q E hr h => ?_)
  · obtain ⟨a, ps, rfl, _⟩ := h
    rfl
  · obtain ⟨a, ps, rfl, hA, hn, hl, q⟩ := h
    refine ⟨_, (pss_cons (ps_set (i := 1) sc_cells_of.nd rfl (Or.inl rfl) (pe_lst pa_nil))
      (pss_cons (ps_for PassesOwn.never rfl (pi_tup (pv 0)) (pg_name (i := 2) sc_cells_of.nd rfl (Or.inl rfl))
      (pss_one (ps_if (pt_cmpR op_in_seq (pv 2) (pe_cst T.c_OPEN_PARTS (by rfl)) (by rfl))
      (pss_one (ps_expr (pe_bm PySem.F.plainAttrs_list PySem.F.slot_list_append PySem.F.type_list_append mt_append (pv 1) (pa_cons (pv 2) pa_nil))))
      (pss_one (ps_expr (pe_bm PySem.F.plainAttrs_list PySem.F.slot_list_extend PySem.F.type_list_extend mt_extend (pv 1) (pa_cons (pe_callTy (call_listS rfl) (by rfl) T.n_list (by decide +kernel) (pa_cons (pv 2) pa_nil)) pa_nil)))))))
      (pss_one (ps_ret (pv 1))))), ?_⟩
    refine q_asgL (el_lst ea_nil (Nat.zero_le _)) fun l H1 hl0 e1 h1 => ?_
    refine q_forT (ev_var rfl) (ex_t e1 hA) (fun i σ' H' => ∃ y : Option V, σ' = [some (.ref a), some (.ref l), y] ∧ Ex H H' ∧ H' l = some (.lst ((cellsM (ps.take i)).map V.str))) (fun H2 e2 => ⟨none, rfl, e1.trans e2, e2 _ _ h1⟩) (fun i σ' H' _ pv => ?_) ?_ ?_
    · obtain ⟨y, _, e2, _⟩ := pv
      exact ex_t e2 hA
    · rintro i x σ' H2 hx ⟨y, rfl, e2, h2⟩
      obtain ⟨p, hp, rfl⟩ : ∃ p, ps[i]? = some p ∧ x = .str p := by
        rw [List.getElem?_map] at hx
        cases hq : ps[i]? with
        | none =>
          rw [hq] at hx
          cases hx
        | some p =>
          rw [hq] at hx
          exact ⟨p, rfl, (Option.some.inj hx).symm⟩
      exact cells_turn (σ := []) (y := a) T hp hl hn hl0 e2 h2 fun H' e' h' => ⟨_, rfl, e', h'⟩
    · rintro σ' H2 ⟨y, rfl, e2, h2⟩
      rw [List.length_map, List.take_of_length_le (Nat.le_refl _)] at h2
      exact s_ret (ev_var rfl) fun H3 e3 => q l H3 hl0 (e2.trans e3) (e3 _ _ h2)

/-! ### drawn signs, texts -/
theorem evp_take {σ : L2.St} {G : Hp} {p : Addr} {s : Int × Int} {n : Int} {i : Nat} (hi : σ[i]? = some (some (.ref p))) (hk : Pk s) (h0 : 0 < n) (h1 : n < 2 ^ 60) :
    EvP (tCall spTake [] E0 (tCons (tVar i) (tCons (tC (.int n)) tNil))) σ G p s (.int (take s n).1) (take s n).2 :=
  evp_call (EvAP.of (ea_cons (ev_var hi) (ea_cons ev_c ea_nil))) (sp_take hk h0 h1)
/-- the sign of a text that a draw picks -/
def sgn (z : Str) (d : Int) : Nat := z.cps.toList.getD d.toNat 0
theorem str_len (z : Str) : z.length = z.cps.toList.length := by simp [Str.length]
theorem sgn_ix {z : Str} {d : Int} (h0 : 0 ≤ d) (h : d < (z.length : Int)) : atI z.cps.toList d = some (sgn z d) := by
  have ez := str_len z
  have h3 : d.toNat < z.cps.toList.length := by omega
  unfold atI ixN sgn
  rw [if_pos h0, if_pos (by omega)]
  show z.cps.toList[d.toNat]? = _
  rw [List.getElem?_eq_getElem h3, List.getD_eq_getElem?_getD, List.getElem?_eq_getElem h3]
  rfl
theorem sgn_mem {z : Str} {d : Int} (h0 : 0 ≤ d) (h : d < (z.length : Int)) : sgn z d ∈ z.cps.toList := by
  have ez := str_len z
  have h3 : d.toNat < z.cps.toList.length := by omega
  unfold sgn
  rw [List.getD_eq_getElem?_getD, List.getElem?_eq_getElem h3]
  exact List.getElem_mem h3
theorem len_signs : signsS.length = 68 := by decide +kernel
theorem app1_len (z : Str) (c : Nat) : (z ++ (⟨#[c]⟩ : Str)).length = z.length + 1 := by
  show (z.cps ++ #[c]).size = z.cps.size + 1
  simp
theorem app1_list (z : Str) (c : Nat) : (z ++ (⟨#[c]⟩ : Str)).cps.toList = z.cps.toList ++ [c] := by
  show (z.cps ++ #[c]).toList = _
  simp
theorem app_len (z y : Str) : (z ++ y).length = z.length + y.length := by
  show (z.cps ++ y.cps).size = z.cps.size + y.cps.size
  simp
theorem app_list (z y : Str) : (z ++ y).cps.toList = z.cps.toList ++ y.cps.toList := by
  show (z.cps ++ y.cps).toList = _
  simp
/-- all its signs are signs of lines -/
def Lny (z : Str) : Prop := ∀ c ∈ z.cps.toList, c ∈ signsS.cps.toList
theorem lny_nil : Lny ("" : Str) := by
  unfold Lny
  decide +kernel
theorem lny_app {z y : Str} (h : Lny z) (k : Lny y) : Lny (z ++ y) := fun c hc => by
  rw [app_list] at hc
  exact (List.mem_append.mp hc).elim (h c) (k c)
theorem lny_1 {c : Nat} (h : c ∈ signsS.cps.toList) : Lny ⟨#[c]⟩ := fun d hd => by
  rw [List.mem_singleton.mp hd]
  exact h
theorem lny_sgn {z : Str} {d : Int} (hz : Lny z) (h0 : 0 ≤ d) (h : d < (z.length : Int)) : Lny ⟨#[sgn z d]⟩ := lny_1 (hz _ (sgn_mem h0 h))
theorem sign_lt {c : Nat} (h : c ∈ signsS.cps.toList) : c < 128 := by
  have : ∀ c ∈ signsS.cps.toList, c < 128 := by decide +kernel
  exact this c h
theorem lny_ok {z : Str} (h : Lny z) : okV (.str z) = true := by
  show z.cps.all (fun x => decide (x < 0x110000)) = true
  rw [← Array.all_toList]
  exact List.all_eq_true.mpr fun c hc => decide_eq_true (by have := sign_lt (h c hc); omega)
/-! _law_text -/
def fewS : Str := "a1-b"
def textT (style : Int) (st : Str × (Int × Int)) : Str × (Int × Int) :=
  if style = 0 then (st.1 ++ ⟨#[sgn signsS (take st.2 68).1]⟩, (take st.2 68).2) else (st.1 ++ ⟨#[sgn fewS (take st.2 4).1]⟩, (take st.2 4).2)
def textN (style : Int) : Nat → Str × (Int × Int) → Str × (Int × Int)
  | 0, st => st
  | i + 1, st => textT style (textN style i st)
def lawText (s : Int × Int) : Str × (Int × Int) := textN (take s 3).1 (1 + (take (take s 3).2 4).1).toNat (("" : Str), (take (take s 3).2 4).2)
theorem textT_ok {style : Int} {st : Str × (Int × Int)} (h : Pk st.2) (l : Lny st.1) : Pk (textT style st).2 ∧ Lny (textT style st).1 ∧ (textT style st).1.length = st.1.length + 1 := by
  have t1 := take_lt (s := st.2) (n := 68) (by decide)
  have t2 := take_lt (s := st.2) (n := 4) (by decide)
  unfold textT
  split
  · exact ⟨take_pk h, lny_app l (lny_sgn (fun _ z => z) t1.1 (by rw [len_signs]; exact t1.2)), app1_len _ _⟩
  · exact ⟨take_pk h, lny_app l (lny_sgn (z := fewS) (by unfold Lny; decide +kernel) t2.1 (by rw [show fewS.length = 4 by decide +kernel]; exact t2.2)), app1_len _ _⟩
theorem textN_ok {style : Int} {s : Int × Int} (h : Pk s) : ∀ n, Pk (textN style n (("" : Str), s)).2 ∧ Lny (textN style n (("" : Str), s)).1 ∧ (textN style n (("" : Str), s)).1.length = n
  | 0 => ⟨h, lny_nil, by
    show ("" : Str).length = 0
    decide +kernel⟩
  | n + 1 => by
    obtain ⟨h1, h2, h3⟩ := textN_ok h n (style := style)
    obtain ⟨k1, k2, k3⟩ := textT_ok (style := style) h1 h2
    exact ⟨k1, k2, by rw [h3] at k3; exact k3⟩
theorem lawText_ok {s : Int × Int} (h : Pk s) : Pk (lawText s).2 ∧ Lny (lawText s).1 ∧ 1 ≤ (lawText s).1.length ∧ (lawText s).1.length ≤ 4 := by
  have t2 := take_lt (s := (take s 3).2) (n := 4) (by decide)
  obtain ⟨h1, h2, h3⟩ := textN_ok (style := (take s 3).1) (take_pk (n := 4) (take_pk (n := 3) h)) (1 + (take (take s 3).2 4).1).toNat
  exact ⟨h1, h2, by unfold lawText; omega, by unfold lawText; omega⟩
def spPT (f : Int × Int → Str × (Int × Int)) : Sp := fun vs H Q _ => ∃ (p : Addr) (s : Int × Int), vs = [.ref p] ∧ H p = some (pl s) ∧ Pk s ∧ RetP p (f s).2 (.str (f s).1) H Q
theorem evp_pt {f : Int × Int → Str × (Int × Int)} {σ : L2.St} {G : Hp} {p : Addr} {s : Int × Int} {i : Nat} (hi : σ[i]? = some (some (.ref p))) (hk : Pk s) :
    EvP (tCall (spPT f) [] E0 (tCons (tVar i) tNil)) σ G p s (.str (f s).1) (f s).2 :=
  evp_call (EvAP.of (ea_cons (ev_var hi) ea_nil)) fun H k Q q _ => ⟨p, s, rfl, k.at_, hk, q⟩
/-! ### _law_rich -/
def openL (p : Str) : Bool := decide (p ∈ [anyP, digP, wordP])
theorem openL_eq (p : Str) : openL p = isOpen p := by
  rw [isOpen_eq]
  unfold openL
  simp only [List.mem_cons, List.not_mem_nil, or_false]
  congr 1
  apply propext
  constructor
  · rintro (h | h | h)
    · exact .inr (.inr h)
    · exact .inl h
    · exact .inr (.inl h)
  · rintro (h | h | h)
    · exact .inr (.inl h)
    · exact .inr (.inr h)
    · exact .inl h
def lastFixed (ps : List Str) : Bool := !ps.isEmpty && !isOpen (ps.getLast?.getD "")
def richT (st : List Str × (Int × Int)) : List Str × (Int × Int) :=
  if (take st.2 6).1 = 0 ∧ anyP ∉ st.1 then (st.1 ++ [anyP], (take st.2 6).2)
  else if (take st.2 6).1 = 1 then (st.1 ++ [digP], (take st.2 6).2)
  else if (take st.2 6).1 = 2 ∨ lastFixed st.1 = true then (st.1 ++ [wordP], (take st.2 6).2)
  else (st.1 ++ [(lawText (take st.2 6).2).1], (lawText (take st.2 6).2).2)
def richN : Nat → List Str × (Int × Int) → List Str × (Int × Int)
  | 0, st => st
  | i + 1, st => richT (richN i st)
def rich (s : Int × Int) : List Str × (Int × Int) := richN (1 + (take s 4).1).toNat ([], (take s 4).2)
/-- a fixed text of one to four signs -/
def fixedP (p : Str) : Prop := Lny p ∧ 1 ≤ p.length ∧ p.length ≤ 4
/-- parts that make a form -/
structure Parts (ps : List Str) : Prop where
  each : ∀ p ∈ ps, isOpen p = true ∨ fixedP p
  adj : ∀ (i : Nat) (p q : Str), ps[i]? = some p → ps[i + 1]? = some q → isOpen p = true ∨ isOpen q = true
  one : ∀ i j : Nat, ps[i]? = some anyP → ps[j]? = some anyP → i = j
theorem parts_nil : Parts [] := ⟨fun _ h => (nomatch h), fun _ _ _ h => (nomatch h), fun _ _ h => (nomatch h)⟩
theorem open_any : isOpen anyP = true := by decide +kernel
theorem open_dig : isOpen digP = true := by decide +kernel
theorem open_word : isOpen wordP = true := by decide +kernel
theorem app_get {α : Type} {xs : List α} {x y : α} {i : Nat} (h : (xs ++ [x])[i]? = some y) : xs[i]? = some y ∨ (i = xs.length ∧ x = y) := by
  by_cases hi : i < xs.length
  · rw [List.getElem?_append_left hi] at h
    exact .inl h
  · rw [List.getElem?_append_right (by omega)] at h
    by_cases e : i = xs.length
    · subst e
      rw [Nat.sub_self] at h
      exact .inr ⟨rfl, Option.some.inj h⟩
    · rw [List.getElem?_eq_none_iff.mpr (by simp; omega)] at h
      cases h
/-- one part more -/
theorem Parts.snoc {ps : List Str} {p : Str} (h : Parts ps) (he : isOpen p = true ∨ fixedP p) (ha : isOpen p = true ∨ lastFixed ps = false) (ho : p = anyP → anyP ∉ ps) : Parts (ps ++ [p]) := by
  refine ⟨fun q hq => ?_, fun i x y hx hy => ?_, fun i j hi hj => ?_⟩
  · rcases List.mem_append.mp hq with hq | hq
    · exact h.each q hq
    · rw [List.mem_singleton.mp hq]
      exact he
  · rcases app_get hy with hy' | ⟨e, rfl⟩
    · rcases app_get hx with hx' | ⟨e, rfl⟩
      · exact h.adj i x y hx' hy'
      · have := (List.getElem?_eq_some_iff.mp hy').1
        omega
    · rcases ha with ha | ha
      · exact .inr ha
      · left
        rcases app_get hx with hx' | ⟨e', _⟩
        · have hl : ps.getLast? = some x := by
            rw [List.getLast?_eq_getElem?, ← hx']
            congr 1
            omega
          unfold lastFixed at ha
          rw [hl] at ha
          have hne : ps.isEmpty = false := by
            cases ps with
            | nil => cases hx'
            | cons _ _ => rfl
          rw [hne] at ha
          simpa using ha
        · omega
  · rcases app_get hi with hi' | ⟨e, ep⟩
    · rcases app_get hj with hj' | ⟨e', ep'⟩
      · exact h.one i j hi' hj'
      · exact absurd (List.mem_of_getElem? hi') (ho ep')
    · rcases app_get hj with hj' | ⟨e', ep'⟩
      · exact absurd (List.mem_of_getElem? hj') (ho ep)
      · omega
theorem richT_ok {st : List Str × (Int × Int)} (h : Pk st.2) (hp : Parts st.1) : Pk (richT st).2 ∧ Parts (richT st).1 ∧ (richT st).1.length = st.1.length + 1 := by
  have hk : Pk (take st.2 6).2 := take_pk h
  have ht := lawText_ok hk
  unfold richT
  split
  · rename_i hc
    exact ⟨hk, hp.snoc (.inl open_any) (.inl open_any) (fun _ => hc.2), by simp⟩
  · split
    · exact ⟨hk, hp.snoc (.inl open_dig) (.inl open_dig) (fun e => absurd e (by decide +kernel)), by simp⟩
    · split
      · exact ⟨hk, hp.snoc (.inl open_word) (.inl open_word) (fun e => absurd e (by decide +kernel)), by simp⟩
      · rename_i hc
        refine ⟨ht.1, hp.snoc (.inr ⟨ht.2.1, ht.2.2⟩) (.inr ?_) (fun e => ?_), by simp⟩
        · cases hl : lastFixed st.1 with
          | false => rfl
          | true => exact absurd (.inr hl) hc
        · have h4 := ht.2.2.2
          rw [e] at h4
          exact absurd h4 (by decide +kernel)
theorem richN_ok {s : Int × Int} (h : Pk s) : ∀ n, Pk (richN n ([], s)).2 ∧ Parts (richN n ([], s)).1 ∧ (richN n ([], s)).1.length = n
  | 0 => ⟨h, parts_nil, rfl⟩
  | n + 1 => by
    obtain ⟨h1, h2, h3⟩ := richN_ok h n
    obtain ⟨k1, k2, k3⟩ := richT_ok h1 h2
    exact ⟨k1, k2, by rw [h3] at k3; exact k3⟩
theorem rich_ok {s : Int × Int} (h : Pk s) : Pk (rich s).2 ∧ Parts (rich s).1 ∧ 1 ≤ (rich s).1.length ∧ (rich s).1.length ≤ 4 := by
  have t := take_lt (s := s) (n := 4) (by decide)
  obtain ⟨h1, h2, h3⟩ := richN_ok (take_pk (n := 4) h) (1 + (take s 4).1).toNat
  exact ⟨h1, h2, by unfold rich; omega, by unfold rich; omega⟩
theorem open_len {p : Str} (h : isOpen p = true) : p.length ≤ 8 := by
  rcases isOpen_iff.mp h with rfl | rfl | rfl <;> decide +kernel
theorem open_ok {p : Str} (h : isOpen p = true) : okV (.str p) = true := by
  rcases isOpen_iff.mp h with rfl | rfl | rfl <;> decide +kernel
theorem Parts.len {ps : List Str} (h : Parts ps) : ∀ p ∈ ps, p.length ≤ 8 := fun p hp => (h.each p hp).elim open_len (fun k => by have := k.2.2; omega)
theorem Parts.okV {ps : List Str} (h : Parts ps) : ∀ v ∈ ps.map V.str, okV v = true := fun v hv => by
  obtain ⟨p, hp, rfl⟩ := List.mem_map.mp hv
  exact (h.each p hp).elim open_ok (fun k => lny_ok k.1)
/-- what hands back a new list, the pool at p then s' -/
def RetPL (p : Addr) (s' : Int × Int) (xs : List V) (H : Hp) (Q : VK) : Prop := ∀ l H', H l = none → Ex (hide p H) H' → H' p = some (pl s') → H' l = some (.lst xs) → Q (.ref l) H'
def spRich : Sp := fun vs H Q _ => ∃ (p : Addr) (s : Int × Int), vs = [.ref p] ∧ H p = some (pl s) ∧ Pk s ∧ RetPL p (rich s).2 ((rich s).1.map V.str) H Q
/-! ### _law_takes, _law_ends, _law_fits -/
def ltakes (p : Str) (c : Nat) : Bool := if p = digP then decide (c ∈ digS.cps.toList) else decide (p = wordP) && decide (c ∈ letS.cps.toList)
def spLtakes : Sp := fun vs H Q _ => ∃ (p : Str) (c : Nat), vs = [.str p, .str ⟨#[c]⟩] ∧ RetV (.bl (ltakes p c)) H Q
theorem sv_ltakes {p : Str} {c : Nat} {G : Hp} : SpV spLtakes [.str p, .str ⟨#[c]⟩] G (.bl (ltakes p c)) := fun H1 e Q q E => ⟨_, _, rfl, q⟩
theorem ok__law_takes {f : Addr} {fd : FuncData} (F : Fun K "_law_takes" "_law_takes" s__law_takes f fd) : FnOk P w K mg base CX0 1 f fd ["part", "sign"] spLtakes := by
  refine F.ok sc__law_takes (fun vs H Q E h => ?_) (fun cdv A outer s0 H vs Q E hr h => ?_)
  · obtain ⟨p, c, rfl, _⟩ := h
    rfl
  · obtain ⟨p, c, rfl, q⟩ := h
    refine ⟨_, (pss_cons (ps_if (pt_cmpR op_eq (pv 0) pe_str (nomark _))
      (pss_one (ps_ret (pe_cmpR op_in_sign (pv 1) pe_str (by rfl))))
      pss_nil)
      (pss_one (ps_ret (pe_and (pe_cmpR op_eq (pv 0) pe_str (nomark _)) (pe_one (pe_cmpR op_in_sign (pv 1) pe_str (by rfl))))))), ?_⟩
    unfold ltakes at q
    refine q_when (b := decide (p = digP)) (et_test (ev_op (ev_var rfl) ev_c rv_eqS)) (fun hb H1 e1 => ?_) (fun hb H1 e1 => ?_)
    · rw [if_pos (of_decide_eq_true hb)] at q
      exact s_ret (ev_op (ev_var rfl) ev_c rv_sgn) fun H2 e2 => q H2 (e1.trans e2)
    · rw [if_neg (of_decide_eq_false hb)] at q
      exact s_ret (ev_andV (ev_op (ev_var rfl) ev_c rv_eqS) fun _ => ev_op (ev_var rfl) ev_c rv_sgn) fun H2 e2 => q H2 (e1.trans e2)
theorem while_iff {α : Type} (p : α → Bool) : ∀ (l : List α) (j : Nat), j ≤ (l.takeWhile p).length → (j < (l.takeWhile p).length ↔ ∃ x, l[j]? = some x ∧ p x = true)
  | [], j, _ => by simp
  | x :: l, 0, _ => by
    by_cases h : p x = true
    · simp [List.takeWhile_cons, h]
    · simp [List.takeWhile_cons, h]
  | x :: l, j + 1, h => by
    by_cases hx : p x = true
    · have e : (x :: l).takeWhile p = x :: l.takeWhile p := by simp [List.takeWhile_cons, hx]
      rw [e, List.length_cons] at h ⊢
      have := while_iff p l j (by omega)
      rw [show (x :: l)[j + 1]? = l[j]? from rfl]
      constructor
      · intro q
        exact this.mp (by omega)
      · intro q
        have := this.mpr q
        omega
    · have e : (x :: l).takeWhile p = [] := by simp [List.takeWhile_cons, hx]
      rw [e] at h
      simp at h
/-- how many signs from a place on a part takes -/
def run (p : Str) (z : Str) (a : Nat) : Nat := ((z.cps.toList.drop a).takeWhile (ltakes p)).length
def from1 (a n : Nat) : List Nat := (List.range n).map fun i => a + i
def endsM (p z : Str) (a : Nat) : List Nat :=
  if p = anyP then from1 a (z.length + 1 - a)
  else if p = digP ∨ p = wordP then from1 (a + 1) (run p z a)
  else if (⟨((z.cps.toList.drop a).take p.length).toArray⟩ : Str) = p then [a + p.length] else []
theorem run_le (p z : Str) (a : Nat) : run p z a ≤ z.length - a := by
  unfold run
  have h := (List.takeWhile_sublist (l := z.cps.toList.drop a) (ltakes p)).length_le
  rw [List.length_drop, ← str_len] at h
  exact h
theorem from1_mem {a n e : Nat} : e ∈ from1 a n ↔ a ≤ e ∧ e < a + n := by
  unfold from1
  rw [List.mem_map]
  constructor
  · rintro ⟨i, hi, rfl⟩
    have := List.mem_range.mp hi
    omega
  · rintro ⟨h1, h2⟩
    exact ⟨e - a, List.mem_range.mpr (by omega), by omega⟩
theorem from1_nd (a n : Nat) : (from1 a n).Nodup := by
  unfold from1
  exact List.Pairwise.map _ (fun x y h => by omega) List.nodup_range
theorem ends_nd (p z : Str) (a : Nat) : (endsM p z a).Nodup := by
  unfold endsM
  split
  · exact from1_nd _ _
  · split
    · exact from1_nd _ _
    · split <;> simp
theorem ends_le {p z : Str} {a e : Nat} (h : e ∈ endsM p z a) (ha : a ≤ z.length) : e ≤ z.length := by
  unfold endsM at h
  split at h
  · have := from1_mem.mp h
    omega
  · split at h
    · have := from1_mem.mp h
      have := run_le p z a
      omega
    · split at h
      · rename_i h3
        have hl : ((z.cps.toList.drop a).take p.length).length = p.length := by
          have := congrArg Str.length h3
          simpa [Str.length] using this
        rw [List.length_take, List.length_drop, ← str_len] at hl
        rw [List.mem_singleton.mp h]
        omega
      · cases h
theorem ends_len {p z : Str} {a : Nat} : (endsM p z a).length ≤ z.length + 1 := by
  unfold endsM
  split
  · simp [from1]
  · split
    · have := run_le p z a
      simp [from1]
      omega
    · split <;> simp
def spEnds : Sp := fun vs H Q _ => ∃ (p z : Str) (a : Nat), vs = [.str p, .str z, .int (a : Int)] ∧ z.length ≤ 1000 ∧ p.length ≤ 1000 ∧ a ≤ z.length ∧ RetL ((endsM p z a).map vN) H Q
theorem ok__law_ends {f : Addr} {fd : FuncData} (F : Fun K "_law_ends" "_law_ends" s__law_ends f fd) (T : Txt K mg a_OPEN_PARTS C_Both C_Either C_Form) (D__law_takes : Df P w K mg base "_law_takes" ["part", "sign"] 1 spLtakes) : FnOk P w K mg base CX0 2 f fd ["part", "line", "at"] spEnds := by
  refine F.ok sc__law_ends (fun vs H Q E h => ?_) (fun cdv A outer s0 H vs Q E hr h => ?_)
  · obtain ⟨p, z, a, rfl, _⟩ := h
    rfl
  · obtain ⟨p, z, a, rfl, hz, hpl, ha, q⟩ := h
    refine ⟨_, (pss_cons (ps_if (pt_cmpR op_eq (pv 0) pe_str (nomark _))
      (pss_one (ps_ret (pe_listRg rfl (by rfl) T.n_list (prg_2 (by rfl) T.n_range (pv 2) (pe_op op_add (pe_callB call_len_str (by rfl) T.n_len PySem.boot_len (pa_cons (pv 1) pa_nil)) pe_int)))))
      pss_nil)
      (pss_cons (ps_set (i := 3) sc__law_ends.nd rfl (Or.inl rfl) (pe_lst pa_nil))
      (pss_cut (ps_if (pt_cmpR op_in_seq (pv 0) (pe_tup (pa_cons pe_str (pa_cons pe_str pa_nil))) (by rfl))
      (pss_cons (ps_set (i := 4) sc__law_ends.nd rfl (Or.inl rfl) (pv 2))
      (pss_one (ps_while PassesOwn.never (PW.pt (pw_and (pt_cmpR op_lt (pv 4) (pe_callB call_len_str (by rfl) T.n_len PySem.boot_len (pa_cons (pv 1) pa_nil)) (nomark _)) (pw_and1 (pt_val (pe_df D__law_takes (hr.mono (by decide)) (by rfl) (pa_cons (pv 0) (pa_cons (pe_ix ix_str (pv 1) (pv 4) (fun _ _ => rfl)) pa_nil)))))))
      (pss_cons (ps_set (i := 4) sc__law_ends.nd rfl (Or.inl rfl) (pe_op op_add (pv 4) pe_int))
      (pss_one (ps_expr (pe_bm PySem.F.plainAttrs_list PySem.F.slot_list_append PySem.F.type_list_append mt_append (pv 3) (pa_cons (pv 4) pa_nil))))))))
      (pss_one (ps_if (pt_cmpR op_eq (pe_slice sl_str (pv 1) (po_some (pv 2)) (po_some (pe_op op_add (pv 2) (pe_callB call_len_str (by rfl) T.n_len PySem.boot_len (pa_cons (pv 0) pa_nil))))) (pv 0) (nomark _))
      (pss_one (ps_expr (pe_bm PySem.F.plainAttrs_list PySem.F.slot_list_append PySem.F.type_list_append mt_append (pv 3) (pa_cons (pe_op op_add (pv 2) (pe_callB call_len_str (by rfl) T.n_len PySem.boot_len (pa_cons (pv 0) pa_nil))) pa_nil))))
      pss_nil)))
      (pss_one (ps_ret (pv 3)))))), ?_⟩
    unfold endsM at q
    refine q_when (b := decide (p = anyP)) (et_test (ev_op (ev_var rfl) ev_c rv_eqS)) (fun hb H1 e1 => ?_) (fun hb H1 e1 => ?_)
    · rw [if_pos (of_decide_eq_true hb)] at q
      refine s_retL (el_listRg (i := (a : Int)) (j := (z.length : Int) + 1) (ev_var rfl) (ev_op (ev_lenS (ev_var rfl) (by omega)) ev_c rv_add) (by omega) (by omega) (by omega) (by omega)) fun l H2 hl e2 h2 => q l H2 (fresh_back e1 hl) (e1.trans e2) ?_
      rw [h2]
      unfold rgV from1
      rw [List.map_map, show ((z.length : Int) + 1 - (a : Int)).toNat = z.length + 1 - a by omega]
      congr 2
    · rw [if_neg (of_decide_eq_false hb)] at q
      refine q_asgL (el_lst ea_nil (Nat.zero_le _)) fun l H2 hl0 e2 h2 => ?_
      have hl0' := fresh_back e1 hl0
      have e12 := e1.trans e2
      have hq : V.bl (inV (.str p) [V.str digP, V.str wordP]) = V.bl (decide (p = digP) || decide (p = wordP)) := by
        refine (congrArg V.bl (inV_str p [digP, wordP])).trans ?_
        congr 1
        by_cases h1 : p = digP
        · simp [h1]
        · by_cases h2 : p = wordP <;> simp [h1, h2]
      refine q_cut (M := fun σ' H' => ∃ y : Option V, σ' = [some (.str p), some (.str z), some (.int (a : Int)), some (.ref l), y] ∧ Ex H H' ∧ H' l = some (.lst ((if p = digP ∨ p = wordP then from1 (a + 1) (run p z a) else if (⟨((z.cps.toList.drop a).take p.length).toArray⟩ : Str) = p then [a + p.length] else []).map vN))) ?_ (fun σ' H' ⟨y, hσ, e', h'⟩ => by
        subst hσ
        exact s_ret (ev_var rfl) fun H7 e7 => q l H7 hl0' (e'.trans e7) (e7 _ _ h'))
      refine s_if (et_test (ev_is (ev_inU (ev_var rfl) (eu_tup (ea_cons ev_c (ea_cons ev_c ea_nil)) (by simp)) rfl rfl) hq)) (fun hc H3 e3 => ?_) (fun hc H3 e3 => ?_)
      · have hcc : p = digP ∨ p = wordP := by
          rcases Bool.or_eq_true _ _ ▸ hc with hc | hc
          · exact .inl (of_decide_eq_true hc)
          · exact .inr (of_decide_eq_true hc)
        rw [if_pos hcc]
        refine q_asg (v := .int (a : Int)) (ev_var rfl) fun H4 e4 => ?_
        have hr := run_le p z a
        refine s_while (fun m σ' H' => ∃ e : Nat, σ' = [some (.str p), some (.str z), some (.int (a : Int)), some (.ref l), some (.int (e : Int))] ∧ Ex H H' ∧ a ≤ e ∧ e ≤ a + run p z a ∧ m = a + run p z a - e ∧ H' l = some (.lst ((from1 (a + 1) (e - a)).map vN))) (run p z a)
          ⟨a, rfl, (e12.trans e3).trans e4, Nat.le_refl _, by omega, by omega, by
            rw [Nat.sub_self]
            exact e4 _ _ (e3 _ _ h2)⟩ ?_
        rintro m σ' H5 ⟨e, rfl, e5, h1, h3, rfl, h5⟩
        have hw := while_iff (ltakes p) (z.cps.toList.drop a) (e - a) (by
          show e - a ≤ run p z a
          omega)
        rw [List.getElem?_drop, show a + (e - a) = e by omega] at hw
        have ix : e < z.length → z.cps.toList[e]? = some (z.cps.toList.getD e 0) ∧ atI z.cps.toList (e : Int) = some (z.cps.toList.getD e 0) := fun he => by
          have he2 : e < z.cps.toList.length := by rw [← str_len]; exact he
          have h1 : z.cps.toList[e]? = some (z.cps.toList.getD e 0) := by
            rw [List.getElem?_eq_getElem he2, List.getD_eq_getElem?_getD, List.getElem?_eq_getElem he2]
            rfl
          refine ⟨h1, ?_⟩
          unfold atI ixN
          rw [if_pos (by omega), if_pos (by omega)]
          exact h1
        refine ⟨decide (e < z.length) && ltakes p (z.cps.toList.getD e 0), et_and (et_test (ev_is (ev_op (ev_var rfl) (ev_lenS (ev_var rfl) (by omega)) rv_I0) (congrArg V.bl lt_len))) fun hd => et_B (ev_call (ea_cons (ev_var rfl) (ea_cons (ev_op (ev_var rfl) (ev_var rfl) (rv_ixS (by omega) (ix (of_decide_eq_true hd)).2)) ea_nil)) sv_ltakes), fun hd H6 e6 => ?_, fun hd H6 e6 => ?_⟩
        · obtain ⟨d1, d2⟩ := Bool.and_eq_true _ _ ▸ hd
          have d3 := of_decide_eq_true d1
          have hlt : e - a < run p z a := hw.mpr ⟨_, (ix d3).1, d2⟩
          refine ⟨fun σ2 H7 => σ2 = [some (.str p), some (.str z), some (.int (a : Int)), some (.ref l), some (.int ((e + 1 : Nat) : Int))] ∧ Ex H H7 ∧ H7 l = some (.lst ((from1 (a + 1) (e + 1 - a)).map vN)), fun σ2 H7 ⟨g1, g2, g3⟩ => ⟨a + run p z a - (e + 1), by omega, e + 1, g1, g2, by omega, by omega, rfl, g3⟩, ?_⟩
          refine q_asg (ev_op (ev_var rfl) ev_c rv_add) fun H7 e7 => ?_
          refine s_app (e7 _ _ (e6 _ _ h5)) (ev_var rfl) (ev_var rfl) (by simp [from1]; omega) fun H8 e8 => ⟨rfl, Ex.mut (((e5.trans e6).trans e7).trans e8) hl0', ?_⟩
          rw [upd_same, show e + 1 - a = (e - a) + 1 by omega]
          unfold from1
          rw [List.range_succ, List.map_append, List.map_append]
          congr 3
          show [V.int ((e : Int) + 1)] = [V.int ((a + 1 + (e - a) : Nat) : Int)]
          congr 2
          omega
        · have he : e = a + run p z a := by
            by_cases hlt : e - a < run p z a
            · obtain ⟨x, hx, hp⟩ := hw.mp hlt
              have he2 := (List.getElem?_eq_some_iff.mp hx).1
              rw [← str_len] at he2
              have hx2 := (ix he2).1
              rw [hx] at hx2
              rw [decide_eq_true he2, ← Option.some.inj hx2, hp] at hd
              cases hd
            · omega
          refine ⟨_, rfl, e5.trans e6, ?_⟩
          rw [e6 _ _ h5, he, show a + run p z a - a = run p z a by omega]
      · have hcc : ¬ (p = digP ∨ p = wordP) := fun w' => by
          rcases w' with w' | w'
          · rw [decide_eq_true w', Bool.true_or] at hc
            cases hc
          · rw [decide_eq_true w', Bool.or_true] at hc
            cases hc
        rw [if_neg hcc]
        have ec : cutS z (some (a : Int)) (some ((a : Int) + (p.length : Int))) = ⟨((z.cps.toList.drop a).take p.length).toArray⟩ := by
          rw [show (a : Int) + (p.length : Int) = ((a + p.length : Nat) : Int) by omega, cut_in, show a + p.length - a = p.length by omega]
        refine s_when (b := decide ((⟨((z.cps.toList.drop a).take p.length).toArray⟩ : Str) = p)) (et_test (ev_is (ev_op (ev_slS (ev_var rfl) (eo_some (ev_var rfl)) (eo_some (ev_op (ev_var rfl) (ev_lenS (ev_var rfl) (by omega)) rv_add)) (by omega)) (ev_var rfl) rv_eqS) (by rw [ec]))) (fun hd H4 e4 => ?_) (fun hd H4 e4 => ?_)
        · rw [if_pos (of_decide_eq_true hd)]
          refine s_app (e4 _ _ (e3 _ _ h2)) (ev_var rfl) (ev_op (ev_var rfl) (ev_lenS (ev_var rfl) (by omega)) rv_add) (by simp) fun H5 e5 => ⟨_, rfl, Ex.mut (((e12.trans e3).trans e4).trans e5) hl0', ?_⟩
          rw [upd_same]
          rfl
        · rw [if_neg (of_decide_eq_false hd)]
          exact ⟨_, rfl, (e12.trans e3).trans e4, e4 _ _ (e3 _ _ h2)⟩
/-! _law_fits -/
def moreM (p z : Str) (more : List Nat) (a : Nat) : List Nat := more ++ (endsM p z a).filter fun e => !decide (e ∈ more)
def stepM (z : Str) (places : List Nat) (p : Str) : List Nat := places.foldl (moreM p z) []
def placesM (ps : List Str) (z : Str) : List Nat := ps.foldl (stepM z) [0]
def fitsM (ps : List Str) (z : Str) : Bool := !decide (z = ("" : Str)) && decide (z.length ∈ placesM ps z)
theorem nodup_le : ∀ (n : Nat) (l : List Nat), l.Nodup → (∀ x ∈ l, x < n) → l.length ≤ n
  | 0, l, _, h => by
    cases l with
    | nil => exact Nat.le_refl _
    | cons x _ => exact absurd (h x List.mem_cons_self) (by omega)
  | n + 1, l, nd, h => by
    have h1 := nodup_le n (l.erase n) (nd.erase n) fun x hx => by
      have h2 := (List.Nodup.mem_erase_iff nd).mp hx
      have := h x h2.2
      omega
    rw [List.length_erase] at h1
    split at h1 <;> omega
/-- places: no one twice, none beyond the line -/
def Pls (z : Str) (l : List Nat) : Prop := l.Nodup ∧ ∀ x ∈ l, x ≤ z.length
theorem Pls.len {z : Str} {l : List Nat} (h : Pls z l) : l.length ≤ z.length + 1 := nodup_le _ _ h.1 fun x hx => by have := h.2 x hx; omega
theorem more_ok {p z : Str} {more : List Nat} {a : Nat} (h : Pls z more) (ha : a ≤ z.length) : Pls z (moreM p z more a) := by
  refine ⟨List.nodup_append.mpr ⟨h.1, (ends_nd p z a).filter _, fun x hx y hy e => ?_⟩, fun x hx => ?_⟩
  · have := (List.mem_filter.mp hy).2
    rw [← e] at this
    simp [hx] at this
  · rcases List.mem_append.mp hx with hx | hx
    · exact h.2 x hx
    · exact ends_le (List.mem_filter.mp hx).1 ha
theorem mores_ok {p z : Str} : ∀ (places more : List Nat), Pls z more → (∀ x ∈ places, x ≤ z.length) → Pls z (places.foldl (moreM p z) more)
  | [], _, h, _ => h
  | a :: r, more, h, k => mores_ok r _ (more_ok h (k a List.mem_cons_self)) fun x hx => k x (List.mem_cons_of_mem _ hx)
theorem pls_nil (z : Str) : Pls z [] := ⟨List.nodup_nil, fun _ h => (nomatch h)⟩
theorem step_ok {z p : Str} {places : List Nat} (h : Pls z places) : Pls z (stepM z places p) := mores_ok _ _ (pls_nil z) h.2
theorem steps_ok {z : Str} : ∀ (ps : List Str) (places : List Nat), Pls z places → Pls z (ps.foldl (stepM z) places)
  | [], _, h => h
  | p :: ps, _, h => steps_ok ps _ (step_ok h)
theorem pls_0 (z : Str) : Pls z [0] := ⟨by simp, fun x hx => by rw [List.mem_singleton.mp hx]; omega⟩
theorem mem_str {ps : List Str} {i : Nat} {x : V} (h : (ps.map V.str)[i]? = some x) : ∃ p, ps[i]? = some p ∧ x = .str p := by
  rw [List.getElem?_map] at h
  cases hq : ps[i]? with
  | none =>
    rw [hq] at h
    cases h
  | some p =>
    rw [hq] at h
    exact ⟨p, rfl, (Option.some.inj h).symm⟩
theorem mem_vN {ps : List Nat} {i : Nat} {x : V} (h : (ps.map vN)[i]? = some x) : ∃ p, ps[i]? = some p ∧ x = vN p := by
  rw [List.getElem?_map] at h
  cases hq : ps[i]? with
  | none =>
    rw [hq] at h
    cases h
  | some p =>
    rw [hq] at h
    exact ⟨p, rfl, (Option.some.inj h).symm⟩
theorem take_fold {α β : Type} {f : β → α → β} {b : β} {l : List α} {i : Nat} {x : α} (h : l[i]? = some x) : (l.take (i + 1)).foldl f b = f ((l.take i).foldl f b) x := by
  rw [List.take_add_one, h, List.foldl_append]
  rfl
def spFits (K : PySem.W.Frag) : Sp := fun vs H Q _ => ∃ (a : Addr) (ps : List Str) (z : Str), vs = [.ref a, .str z] ∧ SqL K H a (ps.map V.str) ∧ (∀ p ∈ ps, p.length ≤ 1000) ∧ z.length ≤ 1000 ∧ RetV (.bl (fitsM ps z)) H Q
theorem ok__law_fits {f : Addr} {fd : FuncData} (F : Fun K "_law_fits" "_law_fits" s__law_fits f fd) (T : Txt K mg a_OPEN_PARTS C_Both C_Either C_Form) (D__law_ends : Df P w K mg base "_law_ends" ["part", "line", "at"] 2 spEnds) : FnOk P w K mg base CX0 3 f fd ["parts", "line"] (spFits K) := by
  refine F.ok sc__law_fits (fun vs H Q E h => ?_) (fun cdv A outer s0 H vs Q E hr h => ?_)
  · obtain ⟨a, ps, z, rfl, _⟩ := h
    rfl
  · obtain ⟨a, ps, z, rfl, hA, hps, hz, q⟩ := h
    refine ⟨_, (pss_cons (ps_set (i := 2) sc__law_fits.nd rfl (Or.inl rfl) (pe_lst (pa_cons pe_int pa_nil)))
      (pss_cons (ps_for PassesOwn.never rfl (pi_list (pv 0)) (pg_name (i := 3) sc__law_fits.nd rfl (Or.inl rfl))
      (pss_cons (ps_set (i := 4) sc__law_fits.nd rfl (Or.inr rfl) (pe_lst pa_nil))
      (pss_cons (ps_for PassesOwn.never rfl (pi_list (pv 2)) (pg_name (i := 5) sc__law_fits.nd rfl (Or.inl rfl))
      (pss_one (ps_set (i := 4) sc__law_fits.nd rfl (Or.inr rfl) (pe_op op_cat (pv 4) (pe_lc (own := [("end", 6)]) (g := gName 6) rfl sc__law_fits.nd (pi_list (pe_df D__law_ends (hr.mono (by decide)) (by rfl) (pa_cons (pv 3) (pa_cons (pv 1) (pa_cons (pv 5) pa_nil))))) (blkOk_by (own := [("end", 6)]) (N := ["parts", "line", "places", "part", "more", "at", "end"]) (sc := defScope s__law_fits) (by decide +kernel)) (fun _ _ _ _ _ => pg_name (i := 6) sc__law_fits.nd rfl (Or.inl rfl)) (fun _ _ _ _ _ => pts_one (pt_cmpR (op_notIn_seqK K rfl) (pv 6) (pv 4) (by rfl))) (fun _ _ _ _ _ => (pv 6)))))))
      (pss_one (ps_set (i := 2) sc__law_fits.nd rfl (Or.inl rfl) (pv 4))))))
      (pss_one (ps_ret (pe_and (pe_cmpR op_ne (pv 1) pe_str (nomark _)) (pe_one (pe_cmpR op_in_seq (pe_callB call_len_str (by rfl) T.n_len PySem.boot_len (pa_cons (pv 1) pa_nil)) (pv 2) (by rfl)))))))), ?_⟩
    refine q_asgL (el_lst (ea_cons ev_c ea_nil) (by simp)) fun l H1 hl0 e1 h1 => ?_
    refine q_forLn (ev_var rfl) (ex_l e1 hA) (fun i σ' H' => ∃ (l : Addr) (y3 y4 y5 : Option V), σ' = [some (.ref a), some (.str z), some (.ref l), y3, y4, y5, none] ∧ Ex H H' ∧ H' l = some (.lst ((placesM (ps.take i) z).map vN))) (fun H2 e2 => ⟨l, none, none, none, rfl, e1.trans e2, e2 _ _ h1⟩) (fun i σ' H' _ pv => ?_) ?_ ?_
    · obtain ⟨_, _, _, _, _, e2, _⟩ := pv
      exact ex_l e2 hA
    · rintro i x σ' H2 hx ⟨l, y3, y4, y5, rfl, e2, h2⟩
      obtain ⟨p, hp, rfl⟩ := mem_str hx
      have hp1 := hps p (List.mem_of_getElem? hp)
      have hpl : Pls z (placesM (ps.take i) z) := steps_ok _ _ (pls_0 z)
      have ht : placesM (ps.take (i + 1)) z = stepM z (placesM (ps.take i) z) p := take_fold hp
      rw [ht]
      generalize placesM (ps.take i) z = places at h2 hpl ⊢
      refine q_asgL (el_lst ea_nil (Nat.zero_le _)) fun m H3 hm0 e3 h3 => ?_
      have h2' := e3 _ _ h2
      refine q_forLn (ev_var rfl) (sq_of h2') (fun j σ' H' => ∃ (m : Addr) (y5 : Option V), σ' = [some (.ref a), some (.str z), some (.ref l), some (.str p), some (.ref m), y5, none] ∧ Ex H3 H' ∧ H' m = some (.lst (((places.take j).foldl (moreM p z) []).map vN))) (fun H4 e4 => ⟨m, y5, rfl, e4, e4 _ _ h3⟩) (fun j σ' H' _ pv => ?_) ?_ ?_
      · obtain ⟨_, _, _, e4, _⟩ := pv
        exact sq_of (e4 _ _ h2')
      · rintro j x σ' H4 hj ⟨m, y5, rfl, e4, h4⟩
        obtain ⟨at', hat, rfl⟩ := mem_vN hj
        have hat1 : at' ≤ z.length := hpl.2 _ (List.mem_of_getElem? hat)
        have hmo : Pls z ((places.take j).foldl (moreM p z) []) := mores_ok _ _ (pls_nil z) fun x hx => hpl.2 x (List.mem_of_mem_take hx)
        rw [take_fold hat]
        generalize (places.take j).foldl (moreM p z) [] = more at h4 hmo ⊢
        have hml := hmo.len
        have hel := ends_len (p := p) (z := z) (a := at')
        refine s_asgL (xs := more.map vN ++ ((endsM p z at').filter fun e => !decide (e ∈ more)).map vN) (el_cat (ev_var rfl) h4 (el_lcNM (xs := endsM p z at') (r := vN) 0 (fun e => !decide (e ∈ more)) vN (el_call (ea_cons (ev_var rfl) (ea_cons (ev_var rfl) (ea_cons (ev_var rfl) ea_nil))) fun H5 e5 Q' q' E' => ⟨p, z, at', rfl, hz, hp1, hat1, q'⟩) (by omega) (fun _ => rfl)
          (fun x H5 e5 hx => et_test (ev_is (ev_op (ev_var rfl) (ev_var rfl) (rv_niL (sq_of (e5 _ _ h4)) rfl (flat_vN more))) (congrArg (fun b => V.bl (!b)) (inV_vN x more)))) (fun x H5 e5 hx _ => ev_var rfl)) (by
            have := List.length_filter_le (fun e => !decide (e ∈ more)) (endsM p z at')
            rw [List.length_map, List.length_map]
            omega)) fun r H5 hr0 e5 h5 => ⟨r, _, rfl, e4.trans e5, ?_⟩
        rw [h5]
        unfold moreM
        rw [List.map_append]
      · rintro σ' H4 ⟨m, y5, rfl, e4, h4⟩
        refine s_asg (v := .ref m) (ev_var rfl) fun H5 e5 => ⟨m, _, _, _, rfl, ((e2.trans e3).trans e4).trans e5, ?_⟩
        rw [List.length_map, List.take_of_length_le (Nat.le_refl _)] at h4
        exact e5 _ _ h4
    · rintro σ' H2 ⟨l, y3, y4, y5, rfl, e2, h2⟩
      rw [List.length_map, List.take_of_length_le (Nat.le_refl _)] at h2
      exact s_ret (ev_andV (ev_op (ev_var rfl) ev_c rv_neS) fun _ => ev_is (ev_op (ev_lenS (ev_var rfl) (by omega)) (ev_var rfl) (rv_isL (sq_of h2) rfl (flat_vN _))) (congrArg V.bl (inV_vN _ _))) fun H3 e3 => q H3 (e2.trans e3)

/-! ### _law_line, _law_spoiled -/
def fourS : Str := "aBzb"
def rep1 (z : Str) (d n : Int) : Str := repS ⟨#[sgn z d]⟩ (1 + n).toNat
def lineT (st : Str × (Int × Int)) (p : Str) : Str × (Int × Int) :=
  if p = digP then (st.1 ++ rep1 digS (take st.2 10).1 (take (take st.2 10).2 3).1, (take (take st.2 10).2 3).2)
  else if p = wordP then (st.1 ++ rep1 fourS (take st.2 4).1 (take (take st.2 4).2 3).1, (take (take st.2 4).2 3).2)
  else if p = anyP then (st.1 ++ repS (lawText st.2).1 (take (lawText st.2).2 3).1.toNat, (take (lawText st.2).2 3).2)
  else (st.1 ++ p, st.2)
def lawLine (s : Int × Int) (ps : List Str) : Str × (Int × Int) := ps.foldl lineT (("" : Str), s)
theorem lny_rep {z : Str} (h : Lny z) (n : Nat) : Lny (repS z n) := by
  intro c hc
  unfold repS at hc
  have hc' : c ∈ (List.replicate n z.cps.toList).flatten := hc
  obtain ⟨l, hl, hcl⟩ := List.mem_flatten.mp hc'
  rw [(List.mem_replicate.mp hl).2] at hcl
  exact h c hcl
theorem lineT_ok {st : Str × (Int × Int)} {p : Str} (h : Pk st.2) (l : Lny st.1) (hp : isOpen p = true ∨ fixedP p) : Pk (lineT st p).2 ∧ Lny (lineT st p).1 ∧ (lineT st p).1.length ≤ st.1.length + 12 := by
  have a1 := take_lt (s := st.2) (n := 10) (by decide)
  have a2 := take_lt (s := (take st.2 10).2) (n := 3) (by decide)
  have b1 := take_lt (s := st.2) (n := 4) (by decide)
  have b2 := take_lt (s := (take st.2 4).2) (n := 3) (by decide)
  have c2 := take_lt (s := (lawText st.2).2) (n := 3) (by decide)
  have tx := lawText_ok h
  unfold lineT
  split
  · refine ⟨take_pk (take_pk h), lny_app l (lny_rep (lny_sgn (z := digS) (by unfold Lny; decide +kernel) a1.1 (by rw [show digS.length = 10 by decide +kernel]; exact a1.2)) _), ?_⟩
    rw [app_len]
    unfold rep1
    rw [repS_len]
    show _ + _ * 1 ≤ _
    omega
  · split
    · refine ⟨take_pk (take_pk h), lny_app l (lny_rep (lny_sgn (z := fourS) (by unfold Lny; decide +kernel) b1.1 (by rw [show fourS.length = 4 by decide +kernel]; exact b1.2)) _), ?_⟩
      rw [app_len]
      unfold rep1
      rw [repS_len]
      show _ + _ * 1 ≤ _
      omega
    · split
      · refine ⟨take_pk tx.1, lny_app l (lny_rep tx.2.1 _), ?_⟩
        rw [app_len, repS_len]
        have h2 : (take (lawText st.2).2 3).1.toNat * (lawText st.2).1.length ≤ 3 * 4 := Nat.mul_le_mul (by omega) tx.2.2.2
        omega
      · rename_i h1 h2 h3
        have hf : fixedP p := by
          rcases hp with hp | hp
          · rcases isOpen_iff.mp hp with e | e | e
            · exact absurd e h1
            · exact absurd e h2
            · exact absurd e h3
          · exact hp
        refine ⟨h, lny_app l hf.1, ?_⟩
        rw [app_len]
        have := hf.2.2
        omega
theorem lines_ok : ∀ (ps : List Str) (st : Str × (Int × Int)), Pk st.2 → Lny st.1 → (∀ p ∈ ps, isOpen p = true ∨ fixedP p) → Pk (ps.foldl lineT st).2 ∧ Lny (ps.foldl lineT st).1 ∧ (ps.foldl lineT st).1.length ≤ st.1.length + 12 * ps.length
  | [], _, h, l, _ => ⟨h, l, by simp⟩
  | p :: ps, st, h, l, hp => by
    obtain ⟨h1, l1, n1⟩ := lineT_ok h l (hp p List.mem_cons_self)
    obtain ⟨h2, l2, n2⟩ := lines_ok ps _ h1 l1 fun q hq => hp q (List.mem_cons_of_mem _ hq)
    refine ⟨h2, l2, ?_⟩
    rw [List.foldl_cons, List.length_cons]
    omega
theorem lawLine_ok {s : Int × Int} {ps : List Str} (h : Pk s) (hp : ∀ p ∈ ps, isOpen p = true ∨ fixedP p) : Pk (lawLine s ps).2 ∧ Lny (lawLine s ps).1 ∧ (lawLine s ps).1.length ≤ 12 * ps.length := by
  obtain ⟨h1, h2, h3⟩ := lines_ok ps (("" : Str), s) h lny_nil hp
  refine ⟨h1, h2, ?_⟩
  have : (("" : Str)).length = 0 := by decide +kernel
  have h4 : (((("" : Str), s) : Str × (Int × Int))).1.length = 0 := this
  rw [h4] at h3
  unfold lawLine
  omega
def spLine (K : PySem.W.Frag) : Sp := fun vs H Q _ => ∃ (p : Addr) (s : Int × Int) (a : Addr) (ps : List Str), vs = [.ref p, .ref a] ∧ H p = some (pl s) ∧ Pk s ∧ a ≠ p ∧ SqL K H a (ps.map V.str) ∧ (∀ p ∈ ps, isOpen p = true ∨ fixedP p) ∧ ps.length ≤ 10 ∧ RetP p (lawLine s ps).2 (.str (lawLine s ps).1) H Q
theorem sq_hide {p a : Addr} {H : Hp} {xs : List V} (ne : a ≠ p) (h : SqL K H a xs) : SqL K (hide p H) a xs := by
  rcases h with (h | ⟨o, h⟩) | h
  · exact .inl (.inl (by rw [hide_ne ne]; exact h))
  · exact .inl (.inr ⟨o, by rw [hide_ne ne]; exact h⟩)
  · exact .inr h
/-! _law_spoiled -/
def lawSpoiled (s : Int × Int) (z : Str) : Str × (Int × Int) :=
  let a := take s ((z.length : Int) + 1)
  let b := take a.2 68
  let c := take b.2 5
  let x : Str := ⟨#[sgn signsS b.1]⟩
  if c.1 = 0 then ((cutS z none (some a.1) ++ x) ++ cutS z (some a.1) none, c.2)
  else if c.1 = 1 then (cutS z none (some a.1) ++ cutS z (some (a.1 + 1)) none, c.2)
  else if c.1 = 2 then ((cutS z none (some a.1) ++ x) ++ cutS z (some (a.1 + 1)) none, c.2)
  else (z, c.2)
theorem cut_len {z : Str} {lo hi : Option Int} : (cutS z lo hi).length ≤ z.length := by
  rw [str_len, str_len z]
  unfold cutS
  show ((z.cps.toList.drop _).take _).length ≤ _
  rw [List.length_take, List.length_drop]
  omega
theorem lny_cut {z : Str} {lo hi : Option Int} (h : Lny z) : Lny (cutS z lo hi) := fun c hc => by
  have hc' : c ∈ (z.cps.toList.drop (HT.sIx z.length 0 lo)).take (HT.sIx z.length z.length hi - HT.sIx z.length 0 lo) := hc
  exact h c (List.mem_of_mem_drop (List.mem_of_mem_take hc'))
theorem spoiled_ok {s : Int × Int} {z : Str} (h : Pk s) (l : Lny z) : Pk (lawSpoiled s z).2 ∧ Lny (lawSpoiled s z).1 ∧ (lawSpoiled s z).1.length ≤ 2 * z.length + 1 := by
  have b1 := take_lt (s := (take s ((z.length : Int) + 1)).2) (n := 68) (by decide)
  have hx : Lny ⟨#[sgn signsS (take (take s ((z.length : Int) + 1)).2 68).1]⟩ := lny_sgn (fun _ w' => w') b1.1 (by rw [len_signs]; exact b1.2)
  have hk : Pk (take (take (take s ((z.length : Int) + 1)).2 68).2 5).2 := take_pk (take_pk (take_pk h))
  have c1 := cut_len (z := z) (lo := none) (hi := some (take s ((z.length : Int) + 1)).1)
  have c2 := cut_len (z := z) (lo := some (take s ((z.length : Int) + 1)).1) (hi := none)
  have c3 := cut_len (z := z) (lo := some ((take s ((z.length : Int) + 1)).1 + 1)) (hi := none)
  unfold lawSpoiled
  simp only []
  split
  · exact ⟨hk, lny_app (lny_app (lny_cut l) hx) (lny_cut l), by rw [app_len, app1_len]; omega⟩
  · split
    · exact ⟨hk, lny_app (lny_cut l) (lny_cut l), by rw [app_len]; omega⟩
    · split
      · exact ⟨hk, lny_app (lny_app (lny_cut l) hx) (lny_cut l), by rw [app_len, app1_len]; omega⟩
      · exact ⟨hk, l, by show z.length ≤ _; omega⟩
def spSpoiled : Sp := fun vs H Q _ => ∃ (p : Addr) (s : Int × Int) (z : Str), vs = [.ref p, .str z] ∧ H p = some (pl s) ∧ Pk s ∧ z.length ≤ 1000 ∧ RetP p (lawSpoiled s z).2 (.str (lawSpoiled s z).1) H Q
/-! ### the mathematics: a line split among parts, and the positions of cells -/
/-- v is what the part stands for -/
def piece (p : Str) (v : List Nat) : Prop := if p = anyP then True else if p = digP ∨ p = wordP then v ≠ [] ∧ ∀ c ∈ v, ltakes p c = true else v = p.cps.toList
/-- t can be split among the first k of the parts -/
def Mk (ps : List Str) : Nat → List Nat → Prop
  | 0, t => t = []
  | k + 1, t => ∃ u v, t = u ++ v ∧ Mk ps k u ∧ piece (cellAt' ps k) v
theorem while_all {α : Type} (p : α → Bool) : ∀ (l : List α) (j : Nat), j ≤ l.length → (j ≤ (l.takeWhile p).length ↔ ∀ c ∈ l.take j, p c = true)
  | [], j, h => by
    have : j = 0 := by simpa using h
    subst this
    simp
  | x :: l, 0, _ => by simp
  | x :: l, j + 1, h => by
    have ih := while_all p l j (by simpa using h)
    by_cases hx : p x = true
    · have e : (x :: l).takeWhile p = x :: l.takeWhile p := by simp [List.takeWhile_cons, hx]
      rw [e, List.length_cons, List.take_succ_cons]
      constructor
      · intro q c hc
        rcases List.mem_cons.mp hc with rfl | hc
        · exact hx
        · exact ih.mp (by omega) c hc
      · intro q
        have := ih.mpr fun c hc => q c (List.mem_cons_of_mem _ hc)
        omega
    · have e : (x :: l).takeWhile p = [] := by simp [List.takeWhile_cons, hx]
      rw [e]
      constructor
      · intro q
        simp at q
      · intro q
        exact absurd (q x (by simp)) hx
theorem ends_iff {p z : Str} {a e : Nat} (ha : a ≤ z.length) : e ∈ endsM p z a ↔ a ≤ e ∧ e ≤ z.length ∧ piece p ((z.cps.toList.drop a).take (e - a)) := by
  have hl : (z.cps.toList.drop a).length = z.length - a := by rw [List.length_drop, ← str_len]
  unfold endsM piece
  by_cases h1 : p = anyP
  · rw [if_pos h1, if_pos h1, from1_mem]
    constructor
    · intro q
      exact ⟨q.1, by omega, trivial⟩
    · intro q
      exact ⟨q.1, by omega⟩
  · rw [if_neg h1, if_neg h1]
    by_cases h2 : p = digP ∨ p = wordP
    · rw [if_pos h2, if_pos h2, from1_mem]
      have hr := run_le p z a
      constructor
      · rintro ⟨q1, q2⟩
        refine ⟨by omega, by omega, ?_, ?_⟩
        · intro w'
          have := congrArg List.length w'
          rw [List.length_take, hl] at this
          simp only [List.length_nil] at this
          omega
        · exact (while_all (ltakes p) (z.cps.toList.drop a) (e - a) (by omega)).mp (by
            show e - a ≤ run p z a
            omega)
      · rintro ⟨q1, q2, q3, q4⟩
        have h3 := (while_all (ltakes p) (z.cps.toList.drop a) (e - a) (by omega)).mpr q4
        have h4 : e - a ≤ run p z a := h3
        have h5 : a ≠ e := fun w' => q3 (by rw [w', Nat.sub_self, List.take_zero])
        omega
    · rw [if_neg h2, if_neg h2]
      have hp : p.cps.toList.length = p.length := (str_len p).symm
      by_cases h3 : (⟨((z.cps.toList.drop a).take p.length).toArray⟩ : Str) = p
      · rw [if_pos h3, List.mem_singleton]
        have h4 : (z.cps.toList.drop a).take p.length = p.cps.toList := by
          conv => rhs; rw [← h3]
        have h5 := congrArg List.length h4
        rw [List.length_take, hl, hp] at h5
        constructor
        · rintro rfl
          refine ⟨by omega, by omega, ?_⟩
          rw [Nat.add_sub_cancel_left]
          exact h4
        · rintro ⟨q1, q2, q3⟩
          have h6 := congrArg List.length q3
          rw [List.length_take, hl, hp] at h6
          omega
      · rw [if_neg h3]
        constructor
        · intro w'
          cases w'
        · rintro ⟨q1, q2, q3⟩
          exfalso
          have h6 := congrArg List.length q3
          rw [List.length_take, hl, hp] at h6
          have h7 : e - a = p.length := by omega
          apply h3
          rw [← h7, q3]
theorem mores_mem {p z : Str} {e : Nat} : ∀ (places more : List Nat), e ∈ places.foldl (moreM p z) more ↔ e ∈ more ∨ ∃ a ∈ places, e ∈ endsM p z a
  | [], more => by simp
  | a :: r, more => by
    rw [List.foldl_cons, mores_mem r]
    unfold moreM
    rw [List.mem_append, List.mem_filter]
    constructor
    · rintro ((h | h) | ⟨b, hb, h⟩)
      · exact .inl h
      · exact .inr ⟨a, List.mem_cons_self, h.1⟩
      · exact .inr ⟨b, List.mem_cons_of_mem _ hb, h⟩
    · rintro (h | ⟨b, hb, h⟩)
      · exact .inl (.inl h)
      · rcases List.mem_cons.mp hb with rfl | hb
        · by_cases hm : e ∈ more
          · exact .inl (.inl hm)
          · exact .inl (.inr ⟨h, by simp [hm]⟩)
        · exact .inr ⟨b, hb, h⟩
theorem step_mem {p z : Str} {places : List Nat} {e : Nat} : e ∈ stepM z places p ↔ ∃ a ∈ places, e ∈ endsM p z a := by
  unfold stepM
  rw [mores_mem]
  simp
theorem cellAt_get {ps : List Str} {k : Nat} (h : k < ps.length) : ps[k]? = some (cellAt' ps k) := by
  unfold cellAt'
  rw [List.getElem?_eq_getElem h, List.getD_eq_getElem?_getD, List.getElem?_eq_getElem h]
  rfl
theorem places_iff (ps : List Str) (z : Str) : ∀ (k : Nat), k ≤ ps.length → ∀ e, e ∈ placesM (ps.take k) z ↔ e ≤ z.length ∧ Mk ps k (z.cps.toList.take e)
  | 0, _, e => by
    show e ∈ ([0] : List Nat) ↔ _
    have hl := str_len z
    rw [List.mem_singleton]
    constructor
    · rintro rfl
      exact ⟨Nat.zero_le _, rfl⟩
    · rintro ⟨h1, h2⟩
      have h3 : z.cps.toList.take e = [] := h2
      have := congrArg List.length h3
      rw [List.length_take] at this
      simp only [List.length_nil] at this
      omega
  | k + 1, hk, e => by
    have ih := places_iff ps z k (by omega)
    have hl := str_len z
    have ht : placesM (ps.take (k + 1)) z = stepM z (placesM (ps.take k) z) (cellAt' ps k) := take_fold (cellAt_get (by omega))
    rw [ht, step_mem]
    constructor
    · rintro ⟨a, ha, he⟩
      obtain ⟨h1, h2⟩ := (ih a).mp ha
      obtain ⟨h3, h4, h5⟩ := (ends_iff h1).mp he
      refine ⟨h4, z.cps.toList.take a, (z.cps.toList.drop a).take (e - a), ?_, h2, h5⟩
      rw [show e = a + (e - a) by omega, List.take_add, show a + (e - a) - a = e - a by omega]
    · rintro ⟨h1, u, v, h2, h3, h4⟩
      have hlu : u.length ≤ e := by
        have := congrArg List.length h2
        rw [List.length_take, List.length_append] at this
        omega
      have hu : z.cps.toList.take u.length = u := by
        have := congrArg (List.take u.length) h2
        rw [List.take_take, Nat.min_eq_left hlu] at this
        rw [this]
        simp
      have hv : (z.cps.toList.drop u.length).take (e - u.length) = v := by
        have := congrArg (List.drop u.length) h2
        rw [List.drop_take] at this
        rw [this]
        simp
      refine ⟨u.length, (ih _).mpr ⟨by omega, by rw [hu]; exact h3⟩, (ends_iff (by omega)).mpr ⟨hlu, h1, ?_⟩⟩
      rw [hv]
      exact h4
theorem str_nil {z : Str} : z = ("" : Str) ↔ z.cps.toList = [] := by
  constructor
  · intro h
    rw [h]
    decide +kernel
  · intro h
    cases z with
    | mk a =>
      have : a = #[] := by
        cases a with
        | mk l => cases l with
          | nil => rfl
          | cons x y => cases h
      rw [this]
      decide +kernel
theorem fits_take {ps : List Str} {z : Str} {k : Nat} (hk : k ≤ ps.length) : fitsM (ps.take k) z = true ↔ z.cps.toList ≠ [] ∧ Mk ps k z.cps.toList := by
  have hl := str_len z
  unfold fitsM
  rw [Bool.and_eq_true, decide_eq_true_eq, places_iff ps z k hk, hl, List.take_length]
  constructor
  · rintro ⟨h1, _, h2⟩
    refine ⟨fun w' => ?_, h2⟩
    rw [decide_eq_true (str_nil.mpr w')] at h1
    cases h1
  · rintro ⟨h1, h2⟩
    refine ⟨?_, Nat.le_refl _, h2⟩
    rw [decide_eq_false fun w' => h1 (str_nil.mp w')]
    rfl
theorem fits_iff {ps : List Str} {z : Str} : fitsM ps z = true ↔ z.cps.toList ≠ [] ∧ Mk ps ps.length z.cps.toList := by
  have h := fits_take (ps := ps) (z := z) (k := ps.length) (Nat.le_refl _)
  rw [List.take_length] at h
  exact h
/-! positions -/
def Cl (cells : List Str) (ps : List Nat) : Nat → Bool
  | 0 => decide (0 ∈ ps)
  | j + 1 => decide (j + 1 ∈ ps) || (Cl cells ps j && decide (cellAt' cells j = anyP))
theorem closedN_eq (cells : List Str) (ps : List Nat) : ∀ k, closedN cells ps k = (List.range k).filter (Cl cells ps)
  | 0 => rfl
  | k + 1 => by
    have ih := closedN_eq cells ps k
    show (if closeT cells ps (closedN cells ps k) k then closedN cells ps k ++ [k] else closedN cells ps k) = _
    have hc : closeT cells ps (closedN cells ps k) k = Cl cells ps k := by
      unfold closeT
      rw [ih]
      cases k with
      | zero =>
        show (decide (0 ∈ ps) || (decide (0 < 0) && _ && _)) = decide (0 ∈ ps)
        simp
      | succ j =>
        show (decide (j + 1 ∈ ps) || (decide (0 < j + 1) && decide (j ∈ (List.range (j + 1)).filter (Cl cells ps)) && decide (cellAt' cells j = anyP))) = (decide (j + 1 ∈ ps) || (Cl cells ps j && decide (cellAt' cells j = anyP)))
        congr 2
        rw [decide_eq_true (by omega : 0 < j + 1), Bool.true_and]
        by_cases h : Cl cells ps j = true
        · rw [h]
          exact decide_eq_true (List.mem_filter.mpr ⟨List.mem_range.mpr (by omega), h⟩)
        · have hf : Cl cells ps j = false := by simpa using h
          rw [hf]
          exact decide_eq_false fun w' => h (List.mem_filter.mp w').2
    rw [hc, ih, List.range_succ, List.filter_append]
    by_cases h : Cl cells ps k = true
    · rw [if_pos h]
      simp [h]
    · rw [if_neg h]
      simp [h]
theorem closed_eq (cells : List Str) (ps : List Nat) : closedM cells ps = (List.range (cells.length + 1)).filter (Cl cells ps) := closedN_eq cells ps _
/-- cells: single signs and the three others -/
def Cells (cells : List Str) : Prop := ∀ c ∈ cells, isOpen c = true ∨ ∃ x : Nat, c = ⟨#[x]⟩
theorem Cells.at {cells : List Str} (h : Cells cells) {k : Nat} (hk : k < cells.length) : isOpen (cellAt' cells k) = true ∨ ∃ x : Nat, cellAt' cells k = ⟨#[x]⟩ := h _ (List.mem_of_getElem? (cellAt_get hk))
theorem sign_not_open {x : Nat} : isOpen ⟨#[x]⟩ = false := by
  cases h : isOpen ⟨#[x]⟩ with
  | false => rfl
  | true =>
    rcases isOpen_iff.mp h with e | e | e
    · have := congrArg Str.length e
      exact absurd this (by
        rw [show digP.length = 8 by decide +kernel]
        show ¬ (1 : Nat) = 8
        decide)
    · have := congrArg Str.length e
      exact absurd this (by
        rw [show wordP.length = 6 by decide +kernel]
        show ¬ (1 : Nat) = 6
        decide)
    · have := congrArg Str.length e
      exact absurd this (by
        rw [show anyP.length = 5 by decide +kernel]
        show ¬ (1 : Nat) = 5
        decide)
theorem any_ne_dig : anyP ≠ digP := by decide +kernel
theorem any_ne_word : anyP ≠ wordP := by decide +kernel
theorem dig_ne_word : digP ≠ wordP := by decide +kernel
theorem sign_ne {x : Nat} {p : Str} (h : isOpen p = true) : (⟨#[x]⟩ : Str) ≠ p := fun e => by
  have := sign_not_open (x := x)
  rw [e, h] at this
  cases this
/-- what takes one sign -/
theorem takes_rep {p : Str} {c : Nat} (h : p = digP ∨ p = wordP) : takesM p c = ltakes p c := by
  rcases h with rfl | rfl
  · unfold takesM ltakes
    rw [if_pos rfl, if_pos rfl]
  · unfold takesM ltakes
    rw [if_neg (Ne.symm dig_ne_word), if_pos rfl, if_neg (Ne.symm dig_ne_word), decide_eq_true rfl, Bool.true_and]
theorem takes_sign {x c : Nat} : takesM ⟨#[x]⟩ c = decide (x = c) := by
  unfold takesM
  rw [if_neg (sign_ne open_dig), if_neg (sign_ne open_word)]
  by_cases h : x = c
  · subst h
    simp
  · rw [decide_eq_false h, decide_eq_false]
    intro e
    have := congrArg (fun s : Str => s.cps.toList) e
    exact h (by simpa using this)
theorem takes_any {c : Nat} : takesM anyP c = false := by
  unfold takesM
  rw [if_neg any_ne_dig, if_neg any_ne_word]
  exact decide_eq_false fun e => sign_ne open_any e.symm
/-- a piece that ends with the sign c -/
theorem piece_any {v : List Nat} : piece anyP v := by
  unfold piece
  rw [if_pos rfl]
  trivial
theorem piece_rep {p : Str} (h : p = digP ∨ p = wordP) {v : List Nat} : piece p v ↔ v ≠ [] ∧ ∀ c ∈ v, ltakes p c = true := by
  unfold piece
  rw [if_neg (by
    rcases h with rfl | rfl
    · exact Ne.symm any_ne_dig
    · exact Ne.symm any_ne_word), if_pos h]
theorem piece_sign {x : Nat} {v : List Nat} : piece ⟨#[x]⟩ v ↔ v = [x] := by
  unfold piece
  rw [if_neg (sign_ne open_any), if_neg (fun h => h.elim (sign_ne open_dig) (sign_ne open_word))]
theorem piece_nil {p : Str} (h : isOpen p = true ∨ ∃ x : Nat, p = ⟨#[x]⟩) : piece p [] ↔ p = anyP := by
  constructor
  · intro q
    rcases h with h | ⟨x, rfl⟩
    · rcases isOpen_iff.mp h with e | e | e
      · exact absurd rfl ((piece_rep (.inl e)).mp q).1
      · exact absurd rfl ((piece_rep (.inr e)).mp q).1
      · exact e
    · have := piece_sign.mp q
      cases this
  · rintro rfl
    exact piece_any
/-- where a text may stand: just behind its pieces, or within any signs -/
def At (cells : List Str) (t : List Nat) (k : Nat) : Prop := Mk cells k t ∨ (k < cells.length ∧ cellAt' cells k = anyP ∧ Mk cells (k + 1) t)
theorem mk_any {cells : List Str} {k : Nat} {t : List Nat} (h : Mk cells k t) (ha : cellAt' cells k = anyP) : Mk cells (k + 1) t := ⟨t, [], (List.append_nil t).symm, h, by rw [ha]; exact piece_any⟩
theorem mk_more {cells : List Str} {k : Nat} {t w' : List Nat} (h : Mk cells (k + 1) t) (ha : cellAt' cells k = anyP) : Mk cells (k + 1) (t ++ w') := by
  obtain ⟨u, v, rfl, hu, _⟩ := h
  exact ⟨u, v ++ w', List.append_assoc _ _ _, hu, by rw [ha]; exact piece_any⟩
theorem at_closed {cells : List Str} {k : Nat} {t : List Nat} (h : At cells t k) (ha : cellAt' cells k = anyP) : At cells t (k + 1) := by
  rcases h with h | ⟨_, _, h⟩
  · exact .inl (mk_any h ha)
  · exact .inl h
theorem mk_nil {cells : List Str} (hc : Cells cells) : ∀ k, k ≤ cells.length → (Mk cells k [] ↔ ∀ j, j < k → cellAt' cells j = anyP)
  | 0, _ => by
    constructor
    · intro _ j hj
      omega
    · intro _
      rfl
  | k + 1, hk => by
    have ih := mk_nil hc k (by omega)
    constructor
    · rintro ⟨u, v, e, hu, hv⟩
      obtain ⟨rfl, rfl⟩ := List.append_eq_nil_iff.mp e.symm
      intro j hj
      by_cases h : j = k
      · subst h
        exact (piece_nil (hc.at (by omega))).mp hv
      · exact ih.mp hu j (by omega)
    · intro h
      exact mk_any (ih.mpr fun j hj => h j (by omega)) (h k (by omega))
theorem at_nil {cells : List Str} (hc : Cells cells) {k : Nat} (hk : k ≤ cells.length) : At cells [] k ↔ ∀ j, j < k → cellAt' cells j = anyP := by
  constructor
  · rintro (h | ⟨h1, h2, h⟩)
    · exact (mk_nil hc k hk).mp h
    · intro j hj
      exact (mk_nil hc (k + 1) (by omega)).mp h j (by omega)
  · intro h
    exact .inl ((mk_nil hc k hk).mpr h)
theorem cl_start {cells : List Str} (hc : Cells cells) : ∀ k, k ≤ cells.length → (Cl cells [0] k = true ↔ At cells [] k)
  | 0, hk => by
    rw [at_nil hc hk]
    show decide (0 ∈ [0]) = true ↔ _
    simp
  | k + 1, hk => by
    have ih := cl_start hc k (by omega)
    rw [at_nil hc (by omega)] at ih
    rw [at_nil hc hk]
    show (decide (k + 1 ∈ [0]) || (Cl cells [0] k && decide (cellAt' cells k = anyP))) = true ↔ _
    rw [show decide (k + 1 ∈ [0]) = false by simp, Bool.false_or, Bool.and_eq_true, ih, decide_eq_true_eq]
    constructor
    · rintro ⟨h1, h2⟩ j hj
      by_cases h : j = k
      · subst h
        exact h2
      · exact h1 j (by omega)
    · intro h
      exact ⟨fun j hj => h j (by omega), h k (by omega)⟩
theorem rawB_mem {cells : List Str} {c : Nat} {acc : List Nat} {k j : Nat} : j ∈ rawB cells c acc k ↔ j ∈ acc ∨ (k < cells.length ∧ cellAt' cells k = anyP ∧ j = k) ∨ (k < cells.length ∧ cellAt' cells k ≠ anyP ∧ takesM (cellAt' cells k) c = true ∧ j = k + 1)
    ∨ (0 < k ∧ (cellAt' cells (k - 1) = digP ∨ cellAt' cells (k - 1) = wordP) ∧ takesM (cellAt' cells (k - 1)) c = true ∧ j = k) := by
  have hA : j ∈ rawA cells c acc k ↔ j ∈ acc ∨ (k < cells.length ∧ cellAt' cells k = anyP ∧ j = k) ∨ (k < cells.length ∧ cellAt' cells k ≠ anyP ∧ takesM (cellAt' cells k) c = true ∧ j = k + 1) := by
    unfold rawA
    by_cases h1 : k < cells.length
    · by_cases h2 : cellAt' cells k = anyP
      · rw [if_pos (by simp [h1, h2])]
        simp [h1, h2]
      · rw [if_neg (by simp [h2])]
        by_cases h3 : takesM (cellAt' cells k) c = true
        · rw [if_pos (by simp [h1, h3])]
          simp [h1, h2, h3]
        · rw [if_neg (by simp [h3])]
          simp [h2, h3]
    · rw [if_neg (by simp [h1]), if_neg (by simp [h1])]
      simp [h1]
  have hT : rawT cells c k = true ↔ 0 < k ∧ (cellAt' cells (k - 1) = digP ∨ cellAt' cells (k - 1) = wordP) ∧ takesM (cellAt' cells (k - 1)) c = true := by
    unfold rawT
    simp only [Bool.and_eq_true, Bool.or_eq_true, decide_eq_true_eq]
    exact and_assoc
  unfold rawB
  by_cases h : rawT cells c k = true
  · rw [if_pos h, List.mem_append, hA, List.mem_singleton]
    have h' := hT.mp h
    constructor
    · rintro ((h1 | h1) | h1)
      · exact .inl h1
      · rcases h1 with h1 | h1
        · exact .inr (.inl h1)
        · exact .inr (.inr (.inl h1))
      · exact .inr (.inr (.inr ⟨h'.1, h'.2.1, h'.2.2, h1⟩))
    · rintro (h1 | h1 | h1 | h1)
      · exact .inl (.inl h1)
      · exact .inl (.inr (.inl h1))
      · exact .inl (.inr (.inr h1))
      · exact .inr h1.2.2.2
  · rw [if_neg h, hA]
    constructor
    · rintro (h1 | h1 | h1)
      · exact .inl h1
      · exact .inr (.inl h1)
      · exact .inr (.inr (.inl h1))
    · rintro (h1 | h1 | h1 | h1)
      · exact .inl h1
      · exact .inr (.inl h1)
      · exact .inr (.inr h1)
      · exact absurd (hT.mpr ⟨h1.1, h1.2.1, h1.2.2.1⟩) h
theorem raw_fold {cells : List Str} {c : Nat} {j : Nat} : ∀ (ps acc : List Nat), j ∈ ps.foldl (rawB cells c) acc ↔ j ∈ acc ∨ ∃ k ∈ ps, j ∈ rawB cells c [] k
  | [], acc => by simp
  | k :: r, acc => by
    rw [List.foldl_cons, raw_fold r]
    have h1 := rawB_mem (cells := cells) (c := c) (acc := acc) (k := k) (j := j)
    have h2 := rawB_mem (cells := cells) (c := c) (acc := []) (k := k) (j := j)
    rw [h1]
    constructor
    · rintro ((h | h) | ⟨b, hb, h⟩)
      · exact .inl h
      · exact .inr ⟨k, List.mem_cons_self, h2.mpr (.inr h)⟩
      · exact .inr ⟨b, List.mem_cons_of_mem _ hb, h⟩
    · rintro (h | ⟨b, hb, h⟩)
      · exact .inl (.inl h)
      · rcases List.mem_cons.mp hb with rfl | hb
        · rcases h2.mp h with h | h
          · cases h
          · exact .inl (.inr h)
        · exact .inr ⟨b, hb, h⟩
theorem raw_mem {cells : List Str} {c : Nat} {ps : List Nat} {j : Nat} : j ∈ rawM cells c ps ↔ ∃ k ∈ ps, (k < cells.length ∧ cellAt' cells k = anyP ∧ j = k) ∨ (k < cells.length ∧ cellAt' cells k ≠ anyP ∧ takesM (cellAt' cells k) c = true ∧ j = k + 1)
    ∨ (0 < k ∧ (cellAt' cells (k - 1) = digP ∨ cellAt' cells (k - 1) = wordP) ∧ takesM (cellAt' cells (k - 1)) c = true ∧ j = k) := by
  unfold rawM
  rw [raw_fold]
  constructor
  · rintro (h | ⟨k, hk, h⟩)
    · cases h
    · rcases rawB_mem.mp h with h | h
      · cases h
      · exact ⟨k, hk, h⟩
  · rintro ⟨k, hk, h⟩
    exact .inr ⟨k, hk, rawB_mem.mpr (.inr h)⟩
/-- a cell that is not any signs and takes c: one position on -/
theorem piece_one {p : Str} {c : Nat} (h : isOpen p = true ∨ ∃ x : Nat, p = ⟨#[x]⟩) (ht : takesM p c = true) : piece p [c] := by
  rcases h with h | ⟨x, rfl⟩
  · rcases isOpen_iff.mp h with e | e | e
    · refine (piece_rep (.inl e)).mpr ⟨by simp, fun d hd => ?_⟩
      rw [List.mem_singleton.mp hd, ← takes_rep (.inl e)]
      exact ht
    · refine (piece_rep (.inr e)).mpr ⟨by simp, fun d hd => ?_⟩
      rw [List.mem_singleton.mp hd, ← takes_rep (.inr e)]
      exact ht
    · rw [e, takes_any] at ht
      cases ht
  · rw [takes_sign] at ht
    rw [of_decide_eq_true ht]
    exact piece_sign.mpr rfl
/-- one sign more moves the positions as the pieces say -/
theorem cl_step {cells : List Str} (hc : Cells cells) {t : List Nat} {c : Nat} {S : List Nat} (hS : ∀ k, k ∈ S ↔ k ≤ cells.length ∧ At cells t k) : ∀ k, k ≤ cells.length → (Cl cells (rawM cells c S) k = true ↔ At cells (t ++ [c]) k) := by
  -- what a position gives
  have sound : ∀ j, j ≤ cells.length → j ∈ rawM cells c S → At cells (t ++ [c]) j := by
    intro j hj h
    obtain ⟨k, hk, h⟩ := raw_mem.mp h
    obtain ⟨hkn, hA⟩ := (hS k).mp hk
    rcases h with ⟨h1, h2, rfl⟩ | ⟨h1, h2, h3, rfl⟩ | ⟨h1, h2, h3, rfl⟩
    · rcases hA with hA | ⟨_, _, hA⟩
      · exact .inr ⟨h1, h2, mk_more (mk_any hA h2) h2⟩
      · exact .inr ⟨h1, h2, mk_more hA h2⟩
    · rcases hA with hA | ⟨_, h4, _⟩
      · exact .inl ⟨t, [c], rfl, hA, piece_one (hc.at h1) h3⟩
      · exact absurd h4 h2
    · rcases hA with hA | ⟨h4, h5, hA⟩
      · obtain ⟨m, rfl⟩ : ∃ m, j = m + 1 := ⟨j - 1, by omega⟩
        obtain ⟨u, v, rfl, hu, hv⟩ := hA
        have e : m + 1 - 1 = m := by omega
        rw [e] at h2 h3
        have hv' := (piece_rep h2).mp hv
        refine .inl ⟨u, v ++ [c], List.append_assoc _ _ _, hu, (piece_rep h2).mpr ⟨by simp, fun d hd => ?_⟩⟩
        rcases List.mem_append.mp hd with hd | hd
        · exact hv'.2 d hd
        · rw [List.mem_singleton.mp hd, ← takes_rep h2]
          exact h3
      · exact .inr ⟨h4, h5, mk_more hA h5⟩
  -- a text that ends with c is there
  have whole : ∀ k, k ≤ cells.length → Mk cells k (t ++ [c]) → Cl cells (rawM cells c S) k = true := by
    intro k
    induction k with
    | zero =>
      intro _ h
      have : t ++ [c] = [] := h
      simp at this
    | succ m ih =>
      rintro hk ⟨u, v, e, hu, hv⟩
      show (decide (m + 1 ∈ rawM cells c S) || (Cl cells (rawM cells c S) m && decide (cellAt' cells m = anyP))) = true
      rcases List.eq_nil_or_concat v with rfl | ⟨v', d, rfl⟩
      · -- an empty piece: any signs
        have ha := (piece_nil (hc.at (by omega))).mp hv
        rw [List.append_nil] at e
        rw [ih (by omega) (e ▸ hu), decide_eq_true ha]
        simp
      · rw [List.concat_eq_append] at e hv
        rw [← List.append_assoc] at e
        obtain ⟨e1, e2⟩ := List.append_inj' e rfl
        have ed : d = c := by simpa using e2.symm
        subst ed
        rcases hc.at (show m < cells.length by omega) with ho | ⟨x, hx⟩
        · rcases isOpen_iff.mp ho with hp | hp | hp
          all_goals first
            | (have hr : cellAt' cells m = digP ∨ cellAt' cells m = wordP := by first | exact .inl hp | exact .inr hp
               have hv2 := (piece_rep hr).mp hv
               have htk : takesM (cellAt' cells m) d = true := by
                 rw [takes_rep hr]
                 exact hv2.2 d (by simp)
               have hin : m + 1 ∈ rawM cells d S := by
                 cases v' with
                 | nil =>
                   refine raw_mem.mpr ⟨m, (hS m).mpr ⟨by omega, .inl ?_⟩, .inr (.inl ⟨by omega, fun z => ?_, htk, rfl⟩)⟩
                   · rw [e1, List.append_nil]
                     exact hu
                   · rw [z] at hr
                     exact hr.elim any_ne_dig any_ne_word
                 | cons y r =>
                   refine raw_mem.mpr ⟨m + 1, (hS (m + 1)).mpr ⟨hk, .inl ⟨u, y :: r, e1, hu, (piece_rep hr).mpr ⟨by simp, fun z hz => hv2.2 z (List.mem_append_left _ hz)⟩⟩⟩, .inr (.inr ⟨by omega, hr, htk, rfl⟩)⟩
               rw [decide_eq_true hin]
               rfl)
            | (have hm : m ∈ S := (hS m).mpr ⟨by omega, .inr ⟨by omega, hp, u, v', e1, hu, by rw [hp]; exact piece_any⟩⟩
               have hin : m ∈ rawM cells d S := raw_mem.mpr ⟨m, hm, .inl ⟨by omega, hp, rfl⟩⟩
               have hcl : Cl cells (rawM cells d S) m = true := by
                 cases m with
                 | zero => exact decide_eq_true hin
                 | succ m' =>
                   show (decide (m' + 1 ∈ rawM cells d S) || _) = true
                   rw [decide_eq_true hin]
                   rfl
               rw [hcl, decide_eq_true hp]
               simp)
        · rw [hx] at hv
          have hv2 := piece_sign.mp hv
          have hv3 : v' = [] ∧ d = x := by
            cases v' with
            | nil => exact ⟨rfl, by simpa using hv2⟩
            | cons y r =>
              have := congrArg List.length hv2
              simp at this
          obtain ⟨rfl, rfl⟩ := hv3
          have hin : m + 1 ∈ rawM cells d S := raw_mem.mpr ⟨m, (hS m).mpr ⟨by omega, .inl (by rw [e1, List.append_nil]; exact hu)⟩, .inr (.inl ⟨by omega, by rw [hx]; exact sign_ne open_any, by rw [hx, takes_sign]; exact decide_eq_true rfl, rfl⟩)⟩
          rw [decide_eq_true hin]
          rfl
  intro k
  induction k with
  | zero =>
    intro hk
    show decide (0 ∈ rawM cells c S) = true ↔ _
    rw [decide_eq_true_eq]
    constructor
    · exact sound 0 hk
    · rintro (h | ⟨h1, h2, h⟩)
      · have := whole 0 hk h
        exact of_decide_eq_true this
      · obtain ⟨u, v, e, hu, hv⟩ := h
        have hu' : u = [] := hu
        subst hu'
        refine raw_mem.mpr ⟨0, (hS 0).mpr ⟨hk, ?_⟩, .inl ⟨h1, h2, rfl⟩⟩
        refine .inr ⟨h1, h2, [], t, rfl, rfl, by rw [h2]; exact piece_any⟩
  | succ m ih =>
    intro hk
    have ih := ih (by omega)
    constructor
    · intro h
      have h' : (decide (m + 1 ∈ rawM cells c S) || (Cl cells (rawM cells c S) m && decide (cellAt' cells m = anyP))) = true := h
      rcases Bool.or_eq_true _ _ ▸ h' with h' | h'
      · exact sound _ hk (of_decide_eq_true h')
      · obtain ⟨h1, h2⟩ := Bool.and_eq_true _ _ ▸ h'
        exact at_closed (ih.mp h1) (of_decide_eq_true h2)
    · rintro (h | ⟨h1, h2, h⟩)
      · exact whole _ hk h
      · obtain ⟨u, v, e, hu, hv⟩ := h
        rcases List.eq_nil_or_concat v with rfl | ⟨v', d, rfl⟩
        · rw [List.append_nil] at e
          exact whole _ hk (e ▸ hu)
        · rw [List.concat_eq_append, ← List.append_assoc] at e
          obtain ⟨e1, e2⟩ := List.append_inj' e rfl
          have hm : m + 1 ∈ S := (hS _).mpr ⟨hk, .inr ⟨h1, h2, u, v', e1, hu, by rw [h2]; exact piece_any⟩⟩
          have hin : m + 1 ∈ rawM cells c S := raw_mem.mpr ⟨m + 1, hm, .inl ⟨h1, h2, rfl⟩⟩
          show (decide (m + 1 ∈ rawM cells c S) || _) = true
          rw [decide_eq_true hin]
          rfl
/-- the positions behind a text -/
def state (cells : List Str) (t : List Nat) : List Nat := t.foldl (movedM cells) (startedM cells)
theorem state_snoc (cells : List Str) (t : List Nat) (c : Nat) : state cells (t ++ [c]) = movedM cells (state cells t) c := by
  unfold state
  rw [List.foldl_append]
  rfl
theorem state_mem {cells : List Str} (hc : Cells cells) (t : List Nat) : ∀ k, k ∈ state cells t ↔ k ≤ cells.length ∧ At cells t k := by
  have key : ∀ (n : Nat) (t : List Nat), t.length = n → ∀ k, k ∈ state cells t ↔ k ≤ cells.length ∧ At cells t k := by
    intro n
    induction n with
    | zero =>
      intro t ht k
      have : t = [] := List.length_eq_zero_iff.mp ht
      subst this
      show k ∈ closedM cells [0] ↔ _
      rw [closed_eq, List.mem_filter, List.mem_range]
      constructor
      · rintro ⟨h1, h2⟩
        exact ⟨by omega, (cl_start hc k (by omega)).mp h2⟩
      · rintro ⟨h1, h2⟩
        exact ⟨by omega, (cl_start hc k h1).mpr h2⟩
    | succ n ih =>
      intro t ht k
      rcases List.eq_nil_or_concat t with rfl | ⟨u, c, rfl⟩
      · cases ht
      · rw [List.concat_eq_append] at ht ⊢
        have hu : u.length = n := by simpa using ht
        rw [state_snoc]
        show k ∈ closedM cells (rawM cells c (state cells u)) ↔ _
        rw [closed_eq, List.mem_filter, List.mem_range]
        constructor
        · rintro ⟨h1, h2⟩
          exact ⟨by omega, (cl_step hc (ih u hu) k (by omega)).mp h2⟩
        · rintro ⟨h1, h2⟩
          exact ⟨by omega, (cl_step hc (ih u hu) k h1).mpr h2⟩
  exact key t.length t rfl
/-- a state is an ascending list of numbers up to n -/
theorem state_filter (cells : List Str) (t : List Nat) : ∃ f : Nat → Bool, state cells t = (List.range (cells.length + 1)).filter f := by
  rcases List.eq_nil_or_concat t with rfl | ⟨u, c, rfl⟩
  · exact ⟨_, closed_eq cells [0]⟩
  · rw [List.concat_eq_append, state_snoc]
    exact ⟨_, closed_eq cells _⟩
theorem filter_eq {n : Nat} {f g : Nat → Bool} (h : ∀ k, k < n → (k ∈ (List.range n).filter f ↔ g k = true)) : (List.range n).filter f = (List.range n).filter g := by
  apply List.filter_congr
  intro k hk
  have h1 := h k (List.mem_range.mp hk)
  rw [List.mem_filter] at h1
  cases hf : f k with
  | true => rw [(h1.mp ⟨hk, hf⟩)]
  | false =>
    cases hg : g k with
    | false => rfl
    | true =>
      have := (h1.mpr hg).2
      rw [hf] at this
      cases this

/-! ### slices of lists; states' lengths -/
theorem cutV_lt {xs : List V} {b : Nat} : cutV xs none (some (b : Int)) = xs.take b := by
  unfold cutV
  rw [HT.sIx_none, HT.sIx_nat, List.drop_zero, Nat.sub_zero]
  by_cases h : b ≤ xs.length
  · rw [Nat.min_eq_left h]
  · rw [Nat.min_eq_right (by omega), List.take_of_length_le (Nat.le_refl _), List.take_of_length_le (by omega)]
theorem cutV_in {xs : List V} {a b : Nat} : cutV xs (some (a : Int)) (some (b : Int)) = (xs.drop a).take (b - a) := by
  unfold cutV
  rw [HT.sIx_nat, HT.sIx_nat]
  by_cases h : a ≤ xs.length
  · rw [Nat.min_eq_left h]
    by_cases h2 : b ≤ xs.length
    · rw [Nat.min_eq_left h2]
    · rw [Nat.min_eq_right (by omega), List.take_of_length_le (by rw [List.length_drop]; exact Nat.le_refl _), List.take_of_length_le (by rw [List.length_drop]; omega)]
  · rw [Nat.min_eq_right (by omega : xs.length ≤ a), List.drop_of_length_le (Nat.le_refl _), List.drop_of_length_le (by omega)]
    simp

theorem signs_cells {ps : List Str} (h : Parts ps) : Cells (cellsM ps) ∧ ∀ c ∈ cellsM ps, c.length ≤ 1000 ∧ okV (.str c) = true := by
  have key : ∀ qs : List Str, (∀ p ∈ qs, isOpen p = true ∨ fixedP p) → ∀ c ∈ cellsM qs, (isOpen c = true ∨ ∃ x : Nat, c = ⟨#[x]⟩) ∧ c.length ≤ 1000 ∧ okV (.str c) = true := by
    intro qs
    induction qs with
    | nil =>
      intro _ c hc
      cases hc
    | cons p qs ih =>
      intro hq c hc
      rcases List.mem_append.mp (show c ∈ cellOf1 p ++ cellsM qs from hc) with hc | hc
      · unfold cellOf1 at hc
        by_cases ho : isOpen p = true
        · rw [if_pos ho, List.mem_singleton] at hc
          subst hc
          have := open_len ho
          exact ⟨.inl ho, by omega, open_ok ho⟩
        · rw [if_neg ho] at hc
          have hf : fixedP p := (hq p List.mem_cons_self).resolve_left ho
          obtain ⟨x, hx, rfl⟩ := List.mem_map.mp hc
          have := sign_lt (hf.1 x hx)
          exact ⟨.inr ⟨x, rfl⟩, by show (1 : Nat) ≤ 1000; decide, okV_str1 (by omega)⟩
      · exact ih (fun q h => hq q (List.mem_cons_of_mem _ h)) c hc
  exact ⟨fun c hc => (key ps h.each c hc).1, fun c hc => (key ps h.each c hc).2⟩
theorem state_len (cells : List Str) (t : List Nat) : (state cells t).length ≤ cells.length + 1 := by
  obtain ⟨f, hf⟩ := state_filter cells t
  rw [hf]
  have := List.length_filter_le f (List.range (cells.length + 1))
  rw [List.length_range] at this
  exact this
theorem okV_ns (ps : List Nat) : ∀ v ∈ ps.map vN, okV v = true := fun v h => by
  obtain ⟨i, _, rfl⟩ := List.mem_map.mp h
  rfl
theorem eqF_ns (xs ys : List Nat) : eqF (xs.map vN) (ys.map vN) = decide (xs = ys) := by
  have h := eqF_ints (xs.map fun k : Nat => (k : Int)) (ys.map fun k : Nat => (k : Int))
  rw [List.map_map, List.map_map] at h
  rw [show xs.map vN = xs.map (V.int ∘ fun k : Nat => (k : Int)) from rfl, show ys.map vN = ys.map (V.int ∘ fun k : Nat => (k : Int)) from rfl, h]
  congr 1
  apply propext
  constructor
  · intro e
    exact (List.map_inj_right fun a b h => by omega).mp e
  · intro e
    rw [e]
/-- a new object that stands beside the pool -/
theorem fresh_ne {p l : Addr} {H : Hp} {o : HO} (hp : H p = some o) (hl : H l = none) : l ≠ p := fun z => by
  rw [z, hp] at hl
  cases hl

/-! ### Form: made of parts that are allowed, told, asked -/
theorem tup_at {xs : List V} {k : Nat} {v : V} (h : xs[k]? = some v) : atI xs (k : Int) = some v := by
  have hk := (List.getElem?_eq_some_iff.mp h).1
  unfold atI ixN
  rw [if_pos (by omega), if_pos (by omega)]
  exact h

theorem str_get {ps : List Str} {k : Nat} {p : Str} (h : ps[k]? = some p) : (ps.map V.str)[k]? = some (.str p) := by
  rw [List.getElem?_map, h]
  rfl
/-- of parts that make a form each one is allowed where it stands -/
def spAllowed (K : PySem.W.Frag) : Sp := fun vs H Q _ => ∃ (t : Addr) (ps : List Str) (i : Nat), vs = [.ref t, .int (i : Int)] ∧ SqT K H t (ps.map V.str) ∧ Parts ps ∧ ps.length ≤ 4 ∧ i < ps.length ∧ RetV (.bl true) H Q
theorem ok__is_allowed {f : Addr} {fd : FuncData} (F : Fun K "_is_allowed" "_is_allowed" s__is_allowed f fd) (T : Txt K mg a_OPEN_PARTS C_Both C_Either C_Form) (D_is_line : Df P w K mg base "is_line" ["thing"] 1 (spIsLine K)) : FnOk P w K mg base CX0 2 f fd ["parts", "at"] (spAllowed K) := by
  refine F.ok sc__is_allowed (fun vs H Q E h => ?_) (fun cdv A outer s0 H vs Q E hr h => ?_)
  · obtain ⟨t, ps, i, rfl, _⟩ := h
    rfl
  · obtain ⟨t, ps, i, rfl, hT, hP, h4, hi, q⟩ := h
    refine ⟨_, (pss_cons (ps_set (i := 2) sc__is_allowed.nd rfl (Or.inl rfl) (pe_ix ix_tup (pv 0) (pv 1) (fun _ _ => rfl)))
      (pss_cons (ps_if (PW.pt (pw_or (pt_cmpR op_ge (pv 1) (pe_cst T.c_MOST_PARTS (by rfl)) (nomark _)) (pw_or1 (pt_not (pt_val (pe_callB call_isi (by rfl) T.n_isinstance (by decide +kernel) (pa_cons (pv 2) (pa_cons (pe_bltn (v := .ty "str") (by rfl) T.n_str (by decide +kernel) rfl) pa_nil))))))))
      (pss_one (ps_ret pe_bl))
      pss_nil)
      (pss_cons (ps_if (pt_cmpR op_eq (pv 2) (pe_cst T.c_ANY_SIGNS (by rfl)) (nomark _))
      (pss_one (ps_ret (pe_cmpR op_notIn_seq (pv 2) (pe_slice sl_tup (pv 0) po_none (po_some (pv 1))) (by rfl))))
      pss_nil)
      (pss_cons (ps_if (pt_cmpR op_in_seq (pv 2) (pe_cst T.c_OPEN_PARTS (by rfl)) (by rfl))
      (pss_one (ps_ret pe_bl))
      pss_nil)
      (pss_cons (ps_if (PW.pt (pw_and (pt_cmpR op_gt (pv 1) pe_int (nomark _)) (pw_and1 (pt_cmpR op_notIn_seq (pe_ix ix_tup (pv 0) (pe_op op_sub (pv 1) pe_int) (fun _ _ => rfl)) (pe_cst T.c_OPEN_PARTS (by rfl)) (by rfl)))))
      (pss_one (ps_ret pe_bl))
      pss_nil)
      (pss_one (ps_ret (pe_and (pe_df D_is_line (hr.mono (by decide)) (by rfl) (pa_cons (pv 2) pa_nil)) (pe_one (pe_cmpR op_le (pe_callB call_len_str (by rfl) T.n_len PySem.boot_len (pa_cons (pv 2) pa_nil)) (pe_cst T.c_MOST_SIGNS (by rfl)) (nomark _))))))))))), ?_⟩
    have hp := cellAt_get hi
    generalize cellAt' ps i = p at hp
    have hpe := hP.each p (List.mem_of_getElem? hp)
    refine q_asg (ev_op (ev_var rfl) (ev_var rfl) (rv_ixT hT (tup_at (str_get hp)))) fun H1 e1 => ?_
    refine q_when (b := false) (et_is (et_or (et_test (ev_op (ev_var rfl) ev_c rv_I0)) fun _ => et_not (et_B (ev_isi (ev_var rfl) (.base (.str p)) (b := true) (by decide +kernel)))) (by rw [decide_eq_false (by omega)]; rfl)) (fun z => by cases z) (fun _ H2 e2 => ?_)
    have hT2 := ex_t (e1.trans e2) hT
    refine q_when (b := decide (p = anyP)) (et_test (ev_op (ev_var rfl) ev_c rv_eqS)) (fun hb H3 e3 => ?_) (fun hb H3 e3 => ?_)
    · have hpa := of_decide_eq_true hb
      subst hpa
      have hno : anyP ∉ ps.take i := fun hm => by
        obtain ⟨j, hj⟩ := List.mem_iff_getElem?.mp hm
        have hji : j < i := by
          have := (List.getElem?_eq_some_iff.mp hj).1
          rw [List.length_take] at this
          omega
        rw [List.getElem?_take_of_lt hji] at hj
        have := hP.one j i hj hp
        omega
      refine s_ret (v := .bl (!inV (.str anyP) ((ps.take i).map V.str))) (fun H4 e4 Q' q' => ?_) fun H4 e4 => ?_
      · refine ⟨_, rfl, _, rfl, _, rfl, _, rfl, t, ps.map V.str, rfl, ex_t (e3.trans e4) hT2, ?_, fun r hr0 => ?_⟩
        · rintro ⟨_, he⟩
          rw [HT.sIx_nat, List.length_map] at he
          omega
        · refine ⟨r, _, rfl, .inr (st_of upd_same), rfl, ?_, ?_⟩
          · rw [cutV_lt, ← List.map_take]
            exact flat_str _
          · rw [cutV_lt, ← List.map_take]
            exact q' _ (Ex.new hr0)
      · rw [inV_str, decide_eq_false hno]
        exact q H4 (((e1.trans e2).trans e3).trans e4)
    · have e13 := (e1.trans e2).trans e3
      refine q_when (b := isOpen p) (et_test (ev_op (ev_var rfl) ev_c (rv_isT T.o_OPEN_PARTS.at_ rfl rfl))) (fun hc H4 e4 => ?_) (fun hc H4 e4 => ?_)
      · exact s_ret ev_c fun H5 e5 => q H5 ((e13.trans e4).trans e5)
      · have hf : fixedP p := hpe.resolve_left (by rw [hc]; decide)
        have hT4 := ex_t (e3.trans e4) hT2
        refine q_when (b := false) (et_is (et_and (a := decide (0 < i)) (et_test (ev_is (ev_op (ev_var rfl) ev_c rv_I0) (congrArg V.bl gt_zero))) (b := false) fun hd => ?_) (by simp)) (fun z => by cases z) (fun _ H5 e5 => ?_)
        · have hi0 := of_decide_eq_true hd
          have hq := cellAt_get (ps := ps) (k := i - 1) (by omega)
          have ho : isOpen (cellAt' ps (i - 1)) = true := by
            rcases hP.adj (i - 1) _ p hq (by rw [show i - 1 + 1 = i by omega]; exact hp) with h | h
            · exact h
            · rw [h] at hc
              cases hc
          refine et_test (ev_is (ev_op (ev_op (ev_var rfl) (ev_op (ev_var rfl) ev_c rv_I0) (rv_ixT hT4 (by
            rw [show (i : Int) - 1 = ((i - 1 : Nat) : Int) by omega]
            exact tup_at (str_get hq)))) ev_c (rv_niT T.o_OPEN_PARTS.at_ rfl rfl)) ?_)
          show V.bl (!isOpen (cellAt' ps (i - 1))) = V.bl false
          rw [ho]
          rfl
        · have hln : isLn p = true := by
            unfold isLn
            have h1 := hf.2.1
            rw [decide_eq_true (by omega), Bool.true_and]
            exact List.all_eq_true.mpr fun c hc => decide_eq_true (hf.1 c hc)
          have h4' := hf.2.2
          refine s_ret (v := .bl (true && true)) (ev_andV (ev_call (z := .bl true) (ea_cons (ev_var rfl) ea_nil) fun H6 e6 Q' q' E' => ⟨_, rfl, .inl ⟨p, rfl, by omega, by rw [hln]; exact q'⟩⟩) fun _ => ev_is (ev_op (ev_lenS (ev_var rfl) (by omega)) ev_c rv_I0) (congrArg V.bl (decide_eq_true (by show (p.length : Int) ≤ 4; omega)))) fun H6 e6 => q H6 (((e13.trans e4).trans e5).trans e6)
/-- a Form of these parts -/
theorem kPC : ¬ (("_cells" : Str) = "_parts") := by decide +kernel
def formF (t c : Addr) : List (Str × V) := putF "_cells" (.ref c) (putF "_parts" (.ref t) [])
theorem formF_parts (t c : Addr) : (formF t c).lookup ("_parts" : Str) = some (.ref t) := by
  unfold formF
  rw [lookup_putF, if_neg (fun z => kPC z.symm), lookup_putF, if_pos rfl]
theorem formF_cells (t c : Addr) : (formF t c).lookup ("_cells" : Str) = some (.ref c) := by
  unfold formF
  rw [lookup_putF, if_pos rfl]
theorem formF_no (t c : Addr) {m : Str} (h1 : ¬ m = "_cells") (h2 : ¬ m = "_parts") : (formF t c).lookup m = none := by
  unfold formF
  rw [lookup_putF, if_neg h1, lookup_putF, if_neg h2]
  all_goals rfl
def FormAt (C : Addr) (H : Hp) (a : Addr) (ps : List Str) : Prop := ∃ dx t c : Addr, H a = some (.ins C dx (formF t c)) ∧ H t = some (.tup (ps.map V.str)) ∧ H c = some (.lst ((cellsM ps).map V.str))
theorem FormAt.ex {C : Addr} {H H' : Hp} {a : Addr} {ps : List Str} (h : FormAt C H a ps) (e : Ex H H') : FormAt C H' a ps := by
  obtain ⟨dx, t, c, h1, h2, h3⟩ := h
  exact ⟨dx, t, c, e _ _ h1, e _ _ h2, e _ _ h3⟩

/-- __init__, behind the star: self and the tuple of the parts -/
def spFormI (C : Addr) : Sp := fun vs H Q _ => ∃ (a t dx : Addr) (ps : List Str), vs = [.ref a, .ref t] ∧ H a = some (.ins C dx []) ∧ H t = some (.tup (ps.map V.str)) ∧ Parts ps ∧ 1 ≤ ps.length ∧ ps.length ≤ 4 ∧
  ∀ H', Ex (hide a H) H' → FormAt C H' a ps → Q .non H'
def spForm (C : Addr) : Sp := fun vs H Q E => ∃ ws rest, vs = ws ++ rest ∧ ws.length = ["self"].length ∧ rest.length ≤ sizeLine ∧ ∀ p, H p = Option.none → spFormI C (ws ++ [V.ref p]) (upd H p (.tup rest)) Q E
theorem ok_Form___init__ {f : Addr} {fd : FuncData} (F : Fun K "__init__" "Form.__init__" s_Form___init__ f fd) (T : Txt K mg a_OPEN_PARTS C_Both C_Either C_Form) (D__is_allowed : Df P w K mg base "_is_allowed" ["parts", "at"] 2 (spAllowed K)) (D_cells_of__t : Df P w K mg base "cells_of" ["parts"] 1 (spCellsT K)) :
    FnR P w K mg base CX0 3 f (spForm C_Form) := by
  obtain ⟨oc, od, kV, doc, pm, an, cdv, ct, osl, rfl, lk, hcd⟩ := F.ex
  refine fn_star (ps := ["self"]) (pv := "parts") lk hcd sc_Form___init__ cxUp_none (bind_star1 (B := fun us => bindArgs (PySem.W.fnOf "__init__" "Form.__init__" (defArgs s_Form___init__) (defBody s_Form___init__) (defScope s_Form___init__) .none kV doc pm an cdv ct) ⟨us, []⟩) (p1 := "self") (pv := "parts") (fun a => rfl) (fun a r rs => rfl)) (fun A outer s0 H vs Q E hr h => ?_)
  obtain ⟨a, t, dx, ps, rfl, ha, ht, hP, h1, h4, q⟩ := h
  refine ⟨_, ((pss_cons (ps_if (pt_cmpR op_eq (pe_callB call_len_seq (by rfl) T.n_len PySem.boot_len (pa_cons (pv 1) pa_nil)) pe_int (nomark _))
      (pss_one ps_never)
      pss_nil)
      (pss_cons (ps_for PassesOwn.never rfl (pi_range1 (by rfl) T.n_range (pa_cons (pe_callB call_len_seq (by rfl) T.n_len PySem.boot_len (pa_cons (pv 1) pa_nil)) pa_nil)) (pg_name (i := 2) sc_Form___init__.nd rfl (Or.inl rfl))
      (pss_one (ps_if (pt_not (pt_val (pe_df D__is_allowed (hr.mono (by decide)) (by rfl) (pa_cons (pv 1) (pa_cons (pv 2) pa_nil)))))
      (pss_one ps_never)
      pss_nil)))
      (pss_cons (ps_fld (pv 0) (pv 1) rfl)
      (pss_one (ps_fld (pv 0) (pe_df D_cells_of__t (hr.mono (by decide)) (by rfl) (pa_cons (pv 1) pa_nil)) rfl)))))).nox, ?_⟩
  have nat : a ≠ t := ne_of ha ht (by intro z; cases z)
  refine q_when (b := decide (((ps.map V.str).length : Int) = 0)) (et_test (ev_op (fun H1 e1 Q' q' => ⟨_, rfl, t, ps.map V.str, rfl, .inr (st_of (e1 _ _ ht)), q' H1 (Ex.refl _)⟩) ev_c rv_eqI)) (fun hb H1 e1 => ?_) (fun hb H1 e1 => ?_)
  · have := of_decide_eq_true hb
    rw [List.length_map] at this
    omega
  have ht1 := e1 _ _ ht
  refine q_forR1 (n := ((ps.map V.str).length : Int)) (fun H2 e2 Q' q' => ⟨_, rfl, t, ps.map V.str, rfl, .inr (st_of (e2 _ _ ht1)), q' H2 (Ex.refl _)⟩) (by rw [List.length_map]; omega) (fun i σ' H' => ∃ y : Option V, σ' = [some (.ref a), some (.ref t), y] ∧ Ex H1 H') (fun H2 e2 => ⟨none, rfl, e2⟩) ?_ ?_
  · rintro i σ' H2 hi ⟨y, rfl, e2⟩
    rw [List.length_map] at hi
    refine s_when (b := false) (et_is (et_not (et_B (ev_call (z := .bl true) (ea_cons (ev_var rfl) (ea_cons (ev_var rfl) ea_nil)) fun H3 e3 Q' q' E' => ⟨t, ps, i, rfl, st_of (e3 _ _ (e2 _ _ ht1)), hP, h4, by omega, q'⟩))) rfl) (fun z => by cases z) (fun _ H3 e3 => ⟨_, rfl, e2.trans e3⟩)
  · rintro σ' H2 ⟨y, rfl, e2⟩
    have ha2 := e2 _ _ (e1 _ _ ha)
    have ht2 := e2 _ _ ht1
    refine ⟨_, rfl, _, rfl, a, C_Form, dx, [], rfl, ha2, T.k_Form, T.a_Form__parts, by decide, ?_⟩
    have ht3 : upd H2 a (.ins C_Form dx (putF "_parts" (.ref t) [])) t = some (.tup (ps.map V.str)) := by
      rw [upd_ne nat.symm]
      exact ht2
    refine ⟨_, rfl, t, ps, rfl, st_of ht3, by omega, fun p hp => by have := hP.len p hp; omega, fun c H3 hc0 e3 h3 => ?_⟩
    have ha3 : H3 a = some (.ins C_Form dx (putF "_parts" (.ref t) [])) := e3 _ _ upd_same
    have nca : c ≠ a := fun z => by
      rw [z, upd_same] at hc0
      cases hc0
    refine ⟨_, rfl, a, C_Form, dx, _, rfl, ha3, T.k_Form, T.a_Form__cells, by
      have := length_putF ("_parts" : Str) (.ref t) []
      simp only [List.length_nil] at this
      omega, q _ ?_ ⟨dx, t, c, upd_same, ?_, ?_⟩⟩
    · intro b o hb
      obtain ⟨nb, hb⟩ := hide_some hb
      rw [upd_ne nb]
      exact e3 _ _ (by rw [upd_ne nb]; exact e2 _ _ (e1 _ _ hb))
    · rw [upd_ne nat.symm]
      exact e3 _ _ ht3
    · rw [upd_ne nca]
      exact h3
/-- parts() -/
def spParts (C : Addr) : Sp := fun vs H Q _ => ∃ (a : Addr) (ps : List Str), vs = [.ref a] ∧ FormAt C H a ps ∧ ∀ t H', Ex H H' → H t = some (.tup (ps.map V.str)) → Q (.ref t) H'
theorem ok_Form_parts {f : Addr} {fd : FuncData} (F : Fun K "parts" "Form.parts" s_Form_parts f fd) (T : Txt K mg a_OPEN_PARTS C_Both C_Either C_Form) : FnOk P w K mg base CX0 1 f fd ["self"] (spParts C_Form) := by
  refine F.ok sc_Form_parts (fun vs H Q E h => ?_) (fun cdv A outer s0 H vs Q E hr h => ?_)
  · obtain ⟨a, ps, rfl, _⟩ := h
    rfl
  · obtain ⟨a, ps, rfl, ⟨dx, t, c, h1, h2, h3⟩, q⟩ := h
    refine ⟨_, (pss_one (ps_ret (pe_fld (pv 0) rfl))), ?_⟩
    exact ⟨_, rfl, a, C_Form, dx, _, _, rfl, h1, T.k_Form, T.a_Form__parts, formF_parts t c, q t H (Ex.refl _) h2⟩

/-- line in form -/
def inForm (ps : List Str) (z : Str) : Bool := isLn z && decide ((cellsM ps).length ∈ state (cellsM ps) z.cps.toList)
theorem state_nil (cells : List Str) (t : List Nat) : ∀ u, state cells t = [] → state cells (t ++ u) = []
  | [], h => by rw [List.append_nil]; exact h
  | c :: u, h => by
    have e : t ++ c :: u = (t ++ [c]) ++ u := by simp
    rw [e]
    refine state_nil cells (t ++ [c]) u ?_
    rw [state_snoc, h]
    unfold movedM
    rw [closed_eq, List.filter_eq_nil_iff]
    have hr : rawM cells c [] = [] := rfl
    rw [hr]
    intro k _
    have : ∀ k, Cl cells [] k = false := by
      intro k
      induction k with
      | zero => rfl
      | succ j ih =>
        show (decide (j + 1 ∈ ([] : List Nat)) || (Cl cells [] j && decide (cellAt' cells j = anyP))) = false
        rw [ih]
        simp
    rw [this k]
    simp
theorem tFld_ev {σ : L2.St} {H : Hp} {i : Nat} {a C dx : Addr} {fs : List (Str × V)} {f : Str} {v : V} (hi : σ[i]? = some (some (.ref a))) (ha : H a = some (.ins C dx fs)) (hc : Cls K C) (hn : NoAttr K C f) (hl : fs.lookup f = some v) : Ev (tFld K (tVar i) f) σ H v := fun H1 e Q q =>
  ⟨_, hi, a, C, dx, fs, v, rfl, e _ _ ha, hc, hn, hl, q H1 (Ex.refl _)⟩
def spIn (C : Addr) : Sp := fun vs H Q _ => ∃ (a : Addr) (ps : List Str) (z : Str), vs = [.ref a, .str z] ∧ FormAt C H a ps ∧ Parts ps ∧ ps.length ≤ 4 ∧ z.length ≤ 1000 ∧ RetV (.bl (inForm ps z)) H Q
theorem ok_Form___contains__ {f : Addr} {fd : FuncData} (F : Fun K "__contains__" "Form.__contains__" s_Form___contains__ f fd) (T : Txt K mg a_OPEN_PARTS C_Both C_Either C_Form) (D_is_line : Df P w K mg base "is_line" ["thing"] 1 (spIsLine K)) (D_started : Df P w K mg base "started" ["cells"] 2 (spStarted K))
    (D_moved : Df P w K mg base "moved" ["cells", "positions", "sign"] 2 (spMoved K)) (D_is_done : Df P w K mg base "is_done" ["cells", "positions"] 1 (spIsDone K)) : FnOk P w K mg base CX0 3 f fd ["self", "line"] (spIn C_Form) := by
  refine F.ok sc_Form___contains__ (fun vs H Q E h => ?_) (fun cdv A outer s0 H vs Q E hr h => ?_)
  · obtain ⟨a, ps, z, rfl, _⟩ := h
    rfl
  · obtain ⟨a, ps, z, rfl, ⟨dx, t, c, h1, h2, h3⟩, hP, h4, hz, q⟩ := h
    refine ⟨_, (pss_cons (ps_if (pt_not (pt_val (pe_df D_is_line (hr.mono (by decide)) (by rfl) (pa_cons (pv 1) pa_nil))))
      (pss_one (ps_ret pe_bl))
      pss_nil)
      (pss_cons (ps_set (i := 2) sc_Form___contains__.nd rfl (Or.inl rfl) (pe_df D_started (hr.mono (by decide)) (by rfl) (pa_cons (pe_fld (pv 0) rfl) pa_nil)))
      (pss_cons (ps_for PassesOwn.never rfl (pi_str (pv 1)) (pg_name (i := 3) sc_Form___contains__.nd rfl (Or.inl rfl))
      (pss_cons (ps_set (i := 2) sc_Form___contains__.nd rfl (Or.inl rfl) (pe_df D_moved (hr.mono (by decide)) (by rfl) (pa_cons (pe_fld (pv 0) rfl) (pa_cons (pv 2) (pa_cons (pv 3) pa_nil)))))
      (pss_one (ps_if (pt_cmpR op_eq (pe_callB call_len_seq (by rfl) T.n_len PySem.boot_len (pa_cons (pv 2) pa_nil)) pe_int (nomark _))
      (pss_one (ps_ret pe_bl))
      pss_nil))))
      (pss_one (ps_ret (pe_df D_is_done (hr.mono (by decide)) (by rfl) (pa_cons (pe_fld (pv 0) rfl) (pa_cons (pv 2) pa_nil)))))))), ?_⟩
    unfold inForm at q
    have hcl : (cellsM ps).length ≤ 400 := by
      have := cellsM_len (ps := ps) fun p hp => by have := hP.len p hp; omega
      omega
    have hC := (signs_cells hP).1
    refine q_when (b := !isLn z) (et_not (et_B (ev_call (ea_cons (ev_var rfl) ea_nil) fun H1 e1 Q' q' E' => ⟨_, rfl, .inl ⟨z, rfl, by omega, q'⟩⟩))) (fun hb H1 e1 => ?_) (fun hb H1 e1 => ?_)
    · have hb' : isLn z = false := by
        cases h : isLn z with
        | false => rfl
        | true =>
          rw [h] at hb
          cases hb
      rw [hb'] at q
      exact s_ret ev_c fun H2 e2 => q H2 (e1.trans e2)
    have hb' : isLn z = true := by
      cases h : isLn z with
      | true => rfl
      | false =>
        rw [h] at hb
        cases hb
    rw [hb', Bool.true_and] at q
    have cellsE : ∀ {σ : L2.St} {H'} (_ : Ex H H') (i0 : σ[0]? = some (some (.ref a))), Ev (tFld K (tVar 0) "_cells") σ H' (.ref c) := fun e i0 => tFld_ev i0 (e _ _ h1) T.k_Form T.a_Form__cells (formF_cells t c)
    refine q_asgU (xs := (state (cellsM ps) []).map vN) (fun H2 e2 Q' q' => cellsE (e1.trans e2) rfl H2 (Ex.refl _) _ fun H3 e3 => ⟨c, cellsM ps, rfl, sq_of (e3 _ _ (e2 _ _ (e1 _ _ h3))), by omega, fun p H4 hp e4 h4' => q' p H4 (fresh_back e3 hp) (e3.trans e4) h4'⟩) fun he H2 he0 e2 h2' => ?_
    have e12 := e1.trans e2
    refine q_forS (zt := z) (ev_var rfl) (fun i σ' H' => ∃ (he : Addr) (y : Option V), σ' = [some (.ref a), some (.str z), some (.ref he), y] ∧ Ex H H' ∧ H' he = some (.tup ((state (cellsM ps) (z.cps.toList.take i)).map vN))) (fun H3 e3 => ⟨he, none, rfl, e12.trans e3, e3 _ _ h2'⟩) ?_ ?_
    · rintro i x σ' H3 hx ⟨he, y, rfl, e3, h3'⟩
      have hx' : z.cps.toList[i]? = some x := by
        rw [← hx]
        simp
      have hst : state (cellsM ps) (z.cps.toList.take (i + 1)) = movedM (cellsM ps) (state (cellsM ps) (z.cps.toList.take i)) x := by
        rw [List.take_add_one, hx', ← state_snoc]
        rfl
      have hsl := state_len (cellsM ps) (z.cps.toList.take i)
      refine q_asgU (xs := (state (cellsM ps) (z.cps.toList.take (i + 1))).map vN) (eu_call (ea_cons (cellsE e3 rfl) (ea_cons (ev_var rfl) (ea_cons (ev_var rfl) ea_nil))) fun H5 e5 Q' q' E' => ⟨c, he, cellsM ps, state (cellsM ps) (z.cps.toList.take i), x, rfl, sq_of (e5 _ _ (e3 _ _ h3)), st_of (e5 _ _ h3'), by omega, by omega, fun k hk => ((state_mem hC _ k).mp hk).1, by
        rw [hst] at q'
        exact q'⟩) fun he' H4 he0' e4 h4' => ?_
      have ht4 := h4'
      generalize hS : state (cellsM ps) (z.cps.toList.take (i + 1)) = S at ht4
      refine s_when (b := decide (((S.map vN).length : Int) = 0)) (et_test (ev_op (fun H5 e5 Q' q' => ⟨_, rfl, he', S.map vN, rfl, .inr (st_of (e5 _ _ ht4)), q' H5 (Ex.refl _)⟩) ev_c rv_eqI)) (fun hc H5 e5 => ?_) (fun hc H5 e5 => ⟨he', _, rfl, (e3.trans e4).trans e5, e5 _ _ ht4⟩)
      have hS0 : S = [] := by
        have := of_decide_eq_true hc
        rw [List.length_map] at this
        exact List.length_eq_zero_iff.mp (by omega)
      rw [hS0] at hS
      have hfin : state (cellsM ps) z.cps.toList = [] := by
        have := state_nil (cellsM ps) (z.cps.toList.take (i + 1)) (z.cps.toList.drop (i + 1)) hS
        rw [List.take_append_drop] at this
        exact this
      rw [hfin] at q
      exact s_ret ev_c fun H6 e6 => q H6 (((e3.trans e4).trans e5).trans e6)
    · rintro σ' H3 ⟨he, y, rfl, e3, h3'⟩
      have e0 : z.cps.size = z.cps.toList.length := by simp
      rw [e0, List.take_length] at h3'
      exact s_ret (ev_call (ea_cons (cellsE e3 rfl) (ea_cons (ev_var rfl) ea_nil)) fun H4 e4 Q' q' E' => ⟨c, he, cellsM ps, _, rfl, sq_of (e4 _ _ (e3 _ _ h3)), st_of (e4 _ _ h3'), q'⟩) fun H4 e4 => q H4 (e3.trans e4)

/-! ### a line fits a form just where its cells take it -/
theorem at_left {xs ys : List Str} {k : Nat} (h : k < xs.length) : cellAt' (xs ++ ys) k = cellAt' xs k := by
  unfold cellAt'
  rw [List.getD_eq_getElem?_getD, List.getD_eq_getElem?_getD, List.getElem?_append_left h]
theorem at_right {xs ys : List Str} {k : Nat} : cellAt' (xs ++ ys) (xs.length + k) = cellAt' ys k := by
  unfold cellAt'
  rw [List.getD_eq_getElem?_getD, List.getD_eq_getElem?_getD, List.getElem?_append_right (Nat.le_add_right _ _), Nat.add_sub_cancel_left]
theorem mk_left {xs ys : List Str} : ∀ (k : Nat), k ≤ xs.length → ∀ t, Mk (xs ++ ys) k t ↔ Mk xs k t
  | 0, _, t => Iff.rfl
  | k + 1, h, t => by
    have ih := mk_left (xs := xs) (ys := ys) k (by omega)
    constructor
    · rintro ⟨u, v, e, hu, hv⟩
      exact ⟨u, v, e, (ih u).mp hu, by rw [at_left (by omega)] at hv; exact hv⟩
    · rintro ⟨u, v, e, hu, hv⟩
      exact ⟨u, v, e, (ih u).mpr hu, by rw [at_left (by omega)]; exact hv⟩
theorem mk_app {xs ys : List Str} : ∀ (j : Nat) (t : List Nat), Mk (xs ++ ys) (xs.length + j) t ↔ ∃ u v, t = u ++ v ∧ Mk xs xs.length u ∧ Mk ys j v
  | 0, t => by
    rw [Nat.add_zero, mk_left _ (Nat.le_refl _)]
    constructor
    · intro h
      exact ⟨t, [], (List.append_nil t).symm, h, rfl⟩
    · rintro ⟨u, v, rfl, hu, hv⟩
      have : v = [] := hv
      rw [this, List.append_nil]
      exact hu
  | j + 1, t => by
    have ih := mk_app (xs := xs) (ys := ys) j
    constructor
    · rintro ⟨u, v, rfl, hu, hv⟩
      obtain ⟨a, b, rfl, ha, hb⟩ := (ih u).mp hu
      have hv' : piece (cellAt' ys j) v := (at_right (xs := xs) (ys := ys) (k := j)) ▸ hv
      exact ⟨a, b ++ v, List.append_assoc _ _ _, ha, b, v, rfl, hb, hv'⟩
    · rintro ⟨a, w', rfl, ha, b, v, rfl, hb, hv⟩
      exact ⟨a ++ b, v, (List.append_assoc _ _ _).symm, (ih _).mpr ⟨a, b, rfl, ha, hb⟩, (at_right (xs := xs) (ys := ys) (k := j)).symm ▸ hv⟩
theorem mk_one {p : Str} {t : List Nat} : Mk [p] 1 t ↔ piece p t := by
  constructor
  · rintro ⟨u, v, rfl, hu, hv⟩
    have : u = [] := hu
    rw [this]
    exact hv
  · intro h
    exact ⟨[], t, rfl, rfl, h⟩
theorem mk_signs : ∀ (l t : List Nat), Mk (l.map fun c => (⟨#[c]⟩ : Str)) l.length t ↔ t = l
  | [], t => Iff.rfl
  | c :: l, t => by
    have e : ((c :: l).map fun c => (⟨#[c]⟩ : Str)) = [(⟨#[c]⟩ : Str)] ++ l.map fun c => (⟨#[c]⟩ : Str) := rfl
    rw [e, List.length_cons, Nat.add_comm]
    have h := mk_app (xs := [(⟨#[c]⟩ : Str)]) (ys := l.map fun c => (⟨#[c]⟩ : Str)) l.length t
    rw [show [(⟨#[c]⟩ : Str)].length = 1 from rfl] at h
    rw [h]
    constructor
    · rintro ⟨u, v, rfl, hu, hv⟩
      rw [piece_sign.mp (mk_one.mp hu), (mk_signs l v).mp hv]
      rfl
    · rintro rfl
      exact ⟨[c], l, rfl, mk_one.mpr (piece_sign.mpr rfl), (mk_signs l l).mpr rfl⟩
theorem mk_cell {p : Str} {t : List Nat} : Mk (cellOf1 p) (cellOf1 p).length t ↔ piece p t := by
  unfold cellOf1
  by_cases h : isOpen p = true
  · rw [if_pos h]
    exact mk_one
  · rw [if_neg h]
    have h2 := mk_signs p.cps.toList t
    have e : (signsOf p).length = p.cps.toList.length := by
      unfold signsOf
      rw [List.length_map]
    rw [e]
    refine h2.trans ?_
    unfold piece
    rw [if_neg (fun e => h (isOpen_iff.mpr (.inr (.inr e)))), if_neg (fun e => h (isOpen_iff.mpr (e.elim .inl fun e => .inr (.inl e))))]
theorem mk_cells : ∀ (ps : List Str) (t : List Nat), Mk (cellsM ps) (cellsM ps).length t ↔ Mk ps ps.length t
  | [], t => Iff.rfl
  | p :: ps, t => by
    have e : cellsM (p :: ps) = cellOf1 p ++ cellsM ps := rfl
    have e2 : p :: ps = [p] ++ ps := rfl
    have ih := mk_cells ps
    rw [e, List.length_append, mk_app]
    have h := mk_app (xs := [p]) (ys := ps) ps.length t
    rw [show [p].length = 1 from rfl] at h
    rw [List.length_cons, Nat.add_comm ps.length 1]
    show _ ↔ Mk ([p] ++ ps) (1 + ps.length) t
    rw [h]
    constructor
    · rintro ⟨u, v, rfl, hu, hv⟩
      exact ⟨u, v, rfl, mk_one.mpr (mk_cell.mp hu), (ih v).mp hv⟩
    · rintro ⟨u, v, rfl, hu, hv⟩
      exact ⟨u, v, rfl, mk_cell.mpr (mk_one.mp hu), (ih v).mpr hv⟩
theorem lny_isLn {z : Str} (h : Lny z) : isLn z = !decide (z = ("" : Str)) := by
  unfold isLn
  have h1 : (z.cps.toList.all fun c => decide (c ∈ signsS.cps.toList)) = true := List.all_eq_true.mpr fun c hc => decide_eq_true (h c hc)
  rw [h1, Bool.and_true]
  have hl := str_len z
  by_cases e : z.cps.toList = []
  · rw [decide_eq_true (str_nil.mpr e), decide_eq_false]
    · rfl
    · rw [hl, e]
      simp
  · rw [decide_eq_false (fun w' => e (str_nil.mp w')), decide_eq_true]
    · rfl
    · have := List.length_pos_iff.mpr e
      omega
theorem inForm_fits {ps : List Str} (hP : Parts ps) {z : Str} (hz : Lny z) : inForm ps z = fitsM ps z := by
  have hC := (signs_cells hP).1
  have key : inForm ps z = true ↔ fitsM ps z = true := by
    unfold inForm
    rw [Bool.and_eq_true, decide_eq_true_eq, state_mem hC, fits_iff, lny_isLn hz]
    constructor
    · rintro ⟨h1, _, h2⟩
      refine ⟨fun w' => ?_, ?_⟩
      · rw [decide_eq_true (str_nil.mpr w')] at h1
        cases h1
      · rcases h2 with h2 | ⟨h3, _⟩
        · exact (mk_cells ps _).mp h2
        · omega
    · rintro ⟨h1, h2⟩
      refine ⟨?_, Nat.le_refl _, .inl ((mk_cells ps _).mpr h2)⟩
      rw [decide_eq_false fun w' => h1 (str_nil.mp w')]
      rfl
  cases h : fitsM ps z with
  | true => exact key.mpr h
  | false =>
    cases h2 : inForm ps z with
    | false => rfl
    | true =>
      rw [key.mp h2] at h
      cases h
/-! a Form made of parts -/
def EvF (te : TE) (σ : L2.St) (H : Hp) (C : Addr) (ps : List Str) : Prop := ∀ H1, Ex H H1 → ∀ Q : VK, (∀ a H2, H1 a = none → Ex H1 H2 → FormAt C H2 a ps → Q (.ref a) H2) → te σ H1 Q
theorem evf_make {σ : L2.St} {H : Hp} {C : Addr} {ps : List Str} {ta : TA} {E : XK} (hP : Parts ps) (h1 : 1 ≤ ps.length) (h4 : ps.length ≤ 4) (h : EvA ta σ H (ps.map V.str)) : EvF (tMakeR C (spForm C) E ta) σ H C ps := fun H1 e Q q =>
  h H1 e _ fun H2 e2 => fun x dx hx hdx ne => by
    have hx2 : upd (upd H2 dx (.own x)) x (.ins C dx []) x = some (.ins C dx []) := upd_same
    refine ⟨[.ref x], ps.map V.str, rfl, rfl, sz_of (by rw [List.length_map]; omega), fun p hp => ?_⟩
    have npx : x ≠ p := fun z => by
      rw [← z, hx2] at hp
      cases hp
    refine ⟨x, p, dx, ps, rfl, by rw [upd_ne npx]; exact hx2, upd_same, hP, h1, h4, fun H' e' hF => ⟨rfl, q x H' (fresh_back e2 hx) (fun b o hb => ?_) hF⟩⟩
    have hb2 := e2 _ _ hb
    have nbx : b ≠ x := ne_of_none hb2 hx
    have nbd : b ≠ dx := ne_of_none hb2 hdx
    have hb3 : upd (upd H2 dx (.own x)) x (.ins C dx []) b = some o := by
      rw [upd_ne nbx, upd_ne nbd]
      exact hb2
    have nbp : b ≠ p := ne_of_none hb3 hp
    refine e' b o ?_
    rw [hide_ne nbx, upd_ne nbp]
    exact hb3
def spLawForm (K : PySem.W.Frag) (C : Addr) : Sp := fun vs H Q _ => ∃ (l : Addr) (ps : List Str), vs = [.ref l] ∧ SqL K H l (ps.map V.str) ∧ Parts ps ∧ 1 ≤ ps.length ∧ ps.length ≤ 4 ∧ ∀ a H2, H a = none → Ex H H2 → FormAt C H2 a ps → Q (.ref a) H2
theorem s_retF {te : TE} {σ : L2.St} {H : Hp} {C : Addr} {ps : List Str} {D : Ends} (h : EvF te σ H C ps) (k : ∀ a H1, H a = none → Ex H H1 → FormAt C H1 a ps → D.rt (.ref a) H1) : tRet te D σ H := h H (Ex.refl H) _ k
/-! ### begin, step, truths: states of lists of forms -/
def TupN (ns : List Nat) (p : Addr) (H : Hp) : Prop := H p = some (.tup (ns.map vN))
theorem upN : Up TupN := fun _ _ _ _ e h => e _ _ h
theorem offN : Off TupN := fun x p H D acc r _ _ ne => by
  show hide D H p = _
  rw [hide_ne ne]
  exact r
def FormR (C : Addr) (ps : List Str) (p : Addr) (H : Hp) : Prop := FormAt C H p ps ∧ Parts ps ∧ 1 ≤ ps.length ∧ ps.length ≤ 4
theorem upF {C : Addr} : Up (FormR C) := fun _ _ _ _ e h => ⟨h.1.ex e, h.2⟩
theorem cells_ne {ps : List Str} (hP : Parts ps) (h : 1 ≤ ps.length) : ∃ c cs, cellsM ps = c :: cs := by
  cases ps with
  | nil => simp at h
  | cons p ps =>
    have e : cellsM (p :: ps) = cellOf1 p ++ cellsM ps := rfl
    rw [e]
    rcases hP.each p List.mem_cons_self with o | f
    · rw [show cellOf1 p = [p] from if_pos o]
      exact ⟨_, _, rfl⟩
    · by_cases o : isOpen p = true
      · rw [show cellOf1 p = [p] from if_pos o]
        exact ⟨_, _, rfl⟩
      · rw [show cellOf1 p = signsOf p from if_neg o]
        have l := f.2.1
        rw [str_len] at l
        unfold signsOf
        cases hz : p.cps.toList with
        | nil =>
          rw [hz] at l
          simp at l
        | cons x xs => exact ⟨_, _, rfl⟩
theorem offF {C : Addr} : Off (FormR C) := fun ps p H D acc r hD refs ne => by
  obtain ⟨⟨dx, t, c, f1, f2, f3⟩, hP, h1, h4⟩ := r
  have nt : t ≠ D := fun z => by
    rw [z, hD] at f2
    cases f2
  have nc : c ≠ D := fun z => by
    rw [z, hD] at f3
    obtain ⟨x, xs, e⟩ := cells_ne hP h1
    rw [e] at f3
    have f4 : acc = V.str x :: xs.map V.str := HO.lst.inj (Option.some.inj f3)
    obtain ⟨r, hr⟩ := refs (V.str x) (by rw [f4]; exact List.mem_cons_self)
    cases hr
  exact ⟨⟨dx, t, c, by rw [hide_ne ne]; exact f1, by rw [hide_ne nt]; exact f2, by rw [hide_ne nc]; exact f3⟩, hP, h1, h4⟩

/-- the positions of a form behind these signs -/
def stM (t : List Nat) (ps : List Str) : List Nat := state (cellsM ps) t
def RetT (nss : List (List Nat)) (H : Hp) (Q : VK) : Prop := ∀ t ts H2, H t = none → Ex H H2 → H2 t = some (.tup ts) → Rs TupN H2 ts nss → Q (.ref t) H2
section
variable {σ : L2.St} {G : Hp} {C fm : Addr} {ps cells : List Str} {i : Nat} {te tp : TE}
theorem etp_parts (hi : σ[i]? = some (some (.ref fm))) (hF : FormAt C G fm ps) : EvTp (tMeth C "parts" (spParts C) [] E0 (tVar i) tNil) σ G (ps.map V.str) := fun H1 e Q q => by
  have hF1 := hF.ex e
  obtain ⟨dx, t, c, f1, f2, f3⟩ := id hF1
  exact ⟨_, hi, fm, dx, _, rfl, f1, formF_no t c (by decide +kernel) (by decide +kernel), fm, ps, rfl, hF1, fun t' H2 e2 h2 => q t' H2 e2 (e2 _ _ h2)⟩
theorem el_cells (h : EvTp te σ G (ps.map V.str)) (hP : Parts ps) (h4 : ps.length ≤ 4) : EvL (tCall (spCellsT K) [] E0 (tCons te tNil)) σ G ((cellsM ps).map V.str) := fun H1 e Q q =>
  h H1 e _ fun p H2 e2 h2 => ⟨p, ps, rfl, st_of h2, by omega, fun x hx => by have := hP.len x hx; omega, fun l H3 hl e3 h3 => q l H3 (fresh_back e2 hl) (e2.trans e3) h3⟩
theorem cells_400 (hP : Parts ps) (h4 : ps.length ≤ 4) : (cellsM ps).length ≤ 400 := by
  have := cellsM_len (ps := ps) fun p hp => by have := hP.len p hp; omega
  omega
theorem en_started (h : EvL te σ G ((cellsM ps).map V.str)) (hl : (cellsM ps).length ≤ 400) : EvN (tCall (spStarted K) [] E0 (tCons te tNil)) σ G (TupN (stM [] ps)) := fun H1 e Q q =>
  h H1 e _ fun l H2 hl0 e2 h2 => ⟨l, cellsM ps, rfl, sq_of h2, by omega, fun p H3 hp e3 h3 => q p H3 (fresh_back e2 hp) (e2.trans e3) h3⟩
theorem stM_snoc (t : List Nat) (c : Nat) (ps : List Str) : movedM (cellsM ps) (stM t ps) c = stM (t ++ [c]) ps := (state_snoc _ _ _).symm
theorem en_moved {q0 : Addr} {t : List Nat} {c j k : Nat} (h : EvL te σ G ((cellsM ps).map V.str)) (hP : Parts ps) (hl : (cellsM ps).length ≤ 400) (hj : σ[j]? = some (some (.ref q0))) (hq : G q0 = some (.tup ((stM t ps).map vN))) (hk : σ[k]? = some (some (.str ⟨#[c]⟩))) :
    EvN (tCall (spMoved K) [] E0 (tCons te (tCons (tVar j) (tCons (tVar k) tNil)))) σ G (TupN (stM (t ++ [c]) ps)) := fun H1 e Q q =>
  h H1 e _ fun l H2 hl0 e2 h2 => ⟨_, hj, _, hk, l, q0, cellsM ps, stM t ps, c, rfl, sq_of h2, st_of (e2 _ _ (e _ _ hq)), by omega, by
    have := state_len (cellsM ps) t
    show (state (cellsM ps) t).length ≤ 10000
    omega, fun m hm => ((state_mem (signs_cells hP).1 _ m).mp hm).1, fun p H3 hp e3 h3 => q p H3 (fresh_back e2 hp) (e2.trans e3) (by
    rw [stM_snoc] at h3
    exact h3)⟩
theorem ev_done {q0 : Addr} {t : List Nat} {j : Nat} (h : EvL te σ G ((cellsM ps).map V.str)) (hj : σ[j]? = some (some (.ref q0))) (hq : G q0 = some (.tup ((stM t ps).map vN))) :
    Ev (tCall (spIsDone K) [] E0 (tCons te (tCons (tVar j) tNil))) σ G (.bl (decide ((cellsM ps).length ∈ stM t ps))) := fun H1 e Q q =>
  h H1 e _ fun l H2 hl0 e2 h2 => ⟨_, hj, l, q0, cellsM ps, stM t ps, rfl, sq_of h2, st_of (e2 _ _ (e _ _ hq)), fun H3 e3 => q H3 (e2.trans e3)⟩
end
def spBegin (K : PySem.W.Frag) (C : Addr) : Sp := fun vs H Q _ => ∃ (a : Addr) (us : List V) (pss : List (List Str)), vs = [.ref a] ∧ SqL K H a us ∧ Rs (FormR C) H us pss ∧ us.length ≤ 100 ∧ RetT (pss.map (stM [])) H Q
def spStep (K : PySem.W.Frag) (C : Addr) : Sp := fun vs H Q _ => ∃ (a b : Addr) (us ws : List V) (pss : List (List Str)) (t : List Nat) (c : Nat), vs = [.ref a, .ref b, .str ⟨#[c]⟩] ∧ SqL K H a us ∧ Rs (FormR C) H us pss ∧ us.length ≤ 100 ∧ SqT K H b ws ∧ Rs TupN H ws (pss.map (stM t)) ∧ RetT (pss.map (stM (t ++ [c]))) H Q
/-- whether a form's cells are all taken -/
def doneM (t : List Nat) (ps : List Str) : Bool := decide ((cellsM ps).length ∈ stM t ps)

/-! ### signs_for and _law_known -/
def sg (c : Nat) : Str := ⟨#[c]⟩
theorem sg_inj {a b : Nat} (h : sg a = sg b) : a = b := by
  have h2 : (#[a] : Array Nat) = #[b] := congrArg Str.cps h
  simpa using h2
def othS : Str := " #-.:>"
/-- the codes of the fixed parts of one form, of all -/
def fxC1 (ps : List Str) : List Nat := (ps.filter fun p => !isOpen p).flatMap fun p => p.cps.toList
def fxC (pss : List (List Str)) : List Nat := pss.flatMap fxC1
def one1 (l : List Nat) : List Nat := l.take 1
def outC (U : List Nat) (z : Str) : List Nat := (z.cps.toList.filter fun c => !decide (c ∈ U)).take 1
theorem fx_cells {ps : List Str} (hP : ∀ p ∈ ps, isOpen p = true ∨ fixedP p) : ((cellsM ps).filter fun c => decide ((c.length : Int) = 1)) = (fxC1 ps).map sg := by
  induction ps with
  | nil => rfl
  | cons p ps ih =>
    have e : cellsM (p :: ps) = cellOf1 p ++ cellsM ps := rfl
    rw [e, List.filter_append, ih fun q hq => hP q (List.mem_cons_of_mem _ hq)]
    by_cases o : isOpen p = true
    · have h1 : fxC1 (p :: ps) = fxC1 ps := by
        unfold fxC1
        rw [List.filter_cons_of_neg (by simp [o])]
      rw [h1, show cellOf1 p = [p] from if_pos o, List.filter_cons_of_neg, List.filter_nil, List.nil_append]
      rcases isOpen_iff.mp o with rfl | rfl | rfl <;> decide +kernel
    · have h1 : fxC1 (p :: ps) = p.cps.toList ++ fxC1 ps := by
        unfold fxC1
        rw [List.filter_cons_of_pos (by simp [o]), List.flatMap_cons]
      rw [h1, show cellOf1 p = signsOf p from if_neg o, List.map_append]
      congr 1
      rw [List.filter_eq_self.mpr]
      · rfl
      · intro c hc
        obtain ⟨x, _, rfl⟩ := List.mem_map.mp hc
        rfl
theorem fxC1_len {ps : List Str} (hP : ∀ p ∈ ps, isOpen p = true ∨ fixedP p) : (fxC1 ps).length ≤ 4 * ps.length := by
  induction ps with
  | nil => exact Nat.le_refl _
  | cons p ps ih =>
    have ih := ih fun q hq => hP q (List.mem_cons_of_mem _ hq)
    by_cases o : isOpen p = true
    · have h1 : fxC1 (p :: ps) = fxC1 ps := by
        unfold fxC1
        rw [List.filter_cons_of_neg (by simp [o])]
      rw [h1, List.length_cons]
      omega
    · have h1 : fxC1 (p :: ps) = p.cps.toList ++ fxC1 ps := by
        unfold fxC1
        rw [List.filter_cons_of_pos (by simp [o]), List.flatMap_cons]
      have h2 := ((hP p List.mem_cons_self).resolve_left o).2.2
      rw [str_len] at h2
      rw [h1, List.length_append, List.length_cons]
      omega
theorem fxC1_in {ps : List Str} (hP : ∀ p ∈ ps, isOpen p = true ∨ fixedP p) : ∀ c ∈ fxC1 ps, c ∈ signsS.cps.toList := fun c hc => by
  obtain ⟨p, hp, hcp⟩ := List.mem_flatMap.mp hc
  obtain ⟨h1, h2⟩ := List.mem_filter.mp hp
  have o : ¬ isOpen p = true := by
    intro z
    rw [z] at h2
    cases h2
  exact ((hP p h1).resolve_left o).1 c hcp
def GoodP (ps : List Str) : Prop := Parts ps ∧ 1 ≤ ps.length ∧ ps.length ≤ 4
theorem fxC_len {pss : List (List Str)} (h : ∀ ps ∈ pss, GoodP ps) : (fxC pss).length ≤ 16 * pss.length := by
  induction pss with
  | nil => exact Nat.le_refl _
  | cons ps pss ih =>
    have h1 := h ps List.mem_cons_self
    have h2 := fxC1_len h1.1.each
    have h3 := h1.2.2
    have ih := ih fun q hq => h q (List.mem_cons_of_mem _ hq)
    have e : fxC (ps :: pss) = fxC1 ps ++ fxC pss := rfl
    rw [e, List.length_append, List.length_cons]
    omega
theorem fxC_in {pss : List (List Str)} (h : ∀ ps ∈ pss, GoodP ps) : ∀ c ∈ fxC pss, c ∈ signsS.cps.toList := fun c hc => by
  obtain ⟨ps, hp, hcp⟩ := List.mem_flatMap.mp hc
  exact fxC1_in (h ps hp).1.each c hcp
def sigC (U : List Nat) : List Nat := U ++ outC U digS ++ outC U letS ++ outC U othS
def knC (U : List Nat) : List Nat := (signsS.cps.toList.filter fun c => decide (c ∈ U)) ++ outC U digS ++ outC U letS ++ outC U othS
theorem out_len (U : List Nat) (z : Str) : (outC U z).length ≤ 1 := by
  unfold outC
  rw [List.length_take]
  omega
theorem sigC_len (U : List Nat) : (sigC U).length ≤ U.length + 3 := by
  have h1 := out_len U digS
  have h2 := out_len U letS
  have h3 := out_len U othS
  unfold sigC
  simp only [List.length_append]
  omega
theorem out_mem {U : List Nat} {z : Str} {c : Nat} (h : c ∈ outC U z) : c ∈ z.cps.toList ∧ c ∉ U := by
  have h2 := List.mem_filter.mp (List.mem_of_mem_take h)
  exact ⟨h2.1, by simpa using h2.2⟩
theorem kn_mem {U : List Nat} (hU : ∀ c ∈ U, c ∈ signsS.cps.toList) (c : Nat) : c ∈ sigC U ↔ c ∈ knC U := by
  unfold sigC knC
  simp only [List.mem_append, List.mem_filter, decide_eq_true_eq]
  constructor
  · rintro (((h | h) | h) | h)
    · exact .inl (.inl (.inl ⟨hU c h, h⟩))
    · exact .inl (.inl (.inr h))
    · exact .inl (.inr h)
    · exact .inr h
  · rintro (((h | h) | h) | h)
    · exact .inl (.inl (.inl h.2))
    · exact .inl (.inl (.inr h))
    · exact .inl (.inr h)
    · exact .inr h
theorem out_nodup {U : List Nat} {z : Str} : (outC U z).Nodup := by
  have h := out_len U z
  cases hl : outC U z with
  | nil => exact .nil
  | cons x l =>
    rw [hl] at h
    simp at h
    subst h
    simp
theorem apart_dl : ∀ c ∈ digS.cps.toList, c ∉ letS.cps.toList ∧ c ∉ othS.cps.toList := by decide +kernel
theorem apart_lo : ∀ c ∈ letS.cps.toList, c ∉ othS.cps.toList := by decide +kernel
theorem signs_nodup : signsS.cps.toList.Nodup := by decide +kernel
theorem kn_nodup (U : List Nat) : (knC U).Nodup := by
  unfold knC
  refine List.nodup_append.mpr ⟨List.nodup_append.mpr ⟨List.nodup_append.mpr ⟨signs_nodup.filter _, out_nodup, ?_⟩, out_nodup, ?_⟩, out_nodup, ?_⟩
  · rintro a ha b hb rfl
    exact (out_mem hb).2 (by simpa using (List.mem_filter.mp ha).2)
  · rintro a ha b hb rfl
    rcases List.mem_append.mp ha with ha | ha
    · exact (out_mem hb).2 (by simpa using (List.mem_filter.mp ha).2)
    · exact (apart_dl a (out_mem ha).1).1 (out_mem hb).1
  · rintro a ha b hb rfl
    rcases List.mem_append.mp ha with ha | ha
    · rcases List.mem_append.mp ha with ha | ha
      · exact (out_mem hb).2 (by simpa using (List.mem_filter.mp ha).2)
      · exact (apart_dl a (out_mem ha).1).2 (out_mem hb).1
    · exact apart_lo a (out_mem ha).1 (out_mem hb).1
theorem only_dig : (signsS.cps.toList.filter fun c => decide (c ∈ digS.cps.toList)) = digS.cps.toList := by decide +kernel
theorem only_let : (signsS.cps.toList.filter fun c => decide (c ∈ letS.cps.toList)) = letS.cps.toList := by decide +kernel
theorem only_oth : (signsS.cps.toList.filter fun c => (!decide (c ∈ digS.cps.toList)) && !decide (c ∈ letS.cps.toList)) = othS.cps.toList := by decide +kernel
/-- the signs that no fixed text has -/
def restC (U : List Nat) : List Nat := signsS.cps.toList.filter fun c => !decide (c ∈ U)
theorem rest_of {U : List Nat} {z : Str} {G : Nat → Bool} (h : signsS.cps.toList.filter G = z.cps.toList) : ((restC U).filter G).take 1 = outC U z := by
  unfold restC outC
  rw [List.filter_filter, ← h, List.filter_filter]
  congr 2
  funext c
  exact Bool.and_comm _ _
def strC (l : List Nat) : List V := l.map fun c => V.str (sg c)
theorem strC_map (l : List Nat) : strC l = (l.map sg).map V.str := by
  rw [List.map_map]
  rfl
section
variable {σ : L2.St} {G : Hp} {te : TE}
/-- sorted(set(a new list of texts)), whatever list it is -/
theorem srt_set {w : World} {ks : List Str} (h : EvL te σ G (ks.map V.str)) (hl : ks.length < 64) {H1 : Hp} (e : Ex G H1) {Q : VK} (q : ∀ ys p H2, sortedS ys = true → ys.Nodup → (∀ k, k ∈ ys ↔ k ∈ ks) → H1 p = none → Ex H1 H2 → H2 p = some (.lst (ys.map V.str)) → Q (.ref p) H2) :
    tCB (rSortTx w) (tCons (tCB (rSetTx K w) (tCons te tNil)) tNil) σ H1 Q :=
  h H1 e _ fun l H2 hl2 e2 h2 => ⟨l, ks, rfl, sq_of h2, hl, fun a ha => ⟨a, ks, rfl, upd_same, hl, fun zs p z1 z2 z3 hp => by
    have e3 : Ex H2 (upd H2 a (SetX w a ks)) := Ex.new ha
    exact q zs p _ z1 z2 z3 (fresh_back (e2.trans e3) hp) ((e2.trans e3).trans (Ex.new hp)) upd_same⟩⟩
/-- xs[:1] of a list that stands -/
theorem el_take1 {i : Nat} {l : Addr} {xs : List V} (hi : σ[i]? = some (some (.ref l))) (h : G l = some (.lst xs)) : EvL (tSl (rSlL K) (tVar i) tNoPart (tPart (tC (.int 1)))) σ G (xs.take 1) := by
  have e := el_sl (K := K) (σ := σ) (H := G) (lo := none) (hi := some 1) (ev_var hi) eo_none (eo_some ev_c) (sq_of h)
  have c : cutV xs none (some 1) = xs.take 1 := cutV_lt (b := 1)
  rw [c] at e
  exact e
end
def spSigns (K : PySem.W.Frag) (C : Addr) : Sp := fun vs H Q _ => ∃ (a : Addr) (us : List V) (pss : List (List Str)), vs = [.ref a] ∧ SqL K H a us ∧ Rs (FormR C) H us pss ∧ (fxC pss).length ≤ 48 ∧ us.length ≤ 100 ∧ (∀ ps ∈ pss, GoodP ps) ∧
  ∀ ys l H2, sortedS ys = true → ys.Nodup → (∀ k, k ∈ ys ↔ k ∈ (sigC (fxC pss)).map sg) → H l = none → Ex H H2 → H2 l = some (.lst (ys.map V.str)) → Q (.ref l) H2
theorem ok_signs_for {f : Addr} {fd : FuncData} (F : Fun K "signs_for" "signs_for" s_signs_for f fd) (T : Txt K mg a_OPEN_PARTS C_Both C_Either C_Form) (D_cells_of__t : Df P w K mg base "cells_of" ["parts"] 1 (spCellsT K))
    (D_Form_parts : DfM P w K mg base C_Form "parts" ["self"] 1 (spParts C_Form)) : FnOk P w K mg base CX0 2 f fd ["forms"] (spSigns K C_Form) := by
  refine F.ok sc_signs_for (fun vs H Q E h => ?_) (fun cdv A outer s0 H vs Q E hr h => ?_)
  · obtain ⟨a, us, pss, rfl, _⟩ := h
    rfl
  · obtain ⟨a, us, pss, rfl, hA, hr0, hn48, hn, hG, q⟩ := h
    refine ⟨_, (pss_cons (ps_set (i := 1) sc_signs_for.nd rfl (Or.inr rfl) (pe_lc2 (own := [("form", 6), ("cell", 7)]) (g := gName 6) (g1 := gName 7) (vs1 := [7]) rfl sc_signs_for.nd (pi_list (pv 0)) (blkOk_by (own := [("form", 6), ("cell", 7)]) (N := ["forms", "fixed", "rest", "digits", "letters", "others", "form", "cell", "sign"]) (sc := defScope s_signs_for) (by decide +kernel)) (by decide) (fun _ _ _ _ _ => pg_name (i := 6) sc_signs_for.nd rfl (Or.inl rfl)) (fun _ _ _ _ _ => pts_nil) (fun _ _ _ _ _ => (pi_listK K rfl (pe_df (k := 1) D_cells_of__t (hr.mono (j := 1) (by decide)) (by rfl) (pa_cons (pe_mth0 (k := 1) T.k_Form D_Form_parts (hr.mono (j := 1) (by decide)) (pv 6)) pa_nil)))) (fun _ _ _ _ _ => pg_name (i := 7) sc_signs_for.nd rfl (Or.inl rfl)) (fun _ _ _ _ _ => pts_one (pt_cmpR op_eq (pe_callB call_len_str (by rfl) T.n_len PySem.boot_len (pa_cons (pv 7) pa_nil)) pe_int (nomark _))) (fun _ _ _ _ _ => (pv 7))))
      (pss_cons (ps_setLc (i := 2) (own := [("sign", 8)]) (g := gName 8) rfl sc_signs_for.nd rfl rfl (sw_true rfl rfl rfl (by decide +kernel)) (pi_str (pe_cst T.c_SIGNS (by rfl))) (blkOk_by (own := [("sign", 8)]) (N := ["forms", "fixed", "rest", "digits", "letters", "others", "form", "cell", "sign"]) (sc := defScope s_signs_for) (by decide +kernel)) (fun _ _ _ _ _ => pg_name (i := 8) sc_signs_for.nd rfl (Or.inl rfl)) (fun _ _ _ _ _ => pts_one (pt_cmpR (op_notIn_seqK K rfl) (pv 8) (pv 1) (by rfl))) (fun _ _ _ _ _ => (pv 8)))
      (pss_cons (ps_setLc (i := 3) (own := [("sign", 8)]) (g := gName 8) rfl sc_signs_for.nd rfl rfl (sw_true rfl rfl rfl (by decide +kernel)) (pi_list (pv 2)) (blkOk_by (own := [("sign", 8)]) (N := ["forms", "fixed", "rest", "digits", "letters", "others", "form", "cell", "sign"]) (sc := defScope s_signs_for) (by decide +kernel)) (fun _ _ _ _ _ => pg_name (i := 8) sc_signs_for.nd rfl (Or.inl rfl)) (fun _ _ _ _ _ => pts_one (pt_cmpR op_in_sign (pv 8) (pe_cst T.c_DIGIT_SIGNS (by rfl)) (by rfl))) (fun _ _ _ _ _ => (pv 8)))
      (pss_cons (ps_setLc (i := 4) (own := [("sign", 8)]) (g := gName 8) rfl sc_signs_for.nd rfl rfl (sw_true rfl rfl rfl (by decide +kernel)) (pi_list (pv 2)) (blkOk_by (own := [("sign", 8)]) (N := ["forms", "fixed", "rest", "digits", "letters", "others", "form", "cell", "sign"]) (sc := defScope s_signs_for) (by decide +kernel)) (fun _ _ _ _ _ => pg_name (i := 8) sc_signs_for.nd rfl (Or.inl rfl)) (fun _ _ _ _ _ => pts_one (pt_cmpR op_in_sign (pv 8) (pe_cst T.c_LETTER_SIGNS (by rfl)) (by rfl))) (fun _ _ _ _ _ => (pv 8)))
      (pss_cons (ps_setLc (i := 5) (own := [("sign", 8)]) (g := gName 8) rfl sc_signs_for.nd rfl rfl (sw_true rfl rfl rfl (by decide +kernel)) (pi_list (pv 2)) (blkOk_by (own := [("sign", 8)]) (N := ["forms", "fixed", "rest", "digits", "letters", "others", "form", "cell", "sign"]) (sc := defScope s_signs_for) (by decide +kernel)) (fun _ _ _ _ _ => pg_name (i := 8) sc_signs_for.nd rfl (Or.inl rfl)) (fun _ _ _ _ _ => pts_one (PW.pt (pw_and (pt_cmpR op_notIn_sign (pv 8) (pe_cst T.c_DIGIT_SIGNS (by rfl)) (by rfl)) (pw_and1 (pt_cmpR op_notIn_sign (pv 8) (pe_cst T.c_LETTER_SIGNS (by rfl)) (by rfl)))))) (fun _ _ _ _ _ => (pv 8)))
      (pss_one (ps_ret (pe_callB (cr_sortTx rfl) (by rfl) T.n_sorted (by decide +kernel) (pa_cons (pe_callTy (cr_setTx rfl) (by rfl) T.n_set (by decide +kernel) (pa_cons (pe_op op_cat (pe_op op_cat (pe_op op_cat (pv 1) (pe_slice sl_list (pv 3) po_none (po_some pe_int))) (pe_slice sl_list (pv 4) po_none (po_some pe_int))) (pe_slice sl_list (pv 5) po_none (po_some pe_int))) pa_nil)) pa_nil))))))))), ?_⟩
    have l0 := hr0.len
    have hU := fxC_len hG
    have hfx : (pss.map cellsM).flatMap (fun y => (y.filter fun c => decide ((c.length : Int) = 1)).map V.str) = strC (fxC pss) := by
      clear hr0 l0 hU q hn48
      induction pss with
      | nil => rfl
      | cons ps pss ih =>
        rw [List.map_cons, List.flatMap_cons, ih fun x hx => hG x (List.mem_cons_of_mem _ hx), fx_cells (hG ps List.mem_cons_self).1.each]
        show _ = (fxC1 ps ++ fxC pss).map _
        rw [List.map_append, List.map_map]
        rfl
    have c1 := elv_lc2 (K := K) (σ := [some (.ref a), none, none, none, none, none, none, none, none]) (H := H) (tl := tVar 0) (te := tVar 7) (te1 := tCall (spCellsT K) [] E0 (tCons (tMeth C_Form "parts" (spParts C_Form) [] E0 (tVar 6) tNil) tNil))
      (t1 := tTest (tOp rEq (tCB (fun xs H Q => ∃ z, xs = [.str z] ∧ z.length ≤ sizeLine ∧ Q (.int z.length) H) (tCons (tVar 7) tNil)) (tC (.int 1)))) (a := a) (us := us) (ys := pss.map cellsM) (r := V.str) (W := V.str) (F := fun c => decide ((c.length : Int) = 1)) (j := 6) (k := 7) (m := 0) (ws := [6, 7]) (ws1 := [7])
      (ev_var rfl) hA (by rw [List.length_map, l0]) (by rw [hfx]; unfold strC; rw [List.length_map]; omega) (fun _ => rfl) (fun _ _ => rfl) (fun i u y H1 e1 hu hy => by
        obtain ⟨p, ps, rfl, hps, hF⟩ := hr0.get hu
        rw [List.getElem?_map, hps] at hy
        cases hy
        exact el_cells (etp_parts rfl (hF.1.ex e1)) hF.2.1 hF.2.2.2)
      (fun u x H1 e1 ⟨y, hy, hx⟩ => et_test (ev_op (ev_lenS (ev_var rfl) (by
        obtain ⟨ps, hps, rfl⟩ := List.mem_map.mp hy
        have := ((signs_cells (hG ps hps).1).2 x hx).1
        omega)) ev_c rv_eqI)) (fun u x H1 e1 _ => ev_var rfl)
    rw [hfx] at c1
    have hlen : (fxC pss).length ≤ 48 := by omega
    generalize fxC pss = U at c1 q hlen
    have same : ∀ c : Nat, inV (.str (sg c)) (strC U) = decide (c ∈ U) := fun c => by
      rw [strC_map, inV_str]
      congr 1
      apply propext
      constructor
      · intro h
        obtain ⟨d, hd, e⟩ := List.mem_map.mp h
        rw [← sg_inj e]
        exact hd
      · intro h
        exact List.mem_map.mpr ⟨c, h, rfl⟩
    have flatC : (strC U).all flatV = true := by
      rw [strC_map]
      exact flat_str _
    refine q_asgL c1 fun l1 H1 hl1 e1 h1 => ?_
    -- rest
    have c2 : EvL (tLc (iStr (tC (.str signsS))) (gName 8) (tTest (tOp (rIn K true) (tVar 8) (tVar 1))) (tVar 8) [8]) [some (.ref a), some (.ref l1), none, none, none, none, none, none, none] H1 (strC (restC U)) :=
      el_lcT (fun c => !decide (c ∈ U)) (fun c => .str (sg c)) ev_c (by decide +kernel) (fun _ => rfl) (fun c H2 e2 _ => et_test (ev_is (ev_op (ev_var rfl) (ev_var rfl) (rv_niL (sq_of (e2 _ _ h1)) rfl flatC)) (congrArg (fun b => V.bl (!b)) (same c)))) (fun c H2 e2 _ _ => ev_var rfl)
    refine q_asgL c2 fun l2 H2 hl2 e2 h2 => ?_
    have rl : (restC U).length ≤ 40000 := by
      have := List.length_filter_le (fun c => !decide (c ∈ U)) signsS.cps.toList
      have e : signsS.cps.toList.length = 68 := by decide +kernel
      unfold restC
      omega
    have pick : ∀ (G : Nat → Bool) (t : TT) (σ : L2.St) (H' : Hp), H' l2 = some (.lst (strC (restC U))) → σ[2]? = some (some (.ref l2)) → (∀ c H3, Ex H' H3 → EvT t ((wipe σ [8]).set 8 (some (.str (sg c)))) H3 (G c)) → (∀ x, wipe ((wipe σ [8]).set 8 (some x)) [8] = wipe σ [8]) → (∀ x : V, ((wipe σ [8]).set 8 (some x))[8]? = some (some x)) →
        EvL (tLc (iList K (tVar 2)) (gName 8) t (tVar 8) [8]) σ H' (strC ((restC U).filter G)) := fun G t σ H' hh i2 ht hw hi =>
      el_lcM (r := fun c => V.str (sg c)) 0 G (fun c => .str (sg c)) (ev_var i2) (sq_of hh) rl hw (fun c H3 e3 _ => ht c H3 e3) (fun c H3 e3 _ _ => ev_var (hi _))
    refine q_asgL (pick (fun c => decide (c ∈ digS.cps.toList)) _ _ _ h2 rfl (fun c H3 e3 => et_test (ev_op (ev_var rfl) ev_c rv_sgn)) (fun _ => rfl) (fun _ => rfl)) fun l3 H3 hl3 e3 h3 => ?_
    refine q_asgL (pick (fun c => decide (c ∈ letS.cps.toList)) _ _ _ (e3 _ _ h2) rfl (fun c H3 e3 => et_test (ev_op (ev_var rfl) ev_c rv_sgn)) (fun _ => rfl) (fun _ => rfl)) fun l4 H4 hl4 e4 h4 => ?_
    refine q_asgL (pick (fun c => (!decide (c ∈ digS.cps.toList)) && !decide (c ∈ letS.cps.toList)) _ _ _ (e4 _ _ (e3 _ _ h2)) rfl (fun c H3 e3 => et_and (et_test (ev_op (ev_var rfl) ev_c rv_nsgn)) fun _ => et_test (ev_op (ev_var rfl) ev_c rv_nsgn)) (fun _ => rfl) (fun _ => rfl)) fun l5 H5 hl5 e5 h5 => ?_
    have t1 : ∀ (G : Nat → Bool) (z : Str), signsS.cps.toList.filter G = z.cps.toList → (strC ((restC U).filter G)).take 1 = strC (outC U z) := fun G z hz => by
      unfold strC
      rw [← List.map_take, rest_of hz]
    have x3 := el_take1 (K := K) (σ := [some (.ref a), some (.ref l1), some (.ref l2), some (.ref l3), some (.ref l4), some (.ref l5), none, none, none]) (i := 3) rfl (e5 _ _ (e4 _ _ h3))
    have x4 := el_take1 (K := K) (σ := [some (.ref a), some (.ref l1), some (.ref l2), some (.ref l3), some (.ref l4), some (.ref l5), none, none, none]) (i := 4) rfl (e5 _ _ h4)
    have x5 := el_take1 (K := K) (σ := [some (.ref a), some (.ref l1), some (.ref l2), some (.ref l3), some (.ref l4), some (.ref l5), none, none, none]) (i := 5) rfl h5
    rw [t1 _ _ only_dig] at x3
    rw [t1 _ _ only_let] at x4
    rw [t1 _ _ only_oth] at x5
    have o3 := out_len U digS
    have o4 := out_len U letS
    have o5 := out_len U othS
    have lC : ∀ l : List Nat, (strC l).length = l.length := fun l => by
      unfold strC
      rw [List.length_map]
    have h15 := e5 _ _ (e4 _ _ (e3 _ _ (e2 _ _ h1)))
    have big := el_catN (el_catN (el_cat (ev_var (i := 1) rfl) h15 x3 (by simp only [lC]; omega)) x4 (by simp only [List.length_append, lC]; omega)) x5 (by simp only [List.length_append, lC]; omega)
    have es : strC U ++ strC (outC U digS) ++ strC (outC U letS) ++ strC (outC U othS) = ((sigC U).map sg).map V.str := by
      rw [← strC_map]
      unfold sigC strC
      simp only [List.map_append]
    rw [es] at big
    have sl := sigC_len U
    exact srt_set big (by rw [List.length_map]; omega) (Ex.refl _) fun ys p H6 y1 y2 y3 hp e6 h6 => q ys p H6 y1 y2 y3 (fresh_back ((((e1.trans e2).trans e3).trans e4).trans e5) hp) (((((e1.trans e2).trans e3).trans e4).trans e5).trans e6) h6

/-! ### numbered: the states of a form, and where each sign leads from each -/
def subs : Nat → List (List Nat)
  | 0 => [[]]
  | n + 1 => subs n ++ (subs n).map (· ++ [n])
theorem subs_len : ∀ n, (subs n).length = 2 ^ n
  | 0 => rfl
  | n + 1 => by
    unfold subs
    rw [List.length_append, List.length_map, subs_len n, Nat.pow_succ]
    omega
theorem filter_subs (f : Nat → Bool) : ∀ n, (List.range n).filter f ∈ subs n
  | 0 => List.mem_cons_self
  | n + 1 => by
    unfold subs
    rw [List.range_succ, List.filter_append]
    have ih := filter_subs f n
    by_cases h : f n = true
    · rw [show [n].filter f = [n] by simp [h]]
      exact List.mem_append_right _ (List.mem_map.mpr ⟨_, ih, rfl⟩)
    · rw [show [n].filter f = [] by simp [h], List.append_nil]
      exact List.mem_append_left _ ih
theorem stM_subs (t : List Nat) (ps : List Str) : stM t ps ∈ subs ((cellsM ps).length + 1) := by
  obtain ⟨f, hf⟩ := state_filter (cellsM ps) t
  show state (cellsM ps) t ∈ _
  rw [hf]
  exact filter_subs f _
theorem cellOf1_few {p : Str} (h : isOpen p = true ∨ fixedP p) : (isOpen p = true → (cellOf1 p).length = 1) ∧ (cellOf1 p).length ≤ 4 := by
  by_cases o : isOpen p = true
  · rw [show cellOf1 p = [p] from if_pos o]
    exact ⟨fun _ => rfl, by simp⟩
  · rw [show cellOf1 p = signsOf p from if_neg o]
    refine ⟨fun z => absurd z o, ?_⟩
    rcases h with h | h
    · exact absurd h o
    · have l := h.2.2
      rw [str_len] at l
      unfold signsOf
      rw [List.length_map]
      exact l
theorem cells_10 {ps : List Str} (hP : Parts ps) (h4 : ps.length ≤ 4) : (cellsM ps).length ≤ 10 := by
  have L : ∀ p ∈ ps, (isOpen p = true → (cellOf1 p).length = 1) ∧ (cellOf1 p).length ≤ 4 := fun p hp => cellOf1_few (hP.each p hp)
  have adj := hP.adj
  match ps, h4 with
  | [], _ => simp [cellsM]
  | [a], _ =>
    have la := L a (by simp)
    have e : (cellsM [a]).length = (cellOf1 a).length := by simp [cellsM]
    omega
  | [a, b], _ =>
    have la := L a (by simp)
    have lb := L b (by simp)
    have e : (cellsM [a, b]).length = (cellOf1 a).length + (cellOf1 b).length := by simp [cellsM]
    omega
  | [a, b, c], _ =>
    have la := L a (by simp)
    have lb := L b (by simp)
    have lc := L c (by simp)
    have e : (cellsM [a, b, c]).length = (cellOf1 a).length + (cellOf1 b).length + (cellOf1 c).length := by
      simp [cellsM]
      omega
    have a1 := adj 0 a b rfl rfl
    rcases a1 with o | o
    · have := la.1 o
      omega
    · have := lb.1 o
      omega
  | [a, b, c, d], _ =>
    have la := L a (by simp)
    have lb := L b (by simp)
    have lc := L c (by simp)
    have ld := L d (by simp)
    have e : (cellsM [a, b, c, d]).length = (cellOf1 a).length + (cellOf1 b).length + (cellOf1 c).length + (cellOf1 d).length := by
      simp [cellsM]
      omega
    have a1 := adj 0 a b rfl rfl
    have a2 := adj 2 c d rfl rfl
    rcases a1 with o | o
    · have := la.1 o
      rcases a2 with o2 | o2
      · have := lc.1 o2
        omega
      · have := ld.1 o2
        omega
    · have := lb.1 o
      rcases a2 with o2 | o2
      · have := lc.1 o2
        omega
      · have := ld.1 o2
        omega
/-- sts: the states, each once; rws: where the signs cs lead -/
structure Tab (ps : List Str) (cs : List Nat) (sts rws : List (List Nat)) : Prop where
  head : sts[0]? = some (stM [] ps)
  nd : sts.Nodup
  all : ∀ s ∈ sts, ∃ t, s = stM t ps
  len : rws.length ≤ sts.length
  row : ∀ (i : Nat) (s r : List Nat), sts[i]? = some s → rws[i]? = some r → r.length = cs.length ∧ ∀ (k c : Nat), cs[k]? = some c → ∃ j : Nat, r[k]? = some j ∧ sts[j]? = some (movedM (cellsM ps) s c)
theorem Tab.small {ps : List Str} {cs : List Nat} {sts rws : List (List Nat)} (h : Tab ps cs sts rws) (hP : Parts ps) (h4 : ps.length ≤ 4) : sts.length ≤ 2048 := by
  have h1 := List.Nodup.length_le_of_subset h.nd (l₂ := subs ((cellsM ps).length + 1)) fun s hs => by
    obtain ⟨t, rfl⟩ := h.all s hs
    exact stM_subs t ps
  rw [subs_len] at h1
  have := cells_10 hP h4
  have h2 : 2 ^ ((cellsM ps).length + 1) ≤ 2 ^ 11 := Nat.pow_le_pow_right (by decide) (by omega)
  have : (2 : Nat) ^ 11 = 2048 := by decide
  omega
def addS (sts : List (List Nat)) (x : List Nat) : List (List Nat) := if x ∈ sts then sts else sts ++ [x]
theorem addS_le {sts : List (List Nat)} {x : List Nat} {i : Nat} {s : List Nat} (h : sts[i]? = some s) : (addS sts x)[i]? = some s := by
  unfold addS
  split
  · exact h
  · rw [List.getElem?_append_left (List.getElem?_eq_some_iff.mp h).1]
    exact h
theorem addS_mem {sts : List (List Nat)} {x : List Nat} : x ∈ addS sts x := by
  unfold addS
  split
  · assumption
  · simp
theorem addS_sub {sts : List (List Nat)} {x s : List Nat} (h : s ∈ addS sts x) : s ∈ sts ∨ s = x := by
  unfold addS at h
  split at h
  · exact .inl h
  · rw [List.mem_append, List.mem_singleton] at h
    exact h
theorem addS_nd {sts : List (List Nat)} {x : List Nat} (h : sts.Nodup) : (addS sts x).Nodup := by
  unfold addS
  split
  · exact h
  · rename_i hx
    rw [List.nodup_append]
    refine ⟨h, by simp, fun a ha b hb => ?_⟩
    rw [List.mem_singleton] at hb
    rintro rfl
    exact hx (hb ▸ ha)
theorem idx_at {l : List (List Nat)} {x : List Nat} (h : x ∈ l) : l[l.idxOf x]? = some x := by
  have hl : l.idxOf x < l.length := List.idxOf_lt_length_of_mem h
  rw [List.getElem?_eq_getElem hl, List.getElem_idxOf hl]
theorem Tab.add {ps : List Str} {cs : List Nat} {sts rws : List (List Nat)} {x : List Nat} (h : Tab ps cs sts rws) (hx : ∃ t, x = stM t ps) (hr : rws.length ≤ sts.length) : Tab ps cs (addS sts x) rws :=
  ⟨addS_le h.head, addS_nd h.nd, fun s hs => (addS_sub hs).elim (h.all s) fun e => by rw [e]; exact hx, by
    have : sts.length ≤ (addS sts x).length := by
      unfold addS
      split
      · exact Nat.le_refl _
      · rw [List.length_append]
        omega
    omega, fun i s r hs hr2 => by
    have hi : i < rws.length := (List.getElem?_eq_some_iff.mp hr2).1
    have hs2 : sts[i]? = some s := by
      have : sts[i]? = some (sts[i]'(by omega)) := List.getElem?_eq_getElem (by omega)
      rw [addS_le this] at hs
      rw [this]
      exact hs
    obtain ⟨l, q⟩ := h.row i s r hs2 hr2
    refine ⟨l, fun k c hc => ?_⟩
    obtain ⟨j, h1, h2⟩ := q k c hc
    exact ⟨j, h1, addS_le h2⟩⟩
/-- a row that is being made: of its first i signs -/
def RowP (ps : List Str) (cs : List Nat) (sts : List (List Nat)) (s : List Nat) (i : Nat) (r : List Nat) : Prop := r.length = i ∧ ∀ (k c : Nat), k < i → cs[k]? = some c → ∃ j : Nat, r[k]? = some j ∧ sts[j]? = some (movedM (cellsM ps) s c)
theorem RowP.snoc {ps : List Str} {cs : List Nat} {sts : List (List Nat)} {s : List Nat} {i : Nat} {r : List Nat} {c : Nat} (h : RowP ps cs sts s i r) (hc : cs[i]? = some c) :
    RowP ps cs (addS sts (movedM (cellsM ps) s c)) s (i + 1) (r ++ [(addS sts (movedM (cellsM ps) s c)).idxOf (movedM (cellsM ps) s c)]) := by
  obtain ⟨h1, h2⟩ := h
  refine ⟨by rw [List.length_append, h1]; rfl, fun k d hk hd => ?_⟩
  by_cases e : k < i
  · obtain ⟨j, q1, q2⟩ := h2 k d e hd
    exact ⟨j, by rw [List.getElem?_append_left (by omega)]; exact q1, addS_le q2⟩
  · have : k = i := by omega
    subst this
    rw [hc] at hd
    cases hd
    exact ⟨_, by rw [List.getElem?_append_right (by omega), h1, Nat.sub_self]; rfl, idx_at addS_mem⟩
theorem Tab.snoc {ps : List Str} {cs : List Nat} {sts rws : List (List Nat)} {s r : List Nat} (h : Tab ps cs sts rws) (hs : sts[rws.length]? = some s) (hr : RowP ps cs sts s cs.length r) : Tab ps cs sts (rws ++ [r]) :=
  ⟨h.head, h.nd, h.all, by
    have := (List.getElem?_eq_some_iff.mp hs).1
    rw [List.length_append]
    show rws.length + 1 ≤ _
    omega, fun i s2 r2 h1 h2 => by
    by_cases e : i < rws.length
    · rw [List.getElem?_append_left e] at h2
      exact h.row i s2 r2 h1 h2
    · have hl := (List.getElem?_eq_some_iff.mp h2).1
      rw [List.length_append] at hl
      have hl2 : i < rws.length + 1 := hl
      have : i = rws.length := by omega
      subst this
      rw [List.getElem?_append_right (Nat.le_refl _), Nat.sub_self] at h2
      have e2 : r = r2 := Option.some.inj h2
      rw [hs] at h1
      cases h1
      rw [← e2]
      exact ⟨hr.1, fun k c hc => hr.2 k c (List.getElem?_eq_some_iff.mp hc).1 hc⟩⟩
/-- the dict of the numbers of states -/
def tabK : Nat → List (List Nat) → List (List Key × V)
  | _, [] => []
  | i, s :: l => (kI s, vN i) :: tabK (i + 1) l
theorem tabK_len : ∀ (l : List (List Nat)) (i : Nat), (tabK i l).length = l.length
  | [], _ => rfl
  | s :: l, i => by
    unfold tabK
    rw [List.length_cons, List.length_cons, tabK_len l]
theorem tabK_snoc (x : List Nat) : ∀ (l : List (List Nat)) (i : Nat), tabK i (l ++ [x]) = tabK i l ++ [(kI x, vN (i + l.length))]
  | [], i => rfl
  | s :: l, i => by
    show (kI s, vN i) :: tabK (i + 1) (l ++ [x]) = _
    rw [tabK_snoc x l]
    show _ = (kI s, vN i) :: (tabK (i + 1) l ++ _)
    rw [show i + 1 + l.length = i + (s :: l).length by rw [List.length_cons]; omega]
theorem tabK_val (x : List Nat) : ∀ (l : List (List Nat)) (i : Nat), valV (tabK i l) (kI x) = if x ∈ l then some (vN (i + l.idxOf x)) else none
  | [], i => by simp [tabK, valV_nil]
  | s :: l, i => by
    unfold tabK
    by_cases e : s = x
    · subst e
      rw [valV_pos rfl]
      simp
    · rw [valV_neg (fun z => e (kI_inj z)), tabK_val x l]
      by_cases h : x ∈ l
      · have e2 : (s :: l).idxOf x = l.idxOf x + 1 := by
          rw [List.idxOf_cons, show (s == x) = false by simpa using e]
          rfl
        rw [if_pos h, if_pos (List.mem_cons_of_mem _ h), e2, show i + 1 + l.idxOf x = i + (l.idxOf x + 1) by omega]
      · rw [if_neg h, if_neg fun z => (List.mem_cons.mp z).elim (fun z => e z.symm) h]

def LisN (ns : List Nat) (p : Addr) (H : Hp) : Prop := H p = some (.lst (ns.map vN))
theorem upL : Up LisN := fun _ _ _ _ e h => e _ _ h
/-- the states, their numbers, the rows -/
structure NumI (G H : Hp) (aS aN aR : Addr) (us ws : List V) (sts rws : List (List Nat)) : Prop where
  ex : Ex G H
  fS : G aS = none
  fN : G aN = none
  fR : G aR = none
  ne : aS ≠ aR
  hS : H aS = some (.lst us)
  hN : H aN = some (.dT (tabK 0 sts))
  hR : H aR = some (.lst ws)
  rS : Rs TupN G us sts
  rR : Rs LisN G ws rws
theorem NumI.same {G H H' : Hp} {aS aN aR : Addr} {us ws : List V} {sts rws : List (List Nat)} (h : NumI G H aS aN aR us ws sts rws) (e : Ex H H') : NumI G H' aS aN aR us ws sts rws :=
  ⟨h.ex.trans e, h.fS, h.fN, h.fR, h.ne, e _ _ h.hS, e _ _ h.hN, e _ _ h.hR, h.rS, h.rR⟩
/-- something new stands for good -/
theorem Ex.keep {G H H' : Hp} {p : Addr} {o : HO} (e : Ex G H) (hp : H p = none) (e2 : Ex H H') (h : H' p = some o) : Ex (upd G p o) H' := fun a u ha => by
  by_cases z : a = p
  · rw [z, upd_same] at ha
    rw [z, h, ← ha]
  · rw [upd_ne z] at ha
    exact e2 _ _ (e _ _ ha)
theorem upd_none {G : Hp} {p a : Addr} {o : HO} (h : G a = none) (ne : a ≠ p) : upd G p o a = none := by
  rw [upd_ne ne]
  exact h
theorem NumI.more {G G' H : Hp} {aS aN aR : Addr} {us ws : List V} {sts rws : List (List Nat)} (h : NumI G H aS aN aR us ws sts rws) (e : Ex G G') (e2 : Ex G' H) (fS : G' aS = none) (fN : G' aN = none) (fR : G' aR = none) : NumI G' H aS aN aR us ws sts rws :=
  ⟨e2, fS, fN, fR, h.ne, h.hS, h.hN, h.hR, h.rS.ex upN e, h.rR.ex upL e⟩
theorem ne_at {H : Hp} {a b : Addr} {o : HO} (h : H a = some o) (hb : H b = none) : a ≠ b := fun z => by
  rw [z, hb] at h
  cases h
theorem NumI.mut {G H : Hp} {aS aN aR x : Addr} {o : HO} {us ws : List V} {sts rws : List (List Nat)} (h : NumI G H aS aN aR us ws sts rws) (hx : G x = none) (n1 : aS ≠ x) (n2 : aN ≠ x) (n3 : aR ≠ x) : NumI G (upd H x o) aS aN aR us ws sts rws :=
  ⟨Ex.mut h.ex hx, h.fS, h.fN, h.fR, h.ne, by rw [upd_ne n1]; exact h.hS, by rw [upd_ne n2]; exact h.hN, by rw [upd_ne n3]; exact h.hR, h.rS, h.rR⟩
theorem NumI.nSN {G H : Hp} {aS aN aR : Addr} {us ws : List V} {sts rws : List (List Nat)} (h : NumI G H aS aN aR us ws sts rws) : aS ≠ aN := fun z => by
  have := h.hS
  rw [z, h.hN] at this
  cases this
theorem NumI.nRN {G H : Hp} {aS aN aR : Addr} {us ws : List V} {sts rws : List (List Nat)} (h : NumI G H aS aN aR us ws sts rws) : aR ≠ aN := fun z => by
  have := h.hR
  rw [z, h.hN] at this
  cases this
theorem NumI.row {G H : Hp} {aS aN aR aw : Addr} {r : List Nat} {us ws : List V} {sts rws : List (List Nat)} (h : NumI G H aS aN aR us ws sts rws) (hw : G aw = some (.lst (r.map vN))) : NumI G (upd H aR (.lst (ws ++ [.ref aw]))) aS aN aR us (ws ++ [.ref aw]) sts (rws ++ [r]) :=
  ⟨Ex.mut h.ex h.fR, h.fS, h.fN, h.fR, h.ne, by rw [upd_ne h.ne]; exact h.hS, by rw [upd_ne (Ne.symm h.nRN)]; exact h.hN, upd_same, h.rS, h.rR.snoc hw⟩
theorem NumI.put {G H H1 : Hp} {aS aN aR p : Addr} {x : List Nat} {us ws : List V} {sts rws : List (List Nat)} (h : NumI G H aS aN aR us ws sts rws) (hp : G p = some (.tup (x.map vN))) (e : Ex (upd H aN (.dT (tabK 0 (sts ++ [x])))) H1) :
    NumI G (upd H1 aS (.lst (us ++ [.ref p]))) aS aN aR (us ++ [.ref p]) ws (sts ++ [x]) rws :=
  ⟨Ex.mut ((Ex.mut h.ex h.fN).trans e) h.fS, h.fS, h.fN, h.fR, h.ne, upd_same, by rw [upd_ne (Ne.symm h.nSN)]; exact e _ _ upd_same,
    by rw [upd_ne (Ne.symm h.ne)]; exact e _ _ (by rw [upd_ne h.nRN]; exact h.hR), h.rS.snoc hp, h.rR⟩
theorem kI_tup {H : Hp} {p : Addr} {x : List Nat} (h : H p = some (.tup (x.map vN))) : H p = some (.tup ((kI x).map kV)) := by
  rw [kI_V]
  exact h
theorem et_dni {σ : L2.St} {H : Hp} {i j n : Nat} {p a : Addr} {x : List Nat} {l : List (List Nat)} (hi : σ[i]? = some (some (.ref p))) (hj : σ[j]? = some (some (.ref a))) (ha : H a = some (.dT (tabK n l))) (hp : H p = some (.tup (x.map vN))) :
    EvT (tB (tDNotIn (tVar i) (tVar j))) σ H (decide (x ∉ l)) := by
  have e : decide (x ∉ l) = !(valV (tabK n l) (kI x)).isSome := by
    rw [tabK_val]
    by_cases h : x ∈ l
    · simp [h]
    · simp [h]
  rw [e]
  exact fun H1 e Q q => ⟨_, hi, _, hj, a, _, rfl, DGet.t (e _ _ ha) (kI_tup (e _ _ hp)), _, rfl, q H1 (Ex.refl _)⟩
theorem ev_dget {σ : L2.St} {H : Hp} {i j n : Nat} {p a : Addr} {x : List Nat} {l : List (List Nat)} (hi : σ[i]? = some (some (.ref p))) (hj : σ[j]? = some (some (.ref a))) (ha : H a = some (.dT (tabK n l))) (hp : H p = some (.tup (x.map vN))) (hx : x ∈ l) :
    Ev (tDGet (tVar j) (tVar i)) σ H (vN (n + l.idxOf x)) := fun H1 e Q q => ⟨_, hj, _, hi, a, _, rfl, by
  have := DGet.t (e _ _ ha) (kI_tup (e _ _ hp))
  rw [tabK_val, if_pos hx] at this
  exact this, q H1 (Ex.refl _)⟩
def TabR (ps : List Str) (cs : List Nat) (p : Addr) (H : Hp) : Prop := ∃ (aS aR : Addr) (us ws : List V) (sts rws : List (List Nat)), H p = some (.tup [.ref aS, .ref aR]) ∧ H aS = some (.lst us) ∧ H aR = some (.lst ws) ∧ Rs TupN H us sts ∧ Rs LisN H ws rws ∧ Tab ps cs sts rws ∧ rws.length = sts.length ∧ cs ≠ []
def spNumbered (K : PySem.W.Frag) (C : Addr) : Sp := fun vs H Q _ => ∃ (a l : Addr) (ps : List Str) (cs : List Nat), vs = [.ref a, .ref l] ∧ FormR C ps a H ∧ SqL K H l (strC cs) ∧ cs.length ≤ 1000 ∧ cs ≠ [] ∧
  ∀ p H2, H p = none → Ex H H2 → TabR ps cs p H2 → Q (.ref p) H2
theorem ok_numbered {f : Addr} {fd : FuncData} (F : Fun K "numbered" "numbered" s_numbered f fd) (T : Txt K mg a_OPEN_PARTS C_Both C_Either C_Form) (D_cells_of__t : Df P w K mg base "cells_of" ["parts"] 1 (spCellsT K)) (D_started : Df P w K mg base "started" ["cells"] 2 (spStarted K)) (D_moved : Df P w K mg base "moved" ["cells", "positions", "sign"] 2 (spMoved K))
    (D_Form_parts : DfM P w K mg base C_Form "parts" ["self"] 1 (spParts C_Form)) : FnOk P w K mg base CX0 3 f fd ["form", "signs"] (spNumbered K C_Form) := by
  refine F.ok sc_numbered (fun vs H Q E h => ?_) (fun cdv A outer s0 H vs Q E hr h => ?_)
  · obtain ⟨a, l, ps, cs, rfl, _⟩ := h
    rfl
  · obtain ⟨a, l, ps, cs, rfl, hF, hL, hcs, hne, q⟩ := h
    refine ⟨_, (pss_cons (ps_set (i := 2) sc_numbered.nd rfl (Or.inl rfl) (pe_df D_cells_of__t (hr.mono (by decide)) (by rfl) (pa_cons (pe_mth0 T.k_Form D_Form_parts (hr.mono (by decide)) (pv 0)) pa_nil)))
      (pss_cons (ps_set (i := 3) sc_numbered.nd rfl (Or.inl rfl) (pe_lst (pa_cons (pe_df D_started (hr.mono (by decide)) (by rfl) (pa_cons (pv 2) pa_nil)) pa_nil)))
      (pss_cons (ps_set (i := 4) sc_numbered.nd rfl (Or.inl rfl) (pe_disp1T (hu_of hr) (pe_ix ix_list (pv 3) pe_int (fun _ _ => rfl)) pe_int))
      (pss_cons (ps_set (i := 5) sc_numbered.nd rfl (Or.inl rfl) (pe_lst pa_nil))
      (pss_cons (ps_while PassesOwn.never (pt_cmpR op_lt (pe_callB call_len_seq (by rfl) T.n_len PySem.boot_len (pa_cons (pv 5) pa_nil)) (pe_callB call_len_seq (by rfl) T.n_len PySem.boot_len (pa_cons (pv 3) pa_nil)) (nomark _))
      (pss_cons (ps_set (i := 6) sc_numbered.nd rfl (Or.inl rfl) (pe_lst pa_nil))
      (pss_cons (ps_for PassesOwn.never rfl (pi_list (pv 1)) (pg_name (i := 7) sc_numbered.nd rfl (Or.inl rfl))
      (pss_cons (ps_set (i := 8) sc_numbered.nd rfl (Or.inl rfl) (pe_df D_moved (hr.mono (by decide)) (by rfl) (pa_cons (pv 2) (pa_cons (pe_ix ix_list (pv 3) (pe_callB call_len_seq (by rfl) T.n_len PySem.boot_len (pa_cons (pv 5) pa_nil)) (fun _ _ => rfl)) (pa_cons (pv 7) pa_nil)))))
      (pss_cut (ps_if (pt_cmp (pc_dnotin (hu_of hr) (pv 8) (pv 4)))
      (pss_cons (ps_dput (hu_of hr) (pv 4) (pv 8) (pe_callB call_len_seq (by rfl) T.n_len PySem.boot_len (pa_cons (pv 3) pa_nil)) rfl)
      (pss_one (ps_expr (pe_bm PySem.F.plainAttrs_list PySem.F.slot_list_append PySem.F.type_list_append mt_append (pv 3) (pa_cons (pv 8) pa_nil)))))
      pss_nil)
      (pss_one (ps_expr (pe_bm PySem.F.plainAttrs_list PySem.F.slot_list_append PySem.F.type_list_append mt_append (pv 6) (pa_cons (pe_dget (hu_of hr) (pv 4) (pv 8) (fun _ _ => rfl)) pa_nil)))))))
      (pss_one (ps_expr (pe_bm PySem.F.plainAttrs_list PySem.F.slot_list_append PySem.F.type_list_append mt_append (pv 5) (pa_cons (pv 6) pa_nil)))))))
      (pss_one (ps_ret (pe_tup (pa_cons (pv 3) (pa_cons (pv 5) pa_nil)))))))))), ?_⟩
    have h10 := cells_10 hF.2.1 hF.2.2.2
    refine q_asgL (el_cells (etp_parts rfl hF.1) hF.2.1 hF.2.2.2) fun c H1 _ e1 h1 => ?_
    -- states = [started(cells)]
    show tSeq (tAsg (tLst (tCons (tCall (spStarted K) [] E0 (tCons (tVar 2) tNil)) tNil)) (gName 3)) _ _ _ _
    refine ⟨_, rfl, c, cellsM ps, rfl, sq_of h1, by omega, fun p0 H2 hp0 e2 h2 => ?_⟩
    refine ⟨sz_of (by simp), fun aS hS0 => ?_⟩
    have hS0' : H2 aS = none := hS0
    have hp2 : upd H2 aS (.lst [V.ref p0]) p0 = some (.tup ((startedM (cellsM ps)).map vN)) := Ex.new hS0' _ _ h2
    refine fun aN hN0 => ⟨_, rfl, aS, [.ref p0], 0, .ref p0, rfl, rfl, sq_of (by
      rw [upd_ne (ne_at upd_same hN0)]
      exact upd_same), rfl, p0, kI (startedM (cellsM ps)), rfl, kI_tup (by
      rw [upd_ne (ne_at hp2 hN0)]
      exact hp2), upd_same, ?_⟩
    show tSeq (tAsg (tLst tNil) (gName 5)) _ _ _ (upd (upd (upd H2 aS (.lst [V.ref p0])) aN (.dT [])) aN (.dT (tabK 0 [startedM (cellsM ps)])))
    refine q_asgL (el_lst ea_nil (Nat.zero_le _)) fun aR H3 hR0 e3 h3 => ?_
    have nSN : aS ≠ aN := ne_at upd_same hN0
    have eN : Ex H2 (upd (upd (upd H2 aS (.lst [V.ref p0])) aN (.dT [])) aN (.dT (tabK 0 [startedM (cellsM ps)]))) := fun b o hb => by
      rw [upd_ne (ne_at (Ex.new hS0' _ _ hb) hN0), upd_ne (ne_at (Ex.new hS0' _ _ hb) hN0)]
      exact Ex.new hS0' _ _ hb
    have hSn : (upd (upd (upd H2 aS (.lst [V.ref p0])) aN (.dT [])) aN (.dT (tabK 0 [startedM (cellsM ps)]))) aS = some (.lst [V.ref p0]) := by
      rw [upd_ne nSN, upd_ne nSN]
      exact upd_same
    have fN0 : H2 aN = none := by
      have := hN0
      rw [upd_ne (Ne.symm nSN)] at this
      exact this
    have I0 : NumI H2 H3 aS aN aR [.ref p0] [] [startedM (cellsM ps)] [] := ⟨eN.trans e3, hS0', fN0, fresh_back eN hR0, ne_at hSn hR0, e3 _ _ hSn, e3 _ _ upd_same, h3, .cons h2 .nil, .nil⟩
    have T0 : Tab ps cs [startedM (cellsM ps)] [] := ⟨rfl, by simp, fun s hs => ⟨[], by rw [List.mem_singleton] at hs; exact hs⟩, Nat.zero_le _, fun i s r _ hr2 => by cases hr2⟩
    refine q_while (fun m σ' H' => ∃ (G : Hp) (us ws : List V) (sts rws : List (List Nat)) (c6 c7 c8 : Option V), σ' = [some (.ref a), some (.ref l), some (.ref c), some (.ref aS), some (.ref aN), some (.ref aR), c6, c7, c8] ∧ Ex H2 G ∧
      NumI G H' aS aN aR us ws sts rws ∧ Tab ps cs sts rws ∧ m = 2048 - rws.length) 2048 ⟨H2, _, _, _, _, none, none, none, rfl, Ex.refl _, I0, T0, rfl⟩ ?_
    rintro m σ' H' ⟨G, us, ws, sts, rws, c6, c7, c8, rfl, eG, I, Tb, rfl⟩
    have lS := I.rS.len
    have lR := I.rR.len
    have hsm := Tb.small hF.2.1 hF.2.2.2
    refine ⟨_, et_test (ev_op (ev_len (ev_var rfl) (sq_of I.hR)) (ev_len (ev_var rfl) (sq_of I.hS)) rv_I0), fun hb H4 e4 => ?_, fun hb H4 e4 => ?_⟩
    · have hb2 : (ws.length : Int) < us.length := of_decide_eq_true hb
      have I4 := I.same e4
      obtain ⟨s, hs⟩ : ∃ s, sts[rws.length]? = some s := ⟨sts[rws.length]'(by omega), List.getElem?_eq_getElem (by omega)⟩
      refine ⟨_, fun _ _ z => z, ?_⟩
      refine q_asgL (el_lst ea_nil (Nat.zero_le _)) fun aw H5 hw0 e5 h5 => ?_
      have I5 := I4.same e5
      have wS : aS ≠ aw := ne_at I4.hS hw0
      have wN : aN ≠ aw := ne_at I4.hN hw0
      have wR : aR ≠ aw := ne_at I4.hR hw0
      have fw : G aw = none := fresh_back I4.ex hw0
      refine q_forL (ev_var rfl) (ex_l (e1.trans (e2.trans (eG.trans I5.ex))) hL)
        (fun i σ' H' => ∃ (G2 : Hp) (us2 : List V) (sts2 : List (List Nat)) (c7 c8 : Option V) (r : List Nat), σ' = [some (.ref a), some (.ref l), some (.ref c), some (.ref aS), some (.ref aN), some (.ref aR), some (.ref aw), c7, c8] ∧ Ex G G2 ∧
          NumI G2 H' aS aN aR us2 ws sts2 rws ∧ Tab ps cs sts2 rws ∧ G2 aw = none ∧ H' aw = some (.lst (r.map vN)) ∧ sts2[rws.length]? = some s ∧ RowP ps cs sts2 s i r)
        (fun H6 e6 => ⟨G, us, sts, c7, c8, [], rfl, Ex.refl _, I5.same e6, Tb, fw, e6 _ _ h5, hs, rfl, fun k d hk => absurd hk (Nat.not_lt_zero _)⟩)
        (fun i σ' H' _ pv => ?_) ?_ ?_
      · obtain ⟨G2, us2, sts2, d7, d8, r, _, eG2, I6, _⟩ := pv
        exact ex_l (e1.trans (e2.trans (eG.trans (eG2.trans I6.ex)))) hL
      · rintro i x σ' H6 hx ⟨G2, us2, sts2, d7, d8, r, rfl, eG2, I6, T6, fw2, hw6, hs6, R6⟩
        obtain ⟨d, hd, rfl⟩ : ∃ d, cs[i]? = some d ∧ x = V.str (sg d) := by
          unfold strC at hx
          rw [List.getElem?_map] at hx
          cases hc : cs[i]? with
          | none =>
            rw [hc] at hx
            cases hx
          | some d =>
            rw [hc] at hx
            exact ⟨d, rfl, (Option.some.inj hx).symm⟩
        obtain ⟨q0, hus, hq0⟩ := I6.rS.at hs6
        have l6 := I6.rR.len
        obtain ⟨t, ht⟩ := T6.all s (List.mem_of_getElem? hs6)
        have hi1 : i < cs.length := (List.getElem?_eq_some_iff.mp hd).1
        have hc6 : H6 c = some (.lst ((cellsM ps).map V.str)) := I6.ex _ _ (eG2 _ _ (eG _ _ (e2 _ _ h1)))
        have hq6 : H6 q0 = some (.tup (s.map vN)) := I6.ex _ _ hq0
        refine q_asgU (xs := (movedM (cellsM ps) s d).map vN) (eu_call (ea_cons (ev_var rfl) (ea_cons (ev_op (ev_var rfl) (ev_len (ev_var rfl) (sq_of I6.hR)) (rv_ixL (sq_of I6.hS) (by
          rw [l6]
          exact atI_nat hus))) (ea_cons (ev_var rfl) ea_nil))) fun H7 e7 Q7 k7 E7 => ⟨c, q0, cellsM ps, s, d, rfl, sq_of (e7 _ _ hc6), st_of (e7 _ _ hq6), by omega, by
          have := state_len (cellsM ps) t
          rw [ht]
          show (state (cellsM ps) t).length ≤ 10000
          omega, fun m hm => ((state_mem (signs_cells hF.2.1).1 t m).mp (by
          rw [ht] at hm
          exact hm)).1, k7⟩) fun p H7 hp7 e7 h7 => ?_
        have eG7 : Ex G2 (upd G2 p (.tup ((movedM (cellsM ps) s d).map vN))) := Ex.new (fresh_back I6.ex hp7)
        have I7 := (I6.same e7).more eG7 (Ex.keep I6.ex hp7 e7 h7) (upd_none I6.fS (ne_at I6.hS hp7)) (upd_none I6.fN (ne_at I6.hN hp7)) (upd_none I6.fR (ne_at I6.hR hp7))
        have fw7 := upd_none (o := .tup ((movedM (cellsM ps) s d).map vN)) fw2 (ne_at hw6 hp7)
        have hw7 := e7 _ _ hw6
        have T7 := T6.add (x := movedM (cellsM ps) s d) ⟨t ++ [d], by rw [ht]; exact stM_snoc t d ps⟩ T6.len
        have hsm7 := T7.small hF.2.1 hF.2.2.2
        have hsm6 := T6.small hF.2.1 hF.2.2.2
        have lS6 := I6.rS.len
        refine q_cut (M := fun σ' H' => σ' = [some (.ref a), some (.ref l), some (.ref c), some (.ref aS), some (.ref aN), some (.ref aR), some (.ref aw), some (.str (sg d)), some (.ref p)] ∧ ∃ us8, NumI (upd G2 p (.tup ((movedM (cellsM ps) s d).map vN))) H' aS aN aR us8 ws (addS sts2 (movedM (cellsM ps) s d)) rws ∧ H' aw = some (.lst (r.map vN)))
          (s_when (et_dni rfl rfl I7.hN h7) (fun hb H8 e8 => ?_) (fun hb H8 e8 => ?_)) ?_
        · have hn : movedM (cellsM ps) s d ∉ sts2 := of_decide_eq_true hb
          have I8 := I7.same e8
          have hadd : addS sts2 (movedM (cellsM ps) s d) = sts2 ++ [movedM (cellsM ps) s d] := if_neg hn
          have hpt : putK (tabK 0 sts2) (kI (movedM (cellsM ps) s d)) (V.int (us2.length : Int)) = tabK 0 (sts2 ++ [movedM (cellsM ps) s d]) := by
            rw [putK_new _ (by rw [tabK_val, if_neg hn]), tabK_snoc, lS6, Nat.zero_add]
            rfl
          refine ⟨_, rfl, aS, us2, rfl, .inl (sq_of I8.hS), _, rfl, _, rfl, aN, _, rfl, DPut.t I8.hN (kI_tup (e8 _ _ h7)) (sz_lt (by rw [tabK_len]; omega)), ?_⟩
          rw [hpt]
          refine s_app (l := aS) (xs := us2) (by rw [upd_ne I8.nSN]; exact I8.hS) (ev_var rfl) (ev_var rfl) (by omega) fun H9 e9 => ?_
          refine ⟨rfl, us2 ++ [.ref p], ?_, ?_⟩
          · rw [hadd]
            exact I8.put upd_same e9
          · rw [upd_ne (Ne.symm wS)]
            exact e9 _ _ (by rw [upd_ne (Ne.symm wN)]; exact e8 _ _ hw7)
        · have hn : movedM (cellsM ps) s d ∈ sts2 := by simpa using hb
          have hadd : addS sts2 (movedM (cellsM ps) s d) = sts2 := if_pos hn
          refine ⟨rfl, us2, ?_, e8 _ _ hw7⟩
          rw [hadd]
          exact I7.same e8
        · rintro σ' H9 ⟨rfl, us8, I9, hw9⟩
          refine s_app (l := aw) (xs := r.map vN) hw9 (ev_var rfl) (ev_dget rfl rfl I9.hN (I9.ex _ _ upd_same) addS_mem) (by rw [List.length_map, R6.1]; omega) fun H10 e10 => ?_
          refine ⟨_, us8, _, _, _, r ++ [(addS sts2 (movedM (cellsM ps) s d)).idxOf (movedM (cellsM ps) s d)], rfl, eG2.trans eG7, (I9.same e10).mut fw7 wS wN wR, T7, fw7, ?_, addS_le hs6, R6.snoc hd⟩
          rw [upd_same, List.map_append, Nat.zero_add]
          rfl
      · rintro σ' H6 ⟨G2, us2, sts2, d7, d8, r, rfl, eG2, I6, T6, fw2, hw6, hs6, R6⟩
        have hl : (strC cs).length = cs.length := by
          unfold strC
          rw [List.length_map]
        rw [hl] at R6
        have l6 := I6.rR.len
        have hsm6 := T6.small hF.2.1 hF.2.2.2
        have T8 := T6.snoc hs6 R6
        have hr6 := (List.getElem?_eq_some_iff.mp hs6).1
        refine s_app (l := aR) (xs := ws) I6.hR (ev_var rfl) (ev_var rfl) (by omega) fun H7 e7 => ?_
        have eG7 : Ex G2 (upd G2 aw (.lst (r.map vN))) := Ex.new fw2
        have I7 := (I6.same e7).more eG7 (fun b o hb => by
          by_cases z : b = aw
          · rw [z, upd_same] at hb
            rw [z, ← hb]
            exact e7 _ _ hw6
          · rw [upd_ne z] at hb
            exact e7 _ _ (I6.ex _ _ hb)) (upd_none I6.fS wS) (upd_none I6.fN wN) (upd_none I6.fR wR)
        refine ⟨2048 - (rws ++ [r]).length, ?_, _, us2, _, sts2, _, _, _, _, rfl, eG.trans (eG2.trans eG7), I7.row upd_same, T8, rfl⟩
        rw [List.length_append]
        show 2048 - (rws.length + 1) < 2048 - rws.length
        omega
    · have hb2 := of_decide_eq_false hb
      have I4 := I.same e4
      refine s_retU (eu_tup (ea_cons (ev_var rfl) (ea_cons (ev_var rfl) ea_nil)) (by simp)) fun p H5 hp e5 h5 => ?_
      have I5 := I4.same e5
      have eA : Ex H G := e1.trans (e2.trans eG)
      exact q p H5 (fresh_back (eA.trans I4.ex) hp) (eA.trans I5.ex) ⟨aS, aR, us, ws, sts, rws, h5, I5.hS, I5.hR, I5.rS.ex upN I5.ex, I5.rR.ex upL I5.ex, Tb, by have := Tb.len; omega, hne⟩

/-! ### joined patterns -/
inductive Pt
  | f (ps : List Str)
  | n (and : Bool) (l r : Pt)
def Pt.leaves : Pt → Nat
  | .f _ => 1
  | .n _ l r => l.leaves + r.leaves
def Pt.depth : Pt → Nat
  | .f _ => 0
  | .n _ l r => max l.depth r.depth + 1
def Pt.forms : Pt → List (List Str)
  | .f ps => [ps]
  | .n _ l r => l.forms ++ r.forms
def Pt.text : Pt → Str
  | .f ps => Txt.join "" ps
  | .n and l r => (("(" : Str) ++ l.text ++ (if and then " & " else " | ") ++ r.text) ++ ")"
def Pt.holds : Pt → List Bool → Bool
  | .f _, ts => ts.headD false
  | .n and l r, ts => if and then l.holds (ts.take l.leaves) && r.holds (ts.drop l.leaves) else l.holds (ts.take l.leaves) || r.holds (ts.drop l.leaves)
def Pt.in_ : Pt → Str → Bool
  | .f ps, z => inForm ps z
  | .n and l r, z => if and then l.in_ z && r.in_ z else l.in_ z || r.in_ z
def Pt.isN : Pt → Option Bool
  | .f _ => none
  | .n and _ _ => some and
theorem Pt.leaves_pos : ∀ t : Pt, 1 ≤ t.leaves
  | .f _ => Nat.le_refl _
  | .n _ l r => by
    have := l.leaves_pos
    show 1 ≤ l.leaves + r.leaves
    omega
theorem Pt.depth_lt : ∀ t : Pt, t.depth < t.leaves
  | .f _ => Nat.zero_lt_one
  | .n _ l r => by
    have h1 := l.depth_lt
    have h2 := r.depth_lt
    have h3 := l.leaves_pos
    have h4 := r.leaves_pos
    show max l.depth r.depth + 1 < l.leaves + r.leaves
    omega
theorem Pt.forms_len : ∀ t : Pt, t.forms.length = t.leaves
  | .f _ => rfl
  | .n _ l r => by
    show (l.forms ++ r.forms).length = l.leaves + r.leaves
    rw [List.length_append, l.forms_len, r.forms_len]
theorem kOO : ¬ (("_other" : Str) = "_one") := by decide +kernel
def pairF (p q : Addr) : List (Str × V) := putF "_other" (.ref q) (putF "_one" (.ref p) [])
theorem pairF_one (p q : Addr) : (pairF p q).lookup ("_one" : Str) = some (.ref p) := by
  unfold pairF
  rw [lookup_putF, if_neg (fun z => kOO z.symm), lookup_putF, if_pos rfl]
theorem pairF_other (p q : Addr) : (pairF p q).lookup ("_other" : Str) = some (.ref q) := by
  unfold pairF
  rw [lookup_putF, if_pos rfl]
theorem pairF_no (p q : Addr) {m : Str} (h1 : ¬ m = "_other") (h2 : ¬ m = "_one") : (pairF p q).lookup m = none := by
  unfold pairF
  rw [lookup_putF, if_neg h1, lookup_putF, if_neg h2]
  rfl
def clsP (CF CB CE : Addr) : Option Bool → Addr
  | none => CF
  | some true => CB
  | some false => CE
inductive PatAt (CF CB CE : Addr) (H : Hp) : Pt → Addr → Prop
  | f {ps : List Str} {a : Addr} : FormR CF ps a H → PatAt CF CB CE H (.f ps) a
  | n {and : Bool} {l r : Pt} {a dx p q : Addr} : H a = some (.ins (if and = true then CB else CE) dx (pairF p q)) → PatAt CF CB CE H l p → PatAt CF CB CE H r q → PatAt CF CB CE H (.n and l r) a
section
variable {CF CB CE : Addr}
theorem PatAt.ex {H H' : Hp} {t : Pt} {a : Addr} (h : PatAt CF CB CE H t a) (e : Ex H H') : PatAt CF CB CE H' t a := by
  induction h with
  | f h => exact .f (upF _ _ _ _ e h)
  | n h _ _ ih1 ih2 => exact .n (e _ _ h) ih1 ih2
/-- what class it is of -/
theorem PatAt.cls {H : Hp} {t : Pt} {a : Addr} (h : PatAt CF CB CE H t a) : ∃ dx fs, H a = some (.ins (clsP CF CB CE t.isN) dx fs) ∧ ∀ m : Str, ¬ m = "_cells" → ¬ m = "_parts" → ¬ m = "_one" → ¬ m = "_other" → fs.lookup m = none := by
  cases h with
  | f h =>
    obtain ⟨⟨dx, t, c, f1, _, _⟩, _⟩ := h
    exact ⟨dx, _, f1, fun m h1 h2 _ _ => formF_no t c h1 h2⟩
  | @n and l r a dx p q h _ _ =>
    refine ⟨dx, pairF p q, ?_, fun m _ _ h3 h4 => pairF_no p q h4 h3⟩
    cases and <;> exact h
end
/-- Forms told one by one -/
def RetF (CF : Addr) (pss : List (List Str)) (H : Hp) (Q : VK) : Prop := ∀ l us H2, H l = none → Ex H H2 → H2 l = some (.lst us) → Rs (FormR CF) H2 us pss → Q (.ref l) H2
/-- of a pattern of this class, no deeper than d -/
def OfP (CF CB CE : Addr) (k : Option Bool) (d : Nat) (H : Hp) (t : Pt) (a : Addr) : Prop := PatAt CF CB CE H t a ∧ t.isN = k ∧ t.depth ≤ d
def spForms (CF CB CE : Addr) (k : Option Bool) (d : Nat) : Sp := fun vs H Q _ => ∃ (a : Addr) (t : Pt), vs = [.ref a] ∧ OfP CF CB CE k d H t a ∧ t.leaves ≤ 3 ∧ RetF CF t.forms H Q
def spHolds (K : PySem.W.Frag) (CF CB CE : Addr) (k : Option Bool) (d : Nat) : Sp := fun vs H Q _ => ∃ (a b : Addr) (t : Pt) (ts : List Bool), vs = [.ref a, .ref b] ∧ OfP CF CB CE k d H t a ∧ SqL K H b (ts.map V.bl) ∧ ts.length = t.leaves ∧ t.leaves ≤ 3 ∧ RetV (.bl (t.holds ts)) H Q
def spInP (CF CB CE : Addr) (k : Option Bool) (d : Nat) : Sp := fun vs H Q _ => ∃ (a : Addr) (t : Pt) (z : Str), vs = [.ref a, .str z] ∧ OfP CF CB CE k d H t a ∧ z.length ≤ 1000 ∧ RetV (.bl (t.in_ z)) H Q
def spStrP (CF CB CE : Addr) (k : Option Bool) (d : Nat) : Sp := fun vs H Q _ => ∃ (a : Addr) (t : Pt), vs = [.ref a] ∧ OfP CF CB CE k d H t a ∧ t.leaves ≤ 3 ∧ RetV (.str t.text) H Q
theorem join_list (ps : List Str) : (Txt.join "" ps).cps.toList = ps.flatMap fun p => p.cps.toList := by
  have e0 : ("" : Str).cps = #[] := by decide +kernel
  have key : ∀ (l : List Str) (a : Array Nat), (l.foldl (fun acc p => acc ++ ("" : Str).cps ++ p.cps) a).toList = a.toList ++ l.flatMap fun p => p.cps.toList := by
    intro l
    induction l with
    | nil => intro a; simp
    | cons p l ih =>
      intro a
      rw [List.foldl_cons, ih, e0]
      simp
  cases ps with
  | nil => decide +kernel
  | cons p ps =>
    show (ps.foldl (fun acc p => acc ++ ("" : Str).cps ++ p.cps) p.cps).toList = _
    rw [key, List.flatMap_cons]
theorem join_len (ps : List Str) (h : ∀ p ∈ ps, p.length ≤ 8) : (Txt.join "" ps).length ≤ 8 * ps.length := by
  rw [str_len, join_list]
  induction ps with
  | nil => simp
  | cons p ps ih =>
    have h1 := h p List.mem_cons_self
    rw [str_len] at h1
    have ih := ih fun q hq => h q (List.mem_cons_of_mem _ hq)
    rw [List.flatMap_cons, List.length_append, List.length_cons]
    omega
theorem join_ok {ps : List Str} (h : Parts ps) : okV (.str (Txt.join "" ps)) = true := by
  have e : ∀ z : Str, okV (.str z) = z.cps.toList.all fun x => decide (x < 0x110000) := fun z => by
    show z.cps.all _ = _
    rw [← Array.all_toList]
  rw [e, join_list, List.all_eq_true]
  intro c hc
  obtain ⟨p, hp, hcp⟩ := List.mem_flatMap.mp hc
  have := h.okV (.str p) (List.mem_map_of_mem hp)
  rw [e] at this
  exact List.all_eq_true.mp this c hcp
theorem text_len5 {CF CB CE : Addr} {H : Hp} {t : Pt} {a : Addr} (h : PatAt CF CB CE H t a) : t.text.length + 5 ≤ 40 * t.leaves := by
  induction h with
  | @f ps a hF =>
    have := join_len ps fun p hp => by have := hF.2.1.len p hp; omega
    have := hF.2.2.2
    show (Txt.join "" ps).length + 5 ≤ 40 * 1
    omega
  | @n and l r a dx p q h h1 h2 ih1 ih2 =>
    have e : ∀ a b : Str, (a ++ b).length = a.length + b.length := app_len
    show ((("(" : Str) ++ l.text ++ (if and then " & " else " | ") ++ r.text) ++ ")").length + 5 ≤ 40 * (l.leaves + r.leaves)
    rw [e, e, e, e]
    have c1 : ("(" : Str).length = 1 := by decide +kernel
    have c2 : (")" : Str).length = 1 := by decide +kernel
    have c3 : (if and = true then (" & " : Str) else " | ").length = 3 := by cases and <;> decide +kernel
    rw [c1, c2]
    have c4 : (Str.ofString (if and = true then " & " else " | ")).length = 3 := by cases and <;> decide +kernel
    simp only [c3, c4]
    omega
theorem text_len {CF CB CE : Addr} {H : Hp} {t : Pt} {a : Addr} (h : PatAt CF CB CE H t a) : t.text.length ≤ 40 * t.leaves := Nat.le_trans (Nat.le_add_right _ 5) (text_len5 h)
theorem ok_Form_forms {f : Addr} {fd : FuncData} (F : Fun K "forms" "Form.forms" s_Form_forms f fd) (T : Txt K mg a_OPEN_PARTS C_Both C_Either C_Form) : FnOk P w K mg base CX0 1 f fd ["self"] (spForms C_Form C_Both C_Either none 0) := by
  refine F.ok sc_Form_forms (fun vs H Q E h => ?_) (fun cdv A outer s0 H vs Q E hr h => ?_)
  · obtain ⟨a, t, rfl, _⟩ := h
    rfl
  · obtain ⟨a, t, rfl, ⟨hP, hk, hd⟩, h3, q⟩ := h
    refine ⟨_, (pss_one (ps_ret (pe_lst (pa_cons (pv 0) pa_nil)))), ?_⟩
    cases hP with
    | f hF => exact s_retL (el_lst (ea_cons (ev_var rfl) ea_nil) (by simp)) fun l H1 hl e1 h1 => q l _ H1 hl e1 h1 (.cons (upF _ _ _ _ e1 hF) .nil)
    | n _ _ _ => cases hk
theorem ok_Form_holds {f : Addr} {fd : FuncData} (F : Fun K "holds" "Form.holds" s_Form_holds f fd) (T : Txt K mg a_OPEN_PARTS C_Both C_Either C_Form) : FnOk P w K mg base CX0 1 f fd ["self", "truths"] (spHolds K C_Form C_Both C_Either none 0) := by
  refine F.ok sc_Form_holds (fun vs H Q E h => ?_) (fun cdv A outer s0 H vs Q E hr h => ?_)
  · obtain ⟨a, b, t, ts, rfl, _⟩ := h
    rfl
  · obtain ⟨a, b, t, ts, rfl, ⟨hP, hk, hd⟩, hB, hl, h3, q⟩ := h
    refine ⟨_, (pss_one (ps_ret (pe_ix ix_list (pv 1) pe_int (fun _ _ => rfl)))), ?_⟩
    cases hP with
    | f hF =>
      match ts, hl with
      | [x], _ => exact s_ret (ev_op (ev_var rfl) ev_c (rv_ixL hB (by rfl))) fun H1 e1 => q H1 e1
    | n _ _ _ => cases hk
theorem ok_Form___str__ {f : Addr} {fd : FuncData} (F : Fun K "__str__" "Form.__str__" s_Form___str__ f fd) (T : Txt K mg a_OPEN_PARTS C_Both C_Either C_Form) : FnOk P w K mg base CX0 1 f fd ["self"] (spStrP C_Form C_Both C_Either none 0) := by
  refine F.ok sc_Form___str__ (fun vs H Q E h => ?_) (fun cdv A outer s0 H vs Q E hr h => ?_)
  · obtain ⟨a, t, rfl, _⟩ := h
    rfl
  · obtain ⟨a, t, rfl, ⟨hP, hk, hd⟩, h3, q⟩ := h
    refine ⟨_, (pss_one (ps_ret (pe_join pe_str (pe_fld (pv 0) rfl)))), ?_⟩
    cases hP with
    | @f ps a hF =>
      obtain ⟨⟨dx, tp, c, f1, f2, f3⟩, hPs, g1, g4⟩ := hF
      have jl := join_len ps fun p hp => by have := hPs.len p hp; omega
      have sl : (ps.map (·.length)).sum ≤ 8 * ps.length := by
        clear jl g1 g4 q f2 f3 hk hd h3
        have hl : ∀ p ∈ ps, p.length ≤ 8 := fun p hp => by have := hPs.len p hp; omega
        clear hPs
        induction ps with
        | nil => simp
        | cons p ps ih =>
          have := hl p List.mem_cons_self
          have := ih fun q hq => hl q (List.mem_cons_of_mem _ hq)
          rw [List.map_cons, List.sum_cons, List.length_cons]
          omega
      have ef : Ev (tFld K (tVar 0) "_parts") [some (.ref a)] H (.ref tp) := tFld_ev rfl f1 T.k_Form T.a_Form__parts (formF_parts tp c)
      exact ⟨⟨_, rfl⟩, ef H (Ex.refl _) _ fun H1 e1 => ⟨_, tp, ps, rfl, rfl, .inr (st_of (e1 _ _ f2)), by
        have : ("" : Str).length = 0 := by decide +kernel
        rw [this]
        omega, q H1 e1⟩⟩
    | n _ _ _ => cases hk

section
variable {CF CB CE : Addr} {σ : L2.St} {G : Hp} {te tl ta tb : TE} {t : Pt} {p : Addr} {d : Nat}
theorem Rs.app {α : Type} {R : α → Addr → Hp → Prop} {H : Hp} {vs ws : List V} {xs ys : List α} (h : Rs R H vs xs) (k : Rs R H ws ys) : Rs R H (vs ++ ws) (xs ++ ys) := by
  induction h with
  | nil => exact k
  | cons r _ ih => exact .cons r ih
theorem ers_cat {α : Type} {R : α → Addr → Hp → Prop} {xs ys : List α} (up : Up R) (h1 : EvRs ta σ G R xs) (h2 : EvRs tb σ G R ys) (hn : xs.length + ys.length ≤ 1000) : EvRs (tOp rCat ta tb) σ G R (xs ++ ys) := fun H1 e Q q =>
  h1 H1 e _ fun l vs H2 hl e2 k2 r2 => h2 H2 (e.trans e2) _ fun m ws H3 hm e3 k3 r3 => ⟨l, m, vs, ws, rfl, rfl, e3 _ _ k2, k3, sz_of (by rw [r2.len, r3.len]; omega), fun n hn => q n _ _ (fresh_back (e2.trans e3) hn) ((e2.trans e3).trans (Ex.new hn)) upd_same (Rs.app (r2.ex up (e3.trans (Ex.new hn))) (r3.ex up (Ex.new hn)))⟩
theorem ev_lenN {α : Type} {R : α → Addr → Hp → Prop} {xs : List α} (h : EvRs te σ G R xs) : Ev (tCB (fun xs H Q => ∃ p ys, xs = [.ref p] ∧ (SqL K H p ys ∨ SqT K H p ys) ∧ Q (.int ys.length) H) (tCons te tNil)) σ G (.int xs.length) := fun H1 e Q q =>
  h H1 e _ fun l vs H2 hl e2 h2 r2 => ⟨l, vs, rfl, .inl (sq_of h2), by rw [r2.len]; exact q H2 e2⟩
theorem cutV_ge {xs : List V} {a : Nat} : cutV xs (some (a : Int)) none = xs.drop a := by
  unfold cutV
  rw [HT.sIx_none, HT.sIx_nat]
  by_cases h : a ≤ xs.length
  · rw [Nat.min_eq_left h, List.take_of_length_le (by rw [List.length_drop]; exact Nat.le_refl _)]
  · rw [Nat.min_eq_right (by omega), List.drop_of_length_le (Nat.le_refl _), List.drop_of_length_le (by omega)]
    simp
/-! what a pattern of any class does, by its own class -/
theorem m_forms (h : Ev te σ G (.ref p)) (hP : PatAt CF CB CE G t p) (hd : t.depth ≤ d) (h3 : t.leaves ≤ 3) : EvRs (tMeth (clsP CF CB CE t.isN) "forms" (spForms CF CB CE t.isN d) [] E0 te tNil) σ G (FormR CF) t.forms := fun H1 e Q q => h H1 e _ fun H2 e2 => by
  obtain ⟨dx, fs, f1, f2⟩ := (hP.ex (e.trans e2)).cls
  exact ⟨p, dx, fs, rfl, f1, f2 _ (by decide +kernel) (by decide +kernel) (by decide +kernel) (by decide +kernel), p, t, rfl, ⟨hP.ex (e.trans e2), rfl, hd⟩, h3, fun l us H3 hl e3 h3' r => q l us H3 (fresh_back e2 hl) (e2.trans e3) h3' r⟩
def tAl3 (a b c : TE) : TE := tAlt a (tAlt b c)
theorem v_forms (h : Ev te σ G (.ref p)) (hP : PatAt CF CB CE G t p) (hd : t.depth ≤ d) (h3 : t.leaves ≤ 3) : EvRs (tAlt (tMeth CF "forms" (spForms CF CB CE none 0) [] E0 te tNil) (tAlt (tMeth CB "forms" (spForms CF CB CE (some true) d) [] E0 te tNil) (tMeth CE "forms" (spForms CF CB CE (some false) d) [] E0 te tNil))) σ G (FormR CF) t.forms := fun H1 e Q q => by
  cases t with
  | f ps => exact .inl (m_forms (d := 0) h hP (Nat.le_refl _) h3 H1 e Q q)
  | n and l r =>
    cases and with
    | true => exact .inr (.inl (m_forms h hP hd h3 H1 e Q q))
    | false => exact .inr (.inr (m_forms h hP hd h3 H1 e Q q))
theorem m_holds {ts : List Bool} (h : Ev te σ G (.ref p)) (hP : PatAt CF CB CE G t p) (hd : t.depth ≤ d) (h3 : t.leaves ≤ 3) (hl : EvL tl σ G (ts.map V.bl)) (hn : ts.length = t.leaves) : Ev (tMeth (clsP CF CB CE t.isN) "holds" (spHolds K CF CB CE t.isN d) [] E0 te (tCons tl tNil)) σ G (.bl (t.holds ts)) := fun H1 e Q q => h H1 e _ fun H2 e2 => by
  obtain ⟨dx, fs, f1, f2⟩ := (hP.ex (e.trans e2)).cls
  exact ⟨p, dx, fs, rfl, f1, f2 _ (by decide +kernel) (by decide +kernel) (by decide +kernel) (by decide +kernel), hl H2 (e.trans e2) _ fun l H3 hl0 e3 h3' => ⟨p, l, t, ts, rfl, ⟨hP.ex ((e.trans e2).trans e3), rfl, hd⟩, sq_of h3', hn, h3, fun H4 e4 => q H4 ((e2.trans e3).trans e4)⟩⟩
theorem v_holds {ts : List Bool} (h : Ev te σ G (.ref p)) (hP : PatAt CF CB CE G t p) (hd : t.depth ≤ d) (h3 : t.leaves ≤ 3) (hl : EvL tl σ G (ts.map V.bl)) (hn : ts.length = t.leaves) :
    Ev (tAlt (tMeth CF "holds" (spHolds K CF CB CE none 0) [] E0 te (tCons tl tNil)) (tAlt (tMeth CB "holds" (spHolds K CF CB CE (some true) d) [] E0 te (tCons tl tNil)) (tMeth CE "holds" (spHolds K CF CB CE (some false) d) [] E0 te (tCons tl tNil)))) σ G (.bl (t.holds ts)) := fun H1 e Q q => by
  cases t with
  | f ps => exact .inl (m_holds (d := 0) h hP (Nat.le_refl _) h3 hl hn H1 e Q q)
  | n and l r =>
    cases and with
    | true => exact .inr (.inl (m_holds h hP hd h3 hl hn H1 e Q q))
    | false => exact .inr (.inr (m_holds h hP hd h3 hl hn H1 e Q q))
theorem r_str {H1 : Hp} {Q : VK} (hP : PatAt CF CB CE H1 t p) (hd : t.depth ≤ d) (h3 : t.leaves ≤ 3) (q : ∀ H2, Ex H1 H2 → Q (.str t.text) H2) : rStrOwn (clsP CF CB CE t.isN) (spStrP CF CB CE t.isN d) E0 [.ref p] H1 Q := by
  obtain ⟨dx, fs, f1, _⟩ := hP.cls
  exact ⟨p, dx, fs, rfl, f1, p, t, rfl, ⟨hP, rfl, hd⟩, h3, fun H2 e2 => ⟨_, rfl, q H2 e2⟩⟩
theorem m_fmt (h : Ev te σ G (.ref p)) (hP : PatAt CF CB CE G t p) (hd : t.depth ≤ d) (h3 : t.leaves ≤ 3) : Ev (tFmtOwn (clsP CF CB CE t.isN) (spStrP CF CB CE t.isN d) E0 te) σ G (.str t.text) := fun H1 e Q q => h H1 e _ fun H2 e2 => r_str (hP.ex (e.trans e2)) hd h3 fun H3 e3 => q H3 (e2.trans e3)
theorem v_fmt (h : Ev te σ G (.ref p)) (hP : PatAt CF CB CE G t p) (hd : t.depth ≤ d) (h3 : t.leaves ≤ 3) : Ev (tAlt (tFmtOwn CF (spStrP CF CB CE none 0) E0 te) (tAlt (tFmtOwn CB (spStrP CF CB CE (some true) d) E0 te) (tFmtOwn CE (spStrP CF CB CE (some false) d) E0 te))) σ G (.str t.text) := fun H1 e Q q => by
  cases t with
  | f ps => exact .inl (m_fmt (d := 0) h hP (Nat.le_refl _) h3 H1 e Q q)
  | n and l r =>
    cases and with
    | true => exact .inr (.inl (m_fmt h hP hd h3 H1 e Q q))
    | false => exact .inr (.inr (m_fmt h hP hd h3 H1 e Q q))
theorem m_str (h : Ev te σ G (.ref p)) (hP : PatAt CF CB CE G t p) (hd : t.depth ≤ d) (h3 : t.leaves ≤ 3) : Ev (tCB (rStrOwn (clsP CF CB CE t.isN) (spStrP CF CB CE t.isN d) E0) (tCons te tNil)) σ G (.str t.text) := fun H1 e Q q => h H1 e _ fun H2 e2 => r_str (hP.ex (e.trans e2)) hd h3 fun H3 e3 => q H3 (e2.trans e3)
theorem v_str (h : Ev te σ G (.ref p)) (hP : PatAt CF CB CE G t p) (hd : t.depth ≤ d) (h3 : t.leaves ≤ 3) : Ev (tAlt (tCB (rStrOwn CF (spStrP CF CB CE none 0) E0) (tCons te tNil)) (tAlt (tCB (rStrOwn CB (spStrP CF CB CE (some true) d) E0) (tCons te tNil)) (tCB (rStrOwn CE (spStrP CF CB CE (some false) d) E0) (tCons te tNil)))) σ G (.str t.text) := fun H1 e Q q => by
  cases t with
  | f ps => exact .inl (m_str (d := 0) h hP (Nat.le_refl _) h3 H1 e Q q)
  | n and l r =>
    cases and with
    | true => exact .inr (.inl (m_str h hP hd h3 H1 e Q q))
    | false => exact .inr (.inr (m_str h hP hd h3 H1 e Q q))
theorem f_in {ps : List Str} {z : Str} (hl : Ev tl σ G (.str z)) (h : Ev te σ G (.ref p)) (hF : FormR CF ps p G) (hz : z.length ≤ 1000) : Ev (tOp (rInOwn CF (spIn CF) E0) tl te) σ G (.bl (inForm ps z)) := fun H1 e Q q => hl H1 e _ fun H2 e2 => h H2 (e.trans e2) _ fun H3 e3 => by
  have hF1 := upF _ _ _ _ ((e.trans e2).trans e3) hF
  obtain ⟨⟨dx, t, c, h1, h2, h3⟩, g1, g2, g3⟩ := id hF1
  exact ⟨p, dx, _, rfl, h1, p, ps, z, rfl, hF1.1, g1, g3, hz, fun H4 e4 => ⟨_, rfl, q H4 ((e2.trans e3).trans e4)⟩⟩
theorem n_in {z : Str} {and : Bool} {l r : Pt} (hl : Ev tl σ G (.str z)) (h : Ev te σ G (.ref p)) (hP : PatAt CF CB CE G (.n and l r) p) (hd : (Pt.n and l r).depth ≤ d) (hz : z.length ≤ 1000) : Ev (tOp (rInOwn (if and = true then CB else CE) (spInP CF CB CE (some and) d) E0) tl te) σ G (.bl ((Pt.n and l r).in_ z)) := fun H1 e Q q => hl H1 e _ fun H2 e2 => h H2 (e.trans e2) _ fun H3 e3 => by
  have hP1 := hP.ex ((e.trans e2).trans e3)
  obtain ⟨dx, fs, f1, _⟩ := hP1.cls
  refine ⟨p, dx, fs, rfl, ?_, p, _, z, rfl, ⟨hP1, rfl, hd⟩, hz, fun H4 e4 => ⟨_, rfl, q H4 ((e2.trans e3).trans e4)⟩⟩
  cases and <;> exact f1
theorem v_in {z : Str} (hl : Ev tl σ G (.str z)) (h : Ev te σ G (.ref p)) (hP : PatAt CF CB CE G t p) (hd : t.depth ≤ d) (hz : z.length ≤ 1000) : Ev (tAlt (tOp (rInOwn CF (spIn CF) E0) tl te) (tAlt (tOp (rInOwn CB (spInP CF CB CE (some true) d) E0) tl te) (tOp (rInOwn CE (spInP CF CB CE (some false) d) E0) tl te))) σ G (.bl (t.in_ z)) := fun H1 e Q q => by
  cases t with
  | f ps =>
    cases hP with
    | f hF => exact .inl (f_in hl h hF hz H1 e Q q)
  | n and l r =>
    cases and with
    | true => exact .inr (.inl (n_in hl h hP hd hz H1 e Q q))
    | false => exact .inr (.inr (n_in hl h hP hd hz H1 e Q q))
end
theorem ok_Both_forms__v1 {f : Addr} {fd : FuncData} (F : Fun K "forms" "Both.forms" s_Both_forms f fd) (T : Txt K mg a_OPEN_PARTS C_Both C_Either C_Form) (D_Form_forms : DfM P w K mg base C_Form "forms" ["self"] 1 (spForms C_Form C_Both C_Either none 0)) : FnOk P w K mg base CX0 2 f fd ["self"] (spForms C_Form C_Both C_Either (some true) 1) := by
  refine F.ok sc_Both_forms (fun vs H Q E h => ?_) (fun cdv A outer s0 H vs Q E hr h => ?_)
  · obtain ⟨a, t, rfl, _⟩ := h
    rfl
  · obtain ⟨a, t, rfl, ⟨hP, hk, hd⟩, h3, q⟩ := h
    refine ⟨_, (pss_one (ps_ret (pe_op op_cat (pe_mth0 T.k_Form D_Form_forms (hr.mono (by decide)) (pe_fld (pv 0) rfl)) (pe_mth0 T.k_Form D_Form_forms (hr.mono (by decide)) (pe_fld (pv 0) rfl))))), ?_⟩
    cases hP with
    | f _ => cases hk
    | @n and l r a dx p q' ha hl hr' =>
      cases hk
      have hc : H a = some (.ins C_Both dx (pairF p q')) := ha
      have one : ∀ {σ : L2.St} {H'} (_ : Ex H H') (_ : σ[0]? = some (some (.ref a))), Ev (tFld K (tVar 0) "_one") σ H' (.ref p) := fun e i0 => tFld_ev i0 (e _ _ hc) T.k_Both T.a_Both__one (pairF_one p q')
      have two : ∀ {σ : L2.St} {H'} (_ : Ex H H') (_ : σ[0]? = some (some (.ref a))), Ev (tFld K (tVar 0) "_other") σ H' (.ref q') := fun e i0 => tFld_ev i0 (e _ _ hc) T.k_Both T.a_Both__other (pairF_other p q')
      have hdl : l.depth ≤ 0 := by
        simp only [Pt.depth] at hd
        omega
      have hdr : r.depth ≤ 0 := by
        simp only [Pt.depth] at hd
        omega
      have hll : l.leaves ≤ 3 := by
        have := r.leaves_pos
        simp only [Pt.leaves] at h3
        omega
      have hlr : r.leaves ≤ 3 := by
        have := l.leaves_pos
        simp only [Pt.leaves] at h3
        omega
      cases l with
      | n _ _ _ =>
        simp only [Pt.depth] at hd
        omega
      | f ps1 =>
      cases r with
      | n _ _ _ =>
        simp only [Pt.depth] at hd
        omega
      | f ps2 =>
      have n1 := Pt.forms_len (.f ps1)
      have n2 := Pt.forms_len (.f ps2)
      exact ers_cat upF (m_forms (d := 0) (one (Ex.refl _) rfl) hl hdl hll) (m_forms (d := 0) (two (Ex.refl _) rfl) hr' hdr hlr) (by omega) H (Ex.refl _) _ q
theorem ok_Both_holds__v1 {f : Addr} {fd : FuncData} (F : Fun K "holds" "Both.holds" s_Both_holds f fd) (T : Txt K mg a_OPEN_PARTS C_Both C_Either C_Form) (D_Form_forms : DfM P w K mg base C_Form "forms" ["self"] 1 (spForms C_Form C_Both C_Either none 0)) (D_Form_holds : DfM P w K mg base C_Form "holds" ["self", "truths"] 1 (spHolds K C_Form C_Both C_Either none 0)) : FnOk P w K mg base CX0 2 f fd ["self", "truths"] (spHolds K C_Form C_Both C_Either (some true) 1) := by
  refine F.ok sc_Both_holds (fun vs H Q E h => ?_) (fun cdv A outer s0 H vs Q E hr h => ?_)
  · obtain ⟨a, b, t, ts, rfl, _⟩ := h
    rfl
  · obtain ⟨a, b, t, ts, rfl, ⟨hP, hk, hd⟩, hB, hn, h3, q⟩ := h
    refine ⟨_, (pss_cons (ps_set (i := 2) sc_Both_holds.nd rfl (Or.inl rfl) (pe_callB call_len_seq (by rfl) T.n_len PySem.boot_len (pa_cons (pe_mth0 T.k_Form D_Form_forms (hr.mono (by decide)) (pe_fld (pv 0) rfl)) pa_nil)))
      (pss_one (ps_ret (pe_and (pe_mth T.k_Form D_Form_holds (hr.mono (by decide)) (pe_fld (pv 0) rfl) (pa_cons (pe_slice sl_list (pv 1) po_none (po_some (pv 2))) pa_nil)) (pe_one (pe_mth T.k_Form D_Form_holds (hr.mono (by decide)) (pe_fld (pv 0) rfl) (pa_cons (pe_slice sl_list (pv 1) (po_some (pv 2)) po_none) pa_nil))))))), ?_⟩
    cases hP with
    | f _ => cases hk
    | @n and l r a dx p q' ha hl hr' =>
      cases hk
      have hc : H a = some (.ins C_Both dx (pairF p q')) := ha
      have one : ∀ {σ : L2.St} {H'} (_ : Ex H H') (_ : σ[0]? = some (some (.ref a))), Ev (tFld K (tVar 0) "_one") σ H' (.ref p) := fun e i0 => tFld_ev i0 (e _ _ hc) T.k_Both T.a_Both__one (pairF_one p q')
      have two : ∀ {σ : L2.St} {H'} (_ : Ex H H') (_ : σ[0]? = some (some (.ref a))), Ev (tFld K (tVar 0) "_other") σ H' (.ref q') := fun e i0 => tFld_ev i0 (e _ _ hc) T.k_Both T.a_Both__other (pairF_other p q')
      have hdl : l.depth ≤ 0 := by
        simp only [Pt.depth] at hd
        omega
      have hdr : r.depth ≤ 0 := by
        simp only [Pt.depth] at hd
        omega
      have hll : l.leaves ≤ 3 := by
        have := r.leaves_pos
        simp only [Pt.leaves] at h3
        omega
      have hlr : r.leaves ≤ 3 := by
        have := l.leaves_pos
        simp only [Pt.leaves] at h3
        omega
      cases l with
      | n _ _ _ =>
        simp only [Pt.depth] at hd
        omega
      | f ps1 =>
      cases r with
      | n _ _ _ =>
        simp only [Pt.depth] at hd
        omega
      | f ps2 =>
      have n1 := Pt.forms_len (.f ps1)
      simp only [Pt.leaves] at hn
      refine q_asg (ev_lenN (m_forms (d := 0) (one (Ex.refl _) rfl) hl hdl hll)) fun H1 e1 => ?_
      rw [n1]
      have s1 : EvL (tSl (rSlL K) (tVar 1) tNoPart (tPart (tVar 2))) [some (.ref a), some (.ref b), some (.int ((Pt.leaves (.f ps1) : Nat) : Int))] H1 ((ts.take (Pt.leaves (.f ps1))).map V.bl) := by
        have e := el_sl (K := K) (σ := [some (.ref a), some (.ref b), some (.int ((Pt.leaves (.f ps1) : Nat) : Int))]) (te := tVar 1) (tl := tNoPart) (th := tPart (tVar 2)) (ev_var rfl) eo_none (eo_some (ev_var rfl)) (ex_l e1 hB)
        rw [cutV_lt, ← List.map_take] at e
        exact e
      have s2 : EvL (tSl (rSlL K) (tVar 1) (tPart (tVar 2)) tNoPart) [some (.ref a), some (.ref b), some (.int ((Pt.leaves (.f ps1) : Nat) : Int))] H1 ((ts.drop (Pt.leaves (.f ps1))).map V.bl) := by
        have e := el_sl (K := K) (σ := [some (.ref a), some (.ref b), some (.int ((Pt.leaves (.f ps1) : Nat) : Int))]) (te := tVar 1) (tl := tPart (tVar 2)) (th := tNoPart) (ev_var rfl) (eo_some (ev_var rfl)) eo_none (ex_l e1 hB)
        rw [cutV_ge, ← List.map_drop] at e
        exact e
      refine s_ret (v := .bl (Pt.holds (.f ps1) (ts.take (Pt.leaves (.f ps1))) && Pt.holds (.f ps2) (ts.drop (Pt.leaves (.f ps1))))) (ev_andV (m_holds (d := 0) (one e1 rfl) (hl.ex e1) hdl hll s1 (by rw [List.length_take]; simp only [Pt.leaves] at *; omega)) fun _ => m_holds (d := 0) (two e1 rfl) (hr'.ex e1) hdr hlr s2 (by rw [List.length_drop]; simp only [Pt.leaves] at *; omega)) fun H2 e2 => q H2 (e1.trans e2)
theorem ok_Both___contains____v1 {f : Addr} {fd : FuncData} (F : Fun K "__contains__" "Both.__contains__" s_Both___contains__ f fd) (T : Txt K mg a_OPEN_PARTS C_Both C_Either C_Form) (D_Form___contains__ : DfC P w K mg base C_Form "__contains__" ["self", "line"] 3 (spIn C_Form)) : FnOk P w K mg base CX0 4 f fd ["self", "line"] (spInP C_Form C_Both C_Either (some true) 1) := by
  refine F.ok sc_Both___contains__ (fun vs H Q E h => ?_) (fun cdv A outer s0 H vs Q E hr h => ?_)
  · obtain ⟨a, t, z, rfl, _⟩ := h
    rfl
  · obtain ⟨a, t, z, rfl, ⟨hP, hk, hd⟩, hz, q⟩ := h
    refine ⟨_, (pss_one (ps_ret (pe_and (pe_cmpR (op_in_df D_Form___contains__ (hr.mono (by decide))) (pv 1) (pe_fld (pv 0) rfl) (by rfl)) (pe_one (pe_cmpR (op_in_df D_Form___contains__ (hr.mono (by decide))) (pv 1) (pe_fld (pv 0) rfl) (by rfl)))))), ?_⟩
    cases hP with
    | f _ => cases hk
    | @n and l r a dx p q' ha hl hr' =>
      cases hk
      have hc : H a = some (.ins C_Both dx (pairF p q')) := ha
      have one : ∀ {σ : L2.St} {H'} (_ : Ex H H') (_ : σ[0]? = some (some (.ref a))), Ev (tFld K (tVar 0) "_one") σ H' (.ref p) := fun e i0 => tFld_ev i0 (e _ _ hc) T.k_Both T.a_Both__one (pairF_one p q')
      have two : ∀ {σ : L2.St} {H'} (_ : Ex H H') (_ : σ[0]? = some (some (.ref a))), Ev (tFld K (tVar 0) "_other") σ H' (.ref q') := fun e i0 => tFld_ev i0 (e _ _ hc) T.k_Both T.a_Both__other (pairF_other p q')
      have hdl : l.depth ≤ 0 := by
        simp only [Pt.depth] at hd
        omega
      have hdr : r.depth ≤ 0 := by
        simp only [Pt.depth] at hd
        omega
      cases l with
      | n _ _ _ =>
        simp only [Pt.depth] at hd
        omega
      | f ps1 =>
      cases r with
      | n _ _ _ =>
        simp only [Pt.depth] at hd
        omega
      | f ps2 =>
      cases hl with
      | f hF1 =>
      cases hr' with
      | f hF2 =>
      exact s_ret (v := .bl (Pt.in_ (.f ps1) z && Pt.in_ (.f ps2) z)) (ev_andV (f_in (ev_var rfl) (one (Ex.refl _) rfl) hF1 hz) fun _ => (f_in (ev_var rfl) (two (Ex.refl _) rfl) hF2 hz)) fun H2 e2 => q H2 e2
theorem ok_Both___str____v1 {f : Addr} {fd : FuncData} (F : Fun K "__str__" "Both.__str__" s_Both___str__ f fd) (T : Txt K mg a_OPEN_PARTS C_Both C_Either C_Form) (D_Form___str__ : DfSt P w K mg base C_Form ["self"] 1 (spStrP C_Form C_Both C_Either none 0)) : FnOk P w K mg base CX0 3 f fd ["self"] (spStrP C_Form C_Both C_Either (some true) 1) := by
  refine F.ok sc_Both___str__ (fun vs H Q E h => ?_) (fun cdv A outer s0 H vs Q E hr h => ?_)
  · obtain ⟨a, t, rfl, _⟩ := h
    rfl
  · obtain ⟨a, t, rfl, ⟨hP, hk, hd⟩, h3, q⟩ := h
    refine ⟨_, (pss_one (ps_ret (pe_joined (.cons pe_str (.cons (pe_fmt_df D_Form___str__ (hr.mono (by decide)) (pe_fld (pv 0) rfl)) (.cons pe_str (.cons (pe_fmt_df D_Form___str__ (hr.mono (by decide)) (pe_fld (pv 0) rfl)) (.cons pe_str .nil)))))))), ?_⟩
    cases hP with
    | f _ => cases hk
    | @n and l r a dx p q' ha hl hr' =>
      cases hk
      have hc : H a = some (.ins C_Both dx (pairF p q')) := ha
      have one : ∀ {σ : L2.St} {H'} (_ : Ex H H') (_ : σ[0]? = some (some (.ref a))), Ev (tFld K (tVar 0) "_one") σ H' (.ref p) := fun e i0 => tFld_ev i0 (e _ _ hc) T.k_Both T.a_Both__one (pairF_one p q')
      have two : ∀ {σ : L2.St} {H'} (_ : Ex H H') (_ : σ[0]? = some (some (.ref a))), Ev (tFld K (tVar 0) "_other") σ H' (.ref q') := fun e i0 => tFld_ev i0 (e _ _ hc) T.k_Both T.a_Both__other (pairF_other p q')
      have hdl : l.depth ≤ 0 := by
        simp only [Pt.depth] at hd
        omega
      have hdr : r.depth ≤ 0 := by
        simp only [Pt.depth] at hd
        omega
      have hll : l.leaves ≤ 3 := by
        have := r.leaves_pos
        simp only [Pt.leaves] at h3
        omega
      have hlr : r.leaves ≤ 3 := by
        have := l.leaves_pos
        simp only [Pt.leaves] at h3
        omega
      have tl1 := text_len hl
      have tl2 := text_len hr'
      have e0 : ∀ z : Str, Str.empty ++ z = z := fun z => by
        cases z with
        | mk a => show (⟨#[] ++ a⟩ : Str) = ⟨a⟩; simp
      have a1 : ∀ a b : Str, (a ++ b).length = a.length + b.length := app_len
      have k1 : ("(" : Str).length = 1 := by decide +kernel
      have k2 : (")" : Str).length = 1 := by decide +kernel
      have k3 : (" & " : Str).length = 3 := by decide +kernel
      cases l with
      | n _ _ _ =>
        simp only [Pt.depth] at hd
        omega
      | f ps1 =>
      cases r with
      | n _ _ _ =>
        simp only [Pt.depth] at hd
        omega
      | f ps2 =>
      refine ⟨_, rfl, sz_of (by rw [e0, k1]; omega), m_fmt (d := 0) (one (Ex.refl _) rfl) hl hdl hll H (Ex.refl _) _ fun H1 e1 => ⟨_, rfl, sz_of (by rw [e0, a1, k1]; omega), _, rfl, sz_of (by rw [e0, a1, a1, k1, k3]; omega), m_fmt (d := 0) (two e1 rfl) (hr'.ex e1) hdr hlr H1 (Ex.refl _) _ fun H2 e2 => ⟨_, rfl, sz_of (by rw [e0, a1, a1, a1, k1, k3]; omega), _, rfl, sz_of (by rw [e0, a1, a1, a1, a1, k1, k2, k3]; omega), ?_⟩⟩⟩
      rw [e0]
      exact q H2 (e1.trans e2)
theorem ok_Either_forms__v1 {f : Addr} {fd : FuncData} (F : Fun K "forms" "Either.forms" s_Either_forms f fd) (T : Txt K mg a_OPEN_PARTS C_Both C_Either C_Form) (D_Form_forms : DfM P w K mg base C_Form "forms" ["self"] 1 (spForms C_Form C_Both C_Either none 0)) : FnOk P w K mg base CX0 2 f fd ["self"] (spForms C_Form C_Both C_Either (some false) 1) := by
  refine F.ok sc_Either_forms (fun vs H Q E h => ?_) (fun cdv A outer s0 H vs Q E hr h => ?_)
  · obtain ⟨a, t, rfl, _⟩ := h
    rfl
  · obtain ⟨a, t, rfl, ⟨hP, hk, hd⟩, h3, q⟩ := h
    refine ⟨_, (pss_one (ps_ret (pe_op op_cat (pe_mth0 T.k_Form D_Form_forms (hr.mono (by decide)) (pe_fld (pv 0) rfl)) (pe_mth0 T.k_Form D_Form_forms (hr.mono (by decide)) (pe_fld (pv 0) rfl))))), ?_⟩
    cases hP with
    | f _ => cases hk
    | @n and l r a dx p q' ha hl hr' =>
      cases hk
      have hc : H a = some (.ins C_Either dx (pairF p q')) := ha
      have one : ∀ {σ : L2.St} {H'} (_ : Ex H H') (_ : σ[0]? = some (some (.ref a))), Ev (tFld K (tVar 0) "_one") σ H' (.ref p) := fun e i0 => tFld_ev i0 (e _ _ hc) T.k_Either T.a_Either__one (pairF_one p q')
      have two : ∀ {σ : L2.St} {H'} (_ : Ex H H') (_ : σ[0]? = some (some (.ref a))), Ev (tFld K (tVar 0) "_other") σ H' (.ref q') := fun e i0 => tFld_ev i0 (e _ _ hc) T.k_Either T.a_Either__other (pairF_other p q')
      have hdl : l.depth ≤ 0 := by
        simp only [Pt.depth] at hd
        omega
      have hdr : r.depth ≤ 0 := by
        simp only [Pt.depth] at hd
        omega
      have hll : l.leaves ≤ 3 := by
        have := r.leaves_pos
        simp only [Pt.leaves] at h3
        omega
      have hlr : r.leaves ≤ 3 := by
        have := l.leaves_pos
        simp only [Pt.leaves] at h3
        omega
      cases l with
      | n _ _ _ =>
        simp only [Pt.depth] at hd
        omega
      | f ps1 =>
      cases r with
      | n _ _ _ =>
        simp only [Pt.depth] at hd
        omega
      | f ps2 =>
      have n1 := Pt.forms_len (.f ps1)
      have n2 := Pt.forms_len (.f ps2)
      exact ers_cat upF (m_forms (d := 0) (one (Ex.refl _) rfl) hl hdl hll) (m_forms (d := 0) (two (Ex.refl _) rfl) hr' hdr hlr) (by omega) H (Ex.refl _) _ q
theorem ok_Either_holds__v1 {f : Addr} {fd : FuncData} (F : Fun K "holds" "Either.holds" s_Either_holds f fd) (T : Txt K mg a_OPEN_PARTS C_Both C_Either C_Form) (D_Form_forms : DfM P w K mg base C_Form "forms" ["self"] 1 (spForms C_Form C_Both C_Either none 0)) (D_Form_holds : DfM P w K mg base C_Form "holds" ["self", "truths"] 1 (spHolds K C_Form C_Both C_Either none 0)) : FnOk P w K mg base CX0 2 f fd ["self", "truths"] (spHolds K C_Form C_Both C_Either (some false) 1) := by
  refine F.ok sc_Either_holds (fun vs H Q E h => ?_) (fun cdv A outer s0 H vs Q E hr h => ?_)
  · obtain ⟨a, b, t, ts, rfl, _⟩ := h
    rfl
  · obtain ⟨a, b, t, ts, rfl, ⟨hP, hk, hd⟩, hB, hn, h3, q⟩ := h
    refine ⟨_, (pss_cons (ps_set (i := 2) sc_Either_holds.nd rfl (Or.inl rfl) (pe_callB call_len_seq (by rfl) T.n_len PySem.boot_len (pa_cons (pe_mth0 T.k_Form D_Form_forms (hr.mono (by decide)) (pe_fld (pv 0) rfl)) pa_nil)))
      (pss_one (ps_ret (pe_or (pe_mth T.k_Form D_Form_holds (hr.mono (by decide)) (pe_fld (pv 0) rfl) (pa_cons (pe_slice sl_list (pv 1) po_none (po_some (pv 2))) pa_nil)) (pe_one (pe_mth T.k_Form D_Form_holds (hr.mono (by decide)) (pe_fld (pv 0) rfl) (pa_cons (pe_slice sl_list (pv 1) (po_some (pv 2)) po_none) pa_nil))))))), ?_⟩
    cases hP with
    | f _ => cases hk
    | @n and l r a dx p q' ha hl hr' =>
      cases hk
      have hc : H a = some (.ins C_Either dx (pairF p q')) := ha
      have one : ∀ {σ : L2.St} {H'} (_ : Ex H H') (_ : σ[0]? = some (some (.ref a))), Ev (tFld K (tVar 0) "_one") σ H' (.ref p) := fun e i0 => tFld_ev i0 (e _ _ hc) T.k_Either T.a_Either__one (pairF_one p q')
      have two : ∀ {σ : L2.St} {H'} (_ : Ex H H') (_ : σ[0]? = some (some (.ref a))), Ev (tFld K (tVar 0) "_other") σ H' (.ref q') := fun e i0 => tFld_ev i0 (e _ _ hc) T.k_Either T.a_Either__other (pairF_other p q')
      have hdl : l.depth ≤ 0 := by
        simp only [Pt.depth] at hd
        omega
      have hdr : r.depth ≤ 0 := by
        simp only [Pt.depth] at hd
        omega
      have hll : l.leaves ≤ 3 := by
        have := r.leaves_pos
        simp only [Pt.leaves] at h3
        omega
      have hlr : r.leaves ≤ 3 := by
        have := l.leaves_pos
        simp only [Pt.leaves] at h3
        omega
      cases l with
      | n _ _ _ =>
        simp only [Pt.depth] at hd
        omega
      | f ps1 =>
      cases r with
      | n _ _ _ =>
        simp only [Pt.depth] at hd
        omega
      | f ps2 =>
      have n1 := Pt.forms_len (.f ps1)
      simp only [Pt.leaves] at hn
      refine q_asg (ev_lenN (m_forms (d := 0) (one (Ex.refl _) rfl) hl hdl hll)) fun H1 e1 => ?_
      rw [n1]
      have s1 : EvL (tSl (rSlL K) (tVar 1) tNoPart (tPart (tVar 2))) [some (.ref a), some (.ref b), some (.int ((Pt.leaves (.f ps1) : Nat) : Int))] H1 ((ts.take (Pt.leaves (.f ps1))).map V.bl) := by
        have e := el_sl (K := K) (σ := [some (.ref a), some (.ref b), some (.int ((Pt.leaves (.f ps1) : Nat) : Int))]) (te := tVar 1) (tl := tNoPart) (th := tPart (tVar 2)) (ev_var rfl) eo_none (eo_some (ev_var rfl)) (ex_l e1 hB)
        rw [cutV_lt, ← List.map_take] at e
        exact e
      have s2 : EvL (tSl (rSlL K) (tVar 1) (tPart (tVar 2)) tNoPart) [some (.ref a), some (.ref b), some (.int ((Pt.leaves (.f ps1) : Nat) : Int))] H1 ((ts.drop (Pt.leaves (.f ps1))).map V.bl) := by
        have e := el_sl (K := K) (σ := [some (.ref a), some (.ref b), some (.int ((Pt.leaves (.f ps1) : Nat) : Int))]) (te := tVar 1) (tl := tPart (tVar 2)) (th := tNoPart) (ev_var rfl) (eo_some (ev_var rfl)) eo_none (ex_l e1 hB)
        rw [cutV_ge, ← List.map_drop] at e
        exact e
      refine s_ret (v := .bl (Pt.holds (.f ps1) (ts.take (Pt.leaves (.f ps1))) || Pt.holds (.f ps2) (ts.drop (Pt.leaves (.f ps1))))) (ev_orV (m_holds (d := 0) (one e1 rfl) (hl.ex e1) hdl hll s1 (by rw [List.length_take]; simp only [Pt.leaves] at *; omega)) fun _ => m_holds (d := 0) (two e1 rfl) (hr'.ex e1) hdr hlr s2 (by rw [List.length_drop]; simp only [Pt.leaves] at *; omega)) fun H2 e2 => q H2 (e1.trans e2)
theorem ok_Either___contains____v1 {f : Addr} {fd : FuncData} (F : Fun K "__contains__" "Either.__contains__" s_Either___contains__ f fd) (T : Txt K mg a_OPEN_PARTS C_Both C_Either C_Form) (D_Form___contains__ : DfC P w K mg base C_Form "__contains__" ["self", "line"] 3 (spIn C_Form)) : FnOk P w K mg base CX0 4 f fd ["self", "line"] (spInP C_Form C_Both C_Either (some false) 1) := by
  refine F.ok sc_Either___contains__ (fun vs H Q E h => ?_) (fun cdv A outer s0 H vs Q E hr h => ?_)
  · obtain ⟨a, t, z, rfl, _⟩ := h
    rfl
  · obtain ⟨a, t, z, rfl, ⟨hP, hk, hd⟩, hz, q⟩ := h
    refine ⟨_, (pss_one (ps_ret (pe_or (pe_cmpR (op_in_df D_Form___contains__ (hr.mono (by decide))) (pv 1) (pe_fld (pv 0) rfl) (by rfl)) (pe_one (pe_cmpR (op_in_df D_Form___contains__ (hr.mono (by decide))) (pv 1) (pe_fld (pv 0) rfl) (by rfl)))))), ?_⟩
    cases hP with
    | f _ => cases hk
    | @n and l r a dx p q' ha hl hr' =>
      cases hk
      have hc : H a = some (.ins C_Either dx (pairF p q')) := ha
      have one : ∀ {σ : L2.St} {H'} (_ : Ex H H') (_ : σ[0]? = some (some (.ref a))), Ev (tFld K (tVar 0) "_one") σ H' (.ref p) := fun e i0 => tFld_ev i0 (e _ _ hc) T.k_Either T.a_Either__one (pairF_one p q')
      have two : ∀ {σ : L2.St} {H'} (_ : Ex H H') (_ : σ[0]? = some (some (.ref a))), Ev (tFld K (tVar 0) "_other") σ H' (.ref q') := fun e i0 => tFld_ev i0 (e _ _ hc) T.k_Either T.a_Either__other (pairF_other p q')
      have hdl : l.depth ≤ 0 := by
        simp only [Pt.depth] at hd
        omega
      have hdr : r.depth ≤ 0 := by
        simp only [Pt.depth] at hd
        omega
      cases l with
      | n _ _ _ =>
        simp only [Pt.depth] at hd
        omega
      | f ps1 =>
      cases r with
      | n _ _ _ =>
        simp only [Pt.depth] at hd
        omega
      | f ps2 =>
      cases hl with
      | f hF1 =>
      cases hr' with
      | f hF2 =>
      exact s_ret (v := .bl (Pt.in_ (.f ps1) z || Pt.in_ (.f ps2) z)) (ev_orV (f_in (ev_var rfl) (one (Ex.refl _) rfl) hF1 hz) fun _ => (f_in (ev_var rfl) (two (Ex.refl _) rfl) hF2 hz)) fun H2 e2 => q H2 e2
theorem ok_Either___str____v1 {f : Addr} {fd : FuncData} (F : Fun K "__str__" "Either.__str__" s_Either___str__ f fd) (T : Txt K mg a_OPEN_PARTS C_Both C_Either C_Form) (D_Form___str__ : DfSt P w K mg base C_Form ["self"] 1 (spStrP C_Form C_Both C_Either none 0)) : FnOk P w K mg base CX0 3 f fd ["self"] (spStrP C_Form C_Both C_Either (some false) 1) := by
  refine F.ok sc_Either___str__ (fun vs H Q E h => ?_) (fun cdv A outer s0 H vs Q E hr h => ?_)
  · obtain ⟨a, t, rfl, _⟩ := h
    rfl
  · obtain ⟨a, t, rfl, ⟨hP, hk, hd⟩, h3, q⟩ := h
    refine ⟨_, (pss_one (ps_ret (pe_joined (.cons pe_str (.cons (pe_fmt_df D_Form___str__ (hr.mono (by decide)) (pe_fld (pv 0) rfl)) (.cons pe_str (.cons (pe_fmt_df D_Form___str__ (hr.mono (by decide)) (pe_fld (pv 0) rfl)) (.cons pe_str .nil)))))))), ?_⟩
    cases hP with
    | f _ => cases hk
    | @n and l r a dx p q' ha hl hr' =>
      cases hk
      have hc : H a = some (.ins C_Either dx (pairF p q')) := ha
      have one : ∀ {σ : L2.St} {H'} (_ : Ex H H') (_ : σ[0]? = some (some (.ref a))), Ev (tFld K (tVar 0) "_one") σ H' (.ref p) := fun e i0 => tFld_ev i0 (e _ _ hc) T.k_Either T.a_Either__one (pairF_one p q')
      have two : ∀ {σ : L2.St} {H'} (_ : Ex H H') (_ : σ[0]? = some (some (.ref a))), Ev (tFld K (tVar 0) "_other") σ H' (.ref q') := fun e i0 => tFld_ev i0 (e _ _ hc) T.k_Either T.a_Either__other (pairF_other p q')
      have hdl : l.depth ≤ 0 := by
        simp only [Pt.depth] at hd
        omega
      have hdr : r.depth ≤ 0 := by
        simp only [Pt.depth] at hd
        omega
      have hll : l.leaves ≤ 3 := by
        have := r.leaves_pos
        simp only [Pt.leaves] at h3
        omega
      have hlr : r.leaves ≤ 3 := by
        have := l.leaves_pos
        simp only [Pt.leaves] at h3
        omega
      have tl1 := text_len hl
      have tl2 := text_len hr'
      have e0 : ∀ z : Str, Str.empty ++ z = z := fun z => by
        cases z with
        | mk a => show (⟨#[] ++ a⟩ : Str) = ⟨a⟩; simp
      have a1 : ∀ a b : Str, (a ++ b).length = a.length + b.length := app_len
      have k1 : ("(" : Str).length = 1 := by decide +kernel
      have k2 : (")" : Str).length = 1 := by decide +kernel
      have k3 : (" | " : Str).length = 3 := by decide +kernel
      cases l with
      | n _ _ _ =>
        simp only [Pt.depth] at hd
        omega
      | f ps1 =>
      cases r with
      | n _ _ _ =>
        simp only [Pt.depth] at hd
        omega
      | f ps2 =>
      refine ⟨_, rfl, sz_of (by rw [e0, k1]; omega), m_fmt (d := 0) (one (Ex.refl _) rfl) hl hdl hll H (Ex.refl _) _ fun H1 e1 => ⟨_, rfl, sz_of (by rw [e0, a1, k1]; omega), _, rfl, sz_of (by rw [e0, a1, a1, k1, k3]; omega), m_fmt (d := 0) (two e1 rfl) (hr'.ex e1) hdr hlr H1 (Ex.refl _) _ fun H2 e2 => ⟨_, rfl, sz_of (by rw [e0, a1, a1, a1, k1, k3]; omega), _, rfl, sz_of (by rw [e0, a1, a1, a1, a1, k1, k2, k3]; omega), ?_⟩⟩⟩
      rw [e0]
      exact q H2 (e1.trans e2)
theorem ok_Both_forms__v2 {f : Addr} {fd : FuncData} (F : Fun K "forms" "Both.forms" s_Both_forms f fd) (T : Txt K mg a_OPEN_PARTS C_Both C_Either C_Form) (D_Form_forms : DfM P w K mg base C_Form "forms" ["self"] 1 (spForms C_Form C_Both C_Either none 0)) (D_Both_forms__v1 : DfM P w K mg base C_Both "forms" ["self"] 2 (spForms C_Form C_Both C_Either (some true) 1)) (D_Either_forms__v1 : DfM P w K mg base C_Either "forms" ["self"] 2 (spForms C_Form C_Both C_Either (some false) 1)) : FnOk P w K mg base CX0 3 f fd ["self"] (spForms C_Form C_Both C_Either (some true) 2) := by
  refine F.ok sc_Both_forms (fun vs H Q E h => ?_) (fun cdv A outer s0 H vs Q E hr h => ?_)
  · obtain ⟨a, t, rfl, _⟩ := h
    rfl
  · obtain ⟨a, t, rfl, ⟨hP, hk, hd⟩, h3, q⟩ := h
    refine ⟨_, (pss_one (ps_ret (pe_op op_cat (pe_alt (pe_mth0 T.k_Form D_Form_forms (hr.mono (by decide)) (pe_fld (pv 0) rfl))
        (pe_alt (pe_mth0 T.k_Both D_Both_forms__v1 (hr.mono (by decide)) (pe_fld (pv 0) rfl))
        (pe_mth0 T.k_Either D_Either_forms__v1 (hr.mono (by decide)) (pe_fld (pv 0) rfl)))) (pe_alt (pe_mth0 T.k_Form D_Form_forms (hr.mono (by decide)) (pe_fld (pv 0) rfl))
        (pe_alt (pe_mth0 T.k_Both D_Both_forms__v1 (hr.mono (by decide)) (pe_fld (pv 0) rfl))
        (pe_mth0 T.k_Either D_Either_forms__v1 (hr.mono (by decide)) (pe_fld (pv 0) rfl))))))), ?_⟩
    cases hP with
    | f _ => cases hk
    | @n and l r a dx p q' ha hl hr' =>
      cases hk
      have hc : H a = some (.ins C_Both dx (pairF p q')) := ha
      have one : ∀ {σ : L2.St} {H'} (_ : Ex H H') (_ : σ[0]? = some (some (.ref a))), Ev (tFld K (tVar 0) "_one") σ H' (.ref p) := fun e i0 => tFld_ev i0 (e _ _ hc) T.k_Both T.a_Both__one (pairF_one p q')
      have two : ∀ {σ : L2.St} {H'} (_ : Ex H H') (_ : σ[0]? = some (some (.ref a))), Ev (tFld K (tVar 0) "_other") σ H' (.ref q') := fun e i0 => tFld_ev i0 (e _ _ hc) T.k_Both T.a_Both__other (pairF_other p q')
      have hdl : l.depth ≤ 1 := by
        simp only [Pt.depth] at hd
        omega
      have hdr : r.depth ≤ 1 := by
        simp only [Pt.depth] at hd
        omega
      have hll : l.leaves ≤ 3 := by
        have := r.leaves_pos
        simp only [Pt.leaves] at h3
        omega
      have hlr : r.leaves ≤ 3 := by
        have := l.leaves_pos
        simp only [Pt.leaves] at h3
        omega
      have n1 := Pt.forms_len l
      have n2 := Pt.forms_len r
      exact ers_cat upF (v_forms (one (Ex.refl _) rfl) hl hdl hll) (v_forms (two (Ex.refl _) rfl) hr' hdr hlr) (by omega) H (Ex.refl _) _ q
theorem ok_Both_holds__v2 {f : Addr} {fd : FuncData} (F : Fun K "holds" "Both.holds" s_Both_holds f fd) (T : Txt K mg a_OPEN_PARTS C_Both C_Either C_Form) (D_Form_forms : DfM P w K mg base C_Form "forms" ["self"] 1 (spForms C_Form C_Both C_Either none 0)) (D_Both_forms__v1 : DfM P w K mg base C_Both "forms" ["self"] 2 (spForms C_Form C_Both C_Either (some true) 1)) (D_Either_forms__v1 : DfM P w K mg base C_Either "forms" ["self"] 2 (spForms C_Form C_Both C_Either (some false) 1)) (D_Form_holds : DfM P w K mg base C_Form "holds" ["self", "truths"] 1 (spHolds K C_Form C_Both C_Either none 0)) (D_Both_holds__v1 : DfM P w K mg base C_Both "holds" ["self", "truths"] 2 (spHolds K C_Form C_Both C_Either (some true) 1)) (D_Either_holds__v1 : DfM P w K mg base C_Either "holds" ["self", "truths"] 2 (spHolds K C_Form C_Both C_Either (some false) 1)) : FnOk P w K mg base CX0 3 f fd ["self", "truths"] (spHolds K C_Form C_Both C_Either (some true) 2) := by
  refine F.ok sc_Both_holds (fun vs H Q E h => ?_) (fun cdv A outer s0 H vs Q E hr h => ?_)
  · obtain ⟨a, b, t, ts, rfl, _⟩ := h
    rfl
  · obtain ⟨a, b, t, ts, rfl, ⟨hP, hk, hd⟩, hB, hn, h3, q⟩ := h
    refine ⟨_, (pss_cons (ps_set (i := 2) sc_Both_holds.nd rfl (Or.inl rfl) (pe_callB call_len_seq (by rfl) T.n_len PySem.boot_len (pa_cons (pe_alt (pe_mth0 T.k_Form D_Form_forms (hr.mono (by decide)) (pe_fld (pv 0) rfl))
        (pe_alt (pe_mth0 T.k_Both D_Both_forms__v1 (hr.mono (by decide)) (pe_fld (pv 0) rfl))
        (pe_mth0 T.k_Either D_Either_forms__v1 (hr.mono (by decide)) (pe_fld (pv 0) rfl)))) pa_nil)))
      (pss_one (ps_ret (pe_and (pe_alt (pe_mth T.k_Form D_Form_holds (hr.mono (by decide)) (pe_fld (pv 0) rfl) (pa_cons (pe_slice sl_list (pv 1) po_none (po_some (pv 2))) pa_nil))
        (pe_alt (pe_mth T.k_Both D_Both_holds__v1 (hr.mono (by decide)) (pe_fld (pv 0) rfl) (pa_cons (pe_slice sl_list (pv 1) po_none (po_some (pv 2))) pa_nil))
        (pe_mth T.k_Either D_Either_holds__v1 (hr.mono (by decide)) (pe_fld (pv 0) rfl) (pa_cons (pe_slice sl_list (pv 1) po_none (po_some (pv 2))) pa_nil)))) (pe_one (pe_alt (pe_mth T.k_Form D_Form_holds (hr.mono (by decide)) (pe_fld (pv 0) rfl) (pa_cons (pe_slice sl_list (pv 1) (po_some (pv 2)) po_none) pa_nil))
        (pe_alt (pe_mth T.k_Both D_Both_holds__v1 (hr.mono (by decide)) (pe_fld (pv 0) rfl) (pa_cons (pe_slice sl_list (pv 1) (po_some (pv 2)) po_none) pa_nil))
        (pe_mth T.k_Either D_Either_holds__v1 (hr.mono (by decide)) (pe_fld (pv 0) rfl) (pa_cons (pe_slice sl_list (pv 1) (po_some (pv 2)) po_none) pa_nil))))))))), ?_⟩
    cases hP with
    | f _ => cases hk
    | @n and l r a dx p q' ha hl hr' =>
      cases hk
      have hc : H a = some (.ins C_Both dx (pairF p q')) := ha
      have one : ∀ {σ : L2.St} {H'} (_ : Ex H H') (_ : σ[0]? = some (some (.ref a))), Ev (tFld K (tVar 0) "_one") σ H' (.ref p) := fun e i0 => tFld_ev i0 (e _ _ hc) T.k_Both T.a_Both__one (pairF_one p q')
      have two : ∀ {σ : L2.St} {H'} (_ : Ex H H') (_ : σ[0]? = some (some (.ref a))), Ev (tFld K (tVar 0) "_other") σ H' (.ref q') := fun e i0 => tFld_ev i0 (e _ _ hc) T.k_Both T.a_Both__other (pairF_other p q')
      have hdl : l.depth ≤ 1 := by
        simp only [Pt.depth] at hd
        omega
      have hdr : r.depth ≤ 1 := by
        simp only [Pt.depth] at hd
        omega
      have hll : l.leaves ≤ 3 := by
        have := r.leaves_pos
        simp only [Pt.leaves] at h3
        omega
      have hlr : r.leaves ≤ 3 := by
        have := l.leaves_pos
        simp only [Pt.leaves] at h3
        omega
      have n1 := Pt.forms_len l
      simp only [Pt.leaves] at hn
      refine q_asg (ev_lenN (v_forms (one (Ex.refl _) rfl) hl hdl hll)) fun H1 e1 => ?_
      rw [n1]
      have s1 : EvL (tSl (rSlL K) (tVar 1) tNoPart (tPart (tVar 2))) [some (.ref a), some (.ref b), some (.int ((Pt.leaves l : Nat) : Int))] H1 ((ts.take (Pt.leaves l)).map V.bl) := by
        have e := el_sl (K := K) (σ := [some (.ref a), some (.ref b), some (.int ((Pt.leaves l : Nat) : Int))]) (te := tVar 1) (tl := tNoPart) (th := tPart (tVar 2)) (ev_var rfl) eo_none (eo_some (ev_var rfl)) (ex_l e1 hB)
        rw [cutV_lt, ← List.map_take] at e
        exact e
      have s2 : EvL (tSl (rSlL K) (tVar 1) (tPart (tVar 2)) tNoPart) [some (.ref a), some (.ref b), some (.int ((Pt.leaves l : Nat) : Int))] H1 ((ts.drop (Pt.leaves l)).map V.bl) := by
        have e := el_sl (K := K) (σ := [some (.ref a), some (.ref b), some (.int ((Pt.leaves l : Nat) : Int))]) (te := tVar 1) (tl := tPart (tVar 2)) (th := tNoPart) (ev_var rfl) (eo_some (ev_var rfl)) eo_none (ex_l e1 hB)
        rw [cutV_ge, ← List.map_drop] at e
        exact e
      refine s_ret (v := .bl (Pt.holds l (ts.take (Pt.leaves l)) && Pt.holds r (ts.drop (Pt.leaves l)))) (ev_andV (v_holds (one e1 rfl) (hl.ex e1) hdl hll s1 (by rw [List.length_take]; simp only [Pt.leaves] at *; omega)) fun _ => v_holds (two e1 rfl) (hr'.ex e1) hdr hlr s2 (by rw [List.length_drop]; simp only [Pt.leaves] at *; omega)) fun H2 e2 => q H2 (e1.trans e2)
theorem ok_Both___contains____v2 {f : Addr} {fd : FuncData} (F : Fun K "__contains__" "Both.__contains__" s_Both___contains__ f fd) (T : Txt K mg a_OPEN_PARTS C_Both C_Either C_Form) (D_Form___contains__ : DfC P w K mg base C_Form "__contains__" ["self", "line"] 3 (spIn C_Form)) (D_Both___contains____v1 : DfC P w K mg base C_Both "__contains__" ["self", "line"] 4 (spInP C_Form C_Both C_Either (some true) 1)) (D_Either___contains____v1 : DfC P w K mg base C_Either "__contains__" ["self", "line"] 4 (spInP C_Form C_Both C_Either (some false) 1)) : FnOk P w K mg base CX0 5 f fd ["self", "line"] (spInP C_Form C_Both C_Either (some true) 2) := by
  refine F.ok sc_Both___contains__ (fun vs H Q E h => ?_) (fun cdv A outer s0 H vs Q E hr h => ?_)
  · obtain ⟨a, t, z, rfl, _⟩ := h
    rfl
  · obtain ⟨a, t, z, rfl, ⟨hP, hk, hd⟩, hz, q⟩ := h
    refine ⟨_, (pss_one (ps_ret (pe_and (pe_alt (pe_cmpR (op_in_df D_Form___contains__ (hr.mono (by decide))) (pv 1) (pe_fld (pv 0) rfl) (by rfl))
        (pe_alt (pe_cmpR (op_in_df D_Both___contains____v1 (hr.mono (by decide))) (pv 1) (pe_fld (pv 0) rfl) (by rfl))
        (pe_cmpR (op_in_df D_Either___contains____v1 (hr.mono (by decide))) (pv 1) (pe_fld (pv 0) rfl) (by rfl)))) (pe_one (pe_alt (pe_cmpR (op_in_df D_Form___contains__ (hr.mono (by decide))) (pv 1) (pe_fld (pv 0) rfl) (by rfl))
        (pe_alt (pe_cmpR (op_in_df D_Both___contains____v1 (hr.mono (by decide))) (pv 1) (pe_fld (pv 0) rfl) (by rfl))
        (pe_cmpR (op_in_df D_Either___contains____v1 (hr.mono (by decide))) (pv 1) (pe_fld (pv 0) rfl) (by rfl)))))))), ?_⟩
    cases hP with
    | f _ => cases hk
    | @n and l r a dx p q' ha hl hr' =>
      cases hk
      have hc : H a = some (.ins C_Both dx (pairF p q')) := ha
      have one : ∀ {σ : L2.St} {H'} (_ : Ex H H') (_ : σ[0]? = some (some (.ref a))), Ev (tFld K (tVar 0) "_one") σ H' (.ref p) := fun e i0 => tFld_ev i0 (e _ _ hc) T.k_Both T.a_Both__one (pairF_one p q')
      have two : ∀ {σ : L2.St} {H'} (_ : Ex H H') (_ : σ[0]? = some (some (.ref a))), Ev (tFld K (tVar 0) "_other") σ H' (.ref q') := fun e i0 => tFld_ev i0 (e _ _ hc) T.k_Both T.a_Both__other (pairF_other p q')
      have hdl : l.depth ≤ 1 := by
        simp only [Pt.depth] at hd
        omega
      have hdr : r.depth ≤ 1 := by
        simp only [Pt.depth] at hd
        omega
      exact s_ret (v := .bl (Pt.in_ l z && Pt.in_ r z)) (ev_andV (v_in (ev_var rfl) (one (Ex.refl _) rfl) hl hdl hz) fun _ => (v_in (ev_var rfl) (two (Ex.refl _) rfl) hr' hdr hz)) fun H2 e2 => q H2 e2
theorem ok_Both___str____v2 {f : Addr} {fd : FuncData} (F : Fun K "__str__" "Both.__str__" s_Both___str__ f fd) (T : Txt K mg a_OPEN_PARTS C_Both C_Either C_Form) (D_Form___str__ : DfSt P w K mg base C_Form ["self"] 1 (spStrP C_Form C_Both C_Either none 0)) (D_Both___str____v1 : DfSt P w K mg base C_Both ["self"] 3 (spStrP C_Form C_Both C_Either (some true) 1)) (D_Either___str____v1 : DfSt P w K mg base C_Either ["self"] 3 (spStrP C_Form C_Both C_Either (some false) 1)) : FnOk P w K mg base CX0 5 f fd ["self"] (spStrP C_Form C_Both C_Either (some true) 2) := by
  refine F.ok sc_Both___str__ (fun vs H Q E h => ?_) (fun cdv A outer s0 H vs Q E hr h => ?_)
  · obtain ⟨a, t, rfl, _⟩ := h
    rfl
  · obtain ⟨a, t, rfl, ⟨hP, hk, hd⟩, h3, q⟩ := h
    refine ⟨_, (pss_one (ps_ret (pe_joined (.cons pe_str (.cons (pe_alt (pe_fmt_df D_Form___str__ (hr.mono (by decide)) (pe_fld (pv 0) rfl))
        (pe_alt (pe_fmt_df D_Both___str____v1 (hr.mono (by decide)) (pe_fld (pv 0) rfl))
        (pe_fmt_df D_Either___str____v1 (hr.mono (by decide)) (pe_fld (pv 0) rfl)))) (.cons pe_str (.cons (pe_alt (pe_fmt_df D_Form___str__ (hr.mono (by decide)) (pe_fld (pv 0) rfl))
        (pe_alt (pe_fmt_df D_Both___str____v1 (hr.mono (by decide)) (pe_fld (pv 0) rfl))
        (pe_fmt_df D_Either___str____v1 (hr.mono (by decide)) (pe_fld (pv 0) rfl)))) (.cons pe_str .nil)))))))), ?_⟩
    cases hP with
    | f _ => cases hk
    | @n and l r a dx p q' ha hl hr' =>
      cases hk
      have hc : H a = some (.ins C_Both dx (pairF p q')) := ha
      have one : ∀ {σ : L2.St} {H'} (_ : Ex H H') (_ : σ[0]? = some (some (.ref a))), Ev (tFld K (tVar 0) "_one") σ H' (.ref p) := fun e i0 => tFld_ev i0 (e _ _ hc) T.k_Both T.a_Both__one (pairF_one p q')
      have two : ∀ {σ : L2.St} {H'} (_ : Ex H H') (_ : σ[0]? = some (some (.ref a))), Ev (tFld K (tVar 0) "_other") σ H' (.ref q') := fun e i0 => tFld_ev i0 (e _ _ hc) T.k_Both T.a_Both__other (pairF_other p q')
      have hdl : l.depth ≤ 1 := by
        simp only [Pt.depth] at hd
        omega
      have hdr : r.depth ≤ 1 := by
        simp only [Pt.depth] at hd
        omega
      have hll : l.leaves ≤ 3 := by
        have := r.leaves_pos
        simp only [Pt.leaves] at h3
        omega
      have hlr : r.leaves ≤ 3 := by
        have := l.leaves_pos
        simp only [Pt.leaves] at h3
        omega
      have tl1 := text_len hl
      have tl2 := text_len hr'
      have e0 : ∀ z : Str, Str.empty ++ z = z := fun z => by
        cases z with
        | mk a => show (⟨#[] ++ a⟩ : Str) = ⟨a⟩; simp
      have a1 : ∀ a b : Str, (a ++ b).length = a.length + b.length := app_len
      have k1 : ("(" : Str).length = 1 := by decide +kernel
      have k2 : (")" : Str).length = 1 := by decide +kernel
      have k3 : (" & " : Str).length = 3 := by decide +kernel
      refine ⟨_, rfl, sz_of (by rw [e0, k1]; omega), v_fmt (one (Ex.refl _) rfl) hl hdl hll H (Ex.refl _) _ fun H1 e1 => ⟨_, rfl, sz_of (by rw [e0, a1, k1]; omega), _, rfl, sz_of (by rw [e0, a1, a1, k1, k3]; omega), v_fmt (two e1 rfl) (hr'.ex e1) hdr hlr H1 (Ex.refl _) _ fun H2 e2 => ⟨_, rfl, sz_of (by rw [e0, a1, a1, a1, k1, k3]; omega), _, rfl, sz_of (by rw [e0, a1, a1, a1, a1, k1, k2, k3]; omega), ?_⟩⟩⟩
      rw [e0]
      exact q H2 (e1.trans e2)
theorem ok_Either_forms__v2 {f : Addr} {fd : FuncData} (F : Fun K "forms" "Either.forms" s_Either_forms f fd) (T : Txt K mg a_OPEN_PARTS C_Both C_Either C_Form) (D_Form_forms : DfM P w K mg base C_Form "forms" ["self"] 1 (spForms C_Form C_Both C_Either none 0)) (D_Both_forms__v1 : DfM P w K mg base C_Both "forms" ["self"] 2 (spForms C_Form C_Both C_Either (some true) 1)) (D_Either_forms__v1 : DfM P w K mg base C_Either "forms" ["self"] 2 (spForms C_Form C_Both C_Either (some false) 1)) : FnOk P w K mg base CX0 3 f fd ["self"] (spForms C_Form C_Both C_Either (some false) 2) := by
  refine F.ok sc_Either_forms (fun vs H Q E h => ?_) (fun cdv A outer s0 H vs Q E hr h => ?_)
  · obtain ⟨a, t, rfl, _⟩ := h
    rfl
  · obtain ⟨a, t, rfl, ⟨hP, hk, hd⟩, h3, q⟩ := h
    refine ⟨_, (pss_one (ps_ret (pe_op op_cat (pe_alt (pe_mth0 T.k_Form D_Form_forms (hr.mono (by decide)) (pe_fld (pv 0) rfl))
        (pe_alt (pe_mth0 T.k_Both D_Both_forms__v1 (hr.mono (by decide)) (pe_fld (pv 0) rfl))
        (pe_mth0 T.k_Either D_Either_forms__v1 (hr.mono (by decide)) (pe_fld (pv 0) rfl)))) (pe_alt (pe_mth0 T.k_Form D_Form_forms (hr.mono (by decide)) (pe_fld (pv 0) rfl))
        (pe_alt (pe_mth0 T.k_Both D_Both_forms__v1 (hr.mono (by decide)) (pe_fld (pv 0) rfl))
        (pe_mth0 T.k_Either D_Either_forms__v1 (hr.mono (by decide)) (pe_fld (pv 0) rfl))))))), ?_⟩
    cases hP with
    | f _ => cases hk
    | @n and l r a dx p q' ha hl hr' =>
      cases hk
      have hc : H a = some (.ins C_Either dx (pairF p q')) := ha
      have one : ∀ {σ : L2.St} {H'} (_ : Ex H H') (_ : σ[0]? = some (some (.ref a))), Ev (tFld K (tVar 0) "_one") σ H' (.ref p) := fun e i0 => tFld_ev i0 (e _ _ hc) T.k_Either T.a_Either__one (pairF_one p q')
      have two : ∀ {σ : L2.St} {H'} (_ : Ex H H') (_ : σ[0]? = some (some (.ref a))), Ev (tFld K (tVar 0) "_other") σ H' (.ref q') := fun e i0 => tFld_ev i0 (e _ _ hc) T.k_Either T.a_Either__other (pairF_other p q')
      have hdl : l.depth ≤ 1 := by
        simp only [Pt.depth] at hd
        omega
      have hdr : r.depth ≤ 1 := by
        simp only [Pt.depth] at hd
        omega
      have hll : l.leaves ≤ 3 := by
        have := r.leaves_pos
        simp only [Pt.leaves] at h3
        omega
      have hlr : r.leaves ≤ 3 := by
        have := l.leaves_pos
        simp only [Pt.leaves] at h3
        omega
      have n1 := Pt.forms_len l
      have n2 := Pt.forms_len r
      exact ers_cat upF (v_forms (one (Ex.refl _) rfl) hl hdl hll) (v_forms (two (Ex.refl _) rfl) hr' hdr hlr) (by omega) H (Ex.refl _) _ q
theorem ok_Either_holds__v2 {f : Addr} {fd : FuncData} (F : Fun K "holds" "Either.holds" s_Either_holds f fd) (T : Txt K mg a_OPEN_PARTS C_Both C_Either C_Form) (D_Form_forms : DfM P w K mg base C_Form "forms" ["self"] 1 (spForms C_Form C_Both C_Either none 0)) (D_Both_forms__v1 : DfM P w K mg base C_Both "forms" ["self"] 2 (spForms C_Form C_Both C_Either (some true) 1)) (D_Either_forms__v1 : DfM P w K mg base C_Either "forms" ["self"] 2 (spForms C_Form C_Both C_Either (some false) 1)) (D_Form_holds : DfM P w K mg base C_Form "holds" ["self", "truths"] 1 (spHolds K C_Form C_Both C_Either none 0)) (D_Both_holds__v1 : DfM P w K mg base C_Both "holds" ["self", "truths"] 2 (spHolds K C_Form C_Both C_Either (some true) 1)) (D_Either_holds__v1 : DfM P w K mg base C_Either "holds" ["self", "truths"] 2 (spHolds K C_Form C_Both C_Either (some false) 1)) : FnOk P w K mg base CX0 3 f fd ["self", "truths"] (spHolds K C_Form C_Both C_Either (some false) 2) := by
  refine F.ok sc_Either_holds (fun vs H Q E h => ?_) (fun cdv A outer s0 H vs Q E hr h => ?_)
  · obtain ⟨a, b, t, ts, rfl, _⟩ := h
    rfl
  · obtain ⟨a, b, t, ts, rfl, ⟨hP, hk, hd⟩, hB, hn, h3, q⟩ := h
    refine ⟨_, (pss_cons (ps_set (i := 2) sc_Either_holds.nd rfl (Or.inl rfl) (pe_callB call_len_seq (by rfl) T.n_len PySem.boot_len (pa_cons (pe_alt (pe_mth0 T.k_Form D_Form_forms (hr.mono (by decide)) (pe_fld (pv 0) rfl))
        (pe_alt (pe_mth0 T.k_Both D_Both_forms__v1 (hr.mono (by decide)) (pe_fld (pv 0) rfl))
        (pe_mth0 T.k_Either D_Either_forms__v1 (hr.mono (by decide)) (pe_fld (pv 0) rfl)))) pa_nil)))
      (pss_one (ps_ret (pe_or (pe_alt (pe_mth T.k_Form D_Form_holds (hr.mono (by decide)) (pe_fld (pv 0) rfl) (pa_cons (pe_slice sl_list (pv 1) po_none (po_some (pv 2))) pa_nil))
        (pe_alt (pe_mth T.k_Both D_Both_holds__v1 (hr.mono (by decide)) (pe_fld (pv 0) rfl) (pa_cons (pe_slice sl_list (pv 1) po_none (po_some (pv 2))) pa_nil))
        (pe_mth T.k_Either D_Either_holds__v1 (hr.mono (by decide)) (pe_fld (pv 0) rfl) (pa_cons (pe_slice sl_list (pv 1) po_none (po_some (pv 2))) pa_nil)))) (pe_one (pe_alt (pe_mth T.k_Form D_Form_holds (hr.mono (by decide)) (pe_fld (pv 0) rfl) (pa_cons (pe_slice sl_list (pv 1) (po_some (pv 2)) po_none) pa_nil))
        (pe_alt (pe_mth T.k_Both D_Both_holds__v1 (hr.mono (by decide)) (pe_fld (pv 0) rfl) (pa_cons (pe_slice sl_list (pv 1) (po_some (pv 2)) po_none) pa_nil))
        (pe_mth T.k_Either D_Either_holds__v1 (hr.mono (by decide)) (pe_fld (pv 0) rfl) (pa_cons (pe_slice sl_list (pv 1) (po_some (pv 2)) po_none) pa_nil))))))))), ?_⟩
    cases hP with
    | f _ => cases hk
    | @n and l r a dx p q' ha hl hr' =>
      cases hk
      have hc : H a = some (.ins C_Either dx (pairF p q')) := ha
      have one : ∀ {σ : L2.St} {H'} (_ : Ex H H') (_ : σ[0]? = some (some (.ref a))), Ev (tFld K (tVar 0) "_one") σ H' (.ref p) := fun e i0 => tFld_ev i0 (e _ _ hc) T.k_Either T.a_Either__one (pairF_one p q')
      have two : ∀ {σ : L2.St} {H'} (_ : Ex H H') (_ : σ[0]? = some (some (.ref a))), Ev (tFld K (tVar 0) "_other") σ H' (.ref q') := fun e i0 => tFld_ev i0 (e _ _ hc) T.k_Either T.a_Either__other (pairF_other p q')
      have hdl : l.depth ≤ 1 := by
        simp only [Pt.depth] at hd
        omega
      have hdr : r.depth ≤ 1 := by
        simp only [Pt.depth] at hd
        omega
      have hll : l.leaves ≤ 3 := by
        have := r.leaves_pos
        simp only [Pt.leaves] at h3
        omega
      have hlr : r.leaves ≤ 3 := by
        have := l.leaves_pos
        simp only [Pt.leaves] at h3
        omega
      have n1 := Pt.forms_len l
      simp only [Pt.leaves] at hn
      refine q_asg (ev_lenN (v_forms (one (Ex.refl _) rfl) hl hdl hll)) fun H1 e1 => ?_
      rw [n1]
      have s1 : EvL (tSl (rSlL K) (tVar 1) tNoPart (tPart (tVar 2))) [some (.ref a), some (.ref b), some (.int ((Pt.leaves l : Nat) : Int))] H1 ((ts.take (Pt.leaves l)).map V.bl) := by
        have e := el_sl (K := K) (σ := [some (.ref a), some (.ref b), some (.int ((Pt.leaves l : Nat) : Int))]) (te := tVar 1) (tl := tNoPart) (th := tPart (tVar 2)) (ev_var rfl) eo_none (eo_some (ev_var rfl)) (ex_l e1 hB)
        rw [cutV_lt, ← List.map_take] at e
        exact e
      have s2 : EvL (tSl (rSlL K) (tVar 1) (tPart (tVar 2)) tNoPart) [some (.ref a), some (.ref b), some (.int ((Pt.leaves l : Nat) : Int))] H1 ((ts.drop (Pt.leaves l)).map V.bl) := by
        have e := el_sl (K := K) (σ := [some (.ref a), some (.ref b), some (.int ((Pt.leaves l : Nat) : Int))]) (te := tVar 1) (tl := tPart (tVar 2)) (th := tNoPart) (ev_var rfl) (eo_some (ev_var rfl)) eo_none (ex_l e1 hB)
        rw [cutV_ge, ← List.map_drop] at e
        exact e
      refine s_ret (v := .bl (Pt.holds l (ts.take (Pt.leaves l)) || Pt.holds r (ts.drop (Pt.leaves l)))) (ev_orV (v_holds (one e1 rfl) (hl.ex e1) hdl hll s1 (by rw [List.length_take]; simp only [Pt.leaves] at *; omega)) fun _ => v_holds (two e1 rfl) (hr'.ex e1) hdr hlr s2 (by rw [List.length_drop]; simp only [Pt.leaves] at *; omega)) fun H2 e2 => q H2 (e1.trans e2)
theorem ok_Either___contains____v2 {f : Addr} {fd : FuncData} (F : Fun K "__contains__" "Either.__contains__" s_Either___contains__ f fd) (T : Txt K mg a_OPEN_PARTS C_Both C_Either C_Form) (D_Form___contains__ : DfC P w K mg base C_Form "__contains__" ["self", "line"] 3 (spIn C_Form)) (D_Both___contains____v1 : DfC P w K mg base C_Both "__contains__" ["self", "line"] 4 (spInP C_Form C_Both C_Either (some true) 1)) (D_Either___contains____v1 : DfC P w K mg base C_Either "__contains__" ["self", "line"] 4 (spInP C_Form C_Both C_Either (some false) 1)) : FnOk P w K mg base CX0 5 f fd ["self", "line"] (spInP C_Form C_Both C_Either (some false) 2) := by
  refine F.ok sc_Either___contains__ (fun vs H Q E h => ?_) (fun cdv A outer s0 H vs Q E hr h => ?_)
  · obtain ⟨a, t, z, rfl, _⟩ := h
    rfl
  · obtain ⟨a, t, z, rfl, ⟨hP, hk, hd⟩, hz, q⟩ := h
    refine ⟨_, (pss_one (ps_ret (pe_or (pe_alt (pe_cmpR (op_in_df D_Form___contains__ (hr.mono (by decide))) (pv 1) (pe_fld (pv 0) rfl) (by rfl))
        (pe_alt (pe_cmpR (op_in_df D_Both___contains____v1 (hr.mono (by decide))) (pv 1) (pe_fld (pv 0) rfl) (by rfl))
        (pe_cmpR (op_in_df D_Either___contains____v1 (hr.mono (by decide))) (pv 1) (pe_fld (pv 0) rfl) (by rfl)))) (pe_one (pe_alt (pe_cmpR (op_in_df D_Form___contains__ (hr.mono (by decide))) (pv 1) (pe_fld (pv 0) rfl) (by rfl))
        (pe_alt (pe_cmpR (op_in_df D_Both___contains____v1 (hr.mono (by decide))) (pv 1) (pe_fld (pv 0) rfl) (by rfl))
        (pe_cmpR (op_in_df D_Either___contains____v1 (hr.mono (by decide))) (pv 1) (pe_fld (pv 0) rfl) (by rfl)))))))), ?_⟩
    cases hP with
    | f _ => cases hk
    | @n and l r a dx p q' ha hl hr' =>
      cases hk
      have hc : H a = some (.ins C_Either dx (pairF p q')) := ha
      have one : ∀ {σ : L2.St} {H'} (_ : Ex H H') (_ : σ[0]? = some (some (.ref a))), Ev (tFld K (tVar 0) "_one") σ H' (.ref p) := fun e i0 => tFld_ev i0 (e _ _ hc) T.k_Either T.a_Either__one (pairF_one p q')
      have two : ∀ {σ : L2.St} {H'} (_ : Ex H H') (_ : σ[0]? = some (some (.ref a))), Ev (tFld K (tVar 0) "_other") σ H' (.ref q') := fun e i0 => tFld_ev i0 (e _ _ hc) T.k_Either T.a_Either__other (pairF_other p q')
      have hdl : l.depth ≤ 1 := by
        simp only [Pt.depth] at hd
        omega
      have hdr : r.depth ≤ 1 := by
        simp only [Pt.depth] at hd
        omega
      exact s_ret (v := .bl (Pt.in_ l z || Pt.in_ r z)) (ev_orV (v_in (ev_var rfl) (one (Ex.refl _) rfl) hl hdl hz) fun _ => (v_in (ev_var rfl) (two (Ex.refl _) rfl) hr' hdr hz)) fun H2 e2 => q H2 e2
theorem ok_Either___str____v2 {f : Addr} {fd : FuncData} (F : Fun K "__str__" "Either.__str__" s_Either___str__ f fd) (T : Txt K mg a_OPEN_PARTS C_Both C_Either C_Form) (D_Form___str__ : DfSt P w K mg base C_Form ["self"] 1 (spStrP C_Form C_Both C_Either none 0)) (D_Both___str____v1 : DfSt P w K mg base C_Both ["self"] 3 (spStrP C_Form C_Both C_Either (some true) 1)) (D_Either___str____v1 : DfSt P w K mg base C_Either ["self"] 3 (spStrP C_Form C_Both C_Either (some false) 1)) : FnOk P w K mg base CX0 5 f fd ["self"] (spStrP C_Form C_Both C_Either (some false) 2) := by
  refine F.ok sc_Either___str__ (fun vs H Q E h => ?_) (fun cdv A outer s0 H vs Q E hr h => ?_)
  · obtain ⟨a, t, rfl, _⟩ := h
    rfl
  · obtain ⟨a, t, rfl, ⟨hP, hk, hd⟩, h3, q⟩ := h
    refine ⟨_, (pss_one (ps_ret (pe_joined (.cons pe_str (.cons (pe_alt (pe_fmt_df D_Form___str__ (hr.mono (by decide)) (pe_fld (pv 0) rfl))
        (pe_alt (pe_fmt_df D_Both___str____v1 (hr.mono (by decide)) (pe_fld (pv 0) rfl))
        (pe_fmt_df D_Either___str____v1 (hr.mono (by decide)) (pe_fld (pv 0) rfl)))) (.cons pe_str (.cons (pe_alt (pe_fmt_df D_Form___str__ (hr.mono (by decide)) (pe_fld (pv 0) rfl))
        (pe_alt (pe_fmt_df D_Both___str____v1 (hr.mono (by decide)) (pe_fld (pv 0) rfl))
        (pe_fmt_df D_Either___str____v1 (hr.mono (by decide)) (pe_fld (pv 0) rfl)))) (.cons pe_str .nil)))))))), ?_⟩
    cases hP with
    | f _ => cases hk
    | @n and l r a dx p q' ha hl hr' =>
      cases hk
      have hc : H a = some (.ins C_Either dx (pairF p q')) := ha
      have one : ∀ {σ : L2.St} {H'} (_ : Ex H H') (_ : σ[0]? = some (some (.ref a))), Ev (tFld K (tVar 0) "_one") σ H' (.ref p) := fun e i0 => tFld_ev i0 (e _ _ hc) T.k_Either T.a_Either__one (pairF_one p q')
      have two : ∀ {σ : L2.St} {H'} (_ : Ex H H') (_ : σ[0]? = some (some (.ref a))), Ev (tFld K (tVar 0) "_other") σ H' (.ref q') := fun e i0 => tFld_ev i0 (e _ _ hc) T.k_Either T.a_Either__other (pairF_other p q')
      have hdl : l.depth ≤ 1 := by
        simp only [Pt.depth] at hd
        omega
      have hdr : r.depth ≤ 1 := by
        simp only [Pt.depth] at hd
        omega
      have hll : l.leaves ≤ 3 := by
        have := r.leaves_pos
        simp only [Pt.leaves] at h3
        omega
      have hlr : r.leaves ≤ 3 := by
        have := l.leaves_pos
        simp only [Pt.leaves] at h3
        omega
      have tl1 := text_len hl
      have tl2 := text_len hr'
      have e0 : ∀ z : Str, Str.empty ++ z = z := fun z => by
        cases z with
        | mk a => show (⟨#[] ++ a⟩ : Str) = ⟨a⟩; simp
      have a1 : ∀ a b : Str, (a ++ b).length = a.length + b.length := app_len
      have k1 : ("(" : Str).length = 1 := by decide +kernel
      have k2 : (")" : Str).length = 1 := by decide +kernel
      have k3 : (" | " : Str).length = 3 := by decide +kernel
      refine ⟨_, rfl, sz_of (by rw [e0, k1]; omega), v_fmt (one (Ex.refl _) rfl) hl hdl hll H (Ex.refl _) _ fun H1 e1 => ⟨_, rfl, sz_of (by rw [e0, a1, k1]; omega), _, rfl, sz_of (by rw [e0, a1, a1, k1, k3]; omega), v_fmt (two e1 rfl) (hr'.ex e1) hdr hlr H1 (Ex.refl _) _ fun H2 e2 => ⟨_, rfl, sz_of (by rw [e0, a1, a1, a1, k1, k3]; omega), _, rfl, sz_of (by rw [e0, a1, a1, a1, a1, k1, k2, k3]; omega), ?_⟩⟩⟩
      rw [e0]
      exact q H2 (e1.trans e2)

/-! ### lists of patterns: what they hold -/
def PatR (CF CB CE : Addr) (d : Nat) (t : Pt) (p : Addr) (H : Hp) : Prop := PatAt CF CB CE H t p ∧ t.depth ≤ d ∧ t.leaves ≤ 3
theorem upP {CF CB CE : Addr} {d : Nat} : Up (PatR CF CB CE d) := fun _ _ _ _ e h => ⟨h.1.ex e, h.2⟩
/-! a list's pattern asked, of any class -/
section
variable {CF CB CE : Addr} {σ : L2.St} {G : Hp} {te tl : TE} {t : Pt} {p : Addr}
theorem g_forms (h : Ev te σ G (.ref p)) (hP : PatR CF CB CE 2 t p G) : EvRs (tAlt (tMeth CF "forms" (spForms CF CB CE none 0) [] E0 te tNil) (tAlt (tMeth CB "forms" (spForms CF CB CE (some true) 2) [] E0 te tNil) (tMeth CE "forms" (spForms CF CB CE (some false) 2) [] E0 te tNil))) σ G (FormR CF) t.forms := v_forms h hP.1 hP.2.1 hP.2.2
theorem g_holds {ts : List Bool} (h : Ev te σ G (.ref p)) (hP : PatR CF CB CE 2 t p G) (hl : EvL tl σ G (ts.map V.bl)) (hn : ts.length = t.leaves) :
    Ev (tAlt (tMeth CF "holds" (spHolds K CF CB CE none 0) [] E0 te (tCons tl tNil)) (tAlt (tMeth CB "holds" (spHolds K CF CB CE (some true) 2) [] E0 te (tCons tl tNil)) (tMeth CE "holds" (spHolds K CF CB CE (some false) 2) [] E0 te (tCons tl tNil)))) σ G (.bl (t.holds ts)) := v_holds h hP.1 hP.2.1 hP.2.2 hl hn
end

def lvs (ts : List Pt) : Nat := (ts.map Pt.leaves).sum
def heldM : List Pt → List Bool → List Bool
  | [], _ => []
  | t :: ts, bs => t.holds (bs.take t.leaves) :: heldM ts (bs.drop t.leaves)
theorem heldM_len : ∀ (ts : List Pt) (bs : List Bool), (heldM ts bs).length = ts.length
  | [], _ => rfl
  | t :: ts, bs => by
    show (heldM ts _).length + 1 = ts.length + 1
    rw [heldM_len ts]
theorem lvs_cons (t : Pt) (ts : List Pt) : lvs (t :: ts) = t.leaves + lvs ts := rfl
theorem lvs_app (a b : List Pt) : lvs (a ++ b) = lvs a + lvs b := by
  unfold lvs
  rw [List.map_append, List.sum_append]
theorem heldM_app (b : List Pt) : ∀ (a : List Pt) (bs : List Bool), heldM (a ++ b) bs = heldM a bs ++ heldM b (bs.drop (lvs a))
  | [], bs => by
    show heldM b bs = [] ++ heldM b (bs.drop 0)
    rfl
  | t :: a, bs => by
    show _ :: heldM (a ++ b) _ = (_ :: heldM a _) ++ _
    rw [heldM_app b a, List.drop_drop, lvs_cons]
    rfl
theorem heldM_take : ∀ (a : List Pt) (bs : List Bool), heldM a (bs.take (lvs a)) = heldM a bs
  | [], _ => rfl
  | t :: a, bs => by
    show _ :: heldM a _ = _ :: heldM a _
    rw [lvs_cons, List.take_take, Nat.min_eq_left (Nat.le_add_right _ _), List.drop_take, Nat.add_sub_cancel_left, heldM_take a]
def spHeld (K : PySem.W.Frag) (CF CB CE : Addr) (d : Nat) : Sp := fun vs H Q _ => ∃ (a b : Addr) (us : List V) (ts : List Pt) (bs : List Bool), vs = [.ref a, .ref b] ∧ SqL K H a us ∧ Rs (PatR CF CB CE d) H us ts ∧ SqL K H b (bs.map V.bl) ∧ lvs ts ≤ bs.length ∧ ts.length ≤ 1000 ∧
  RetL ((heldM ts bs).map V.bl) H Q
theorem lvs_take {ts : List Pt} {i : Nat} {t : Pt} (h : ts[i]? = some t) : ts.take (i + 1) = ts.take i ++ [t] ∧ lvs (ts.take i) + t.leaves ≤ lvs ts := by
  have e : ts.take (i + 1) = ts.take i ++ [t] := by
    rw [List.take_add_one, h]
    rfl
  refine ⟨e, ?_⟩
  have e2 : lvs ts = lvs (ts.take (i + 1)) + lvs (ts.drop (i + 1)) := by rw [← lvs_app, List.take_append_drop]
  rw [e2, e, lvs_app]
  show lvs (ts.take i) + t.leaves ≤ lvs (ts.take i) + (t.leaves + 0) + _
  omega
theorem ok__held {f : Addr} {fd : FuncData} (F : Fun K "_held" "_held" s__held f fd) (T : Txt K mg a_OPEN_PARTS C_Both C_Either C_Form) (D_Form_forms : DfM P w K mg base C_Form "forms" ["self"] 1 (spForms C_Form C_Both C_Either none 0)) (D_Both_forms__v2 : DfM P w K mg base C_Both "forms" ["self"] 3 (spForms C_Form C_Both C_Either (some true) 2)) (D_Either_forms__v2 : DfM P w K mg base C_Either "forms" ["self"] 3 (spForms C_Form C_Both C_Either (some false) 2)) (D_Form_holds : DfM P w K mg base C_Form "holds" ["self", "truths"] 1 (spHolds K C_Form C_Both C_Either none 0)) (D_Both_holds__v2 : DfM P w K mg base C_Both "holds" ["self", "truths"] 3 (spHolds K C_Form C_Both C_Either (some true) 2)) (D_Either_holds__v2 : DfM P w K mg base C_Either "holds" ["self", "truths"] 3 (spHolds K C_Form C_Both C_Either (some false) 2)) :
    FnOk P w K mg base CX0 4 f fd ["patterns", "told"] (spHeld K C_Form C_Both C_Either 2) := by
  refine F.ok sc__held (fun vs H Q E h => ?_) (fun cdv A outer s0 H vs Q E hr h => ?_)
  · obtain ⟨a, b, us, ts, bs, rfl, _⟩ := h
    rfl
  · obtain ⟨a, b, us, ts, bs, rfl, hA, hR, hB, hl, h100, q⟩ := h
    refine ⟨_, (pss_cons (ps_set (i := 2) sc__held.nd rfl (Or.inl rfl) (pe_lst pa_nil))
      (pss_cons (ps_set (i := 3) sc__held.nd rfl (Or.inl rfl) pe_int)
      (pss_cons (ps_for PassesOwn.never rfl (pi_list (pv 0)) (pg_name (i := 4) sc__held.nd rfl (Or.inl rfl))
      (pss_cons (ps_set (i := 5) sc__held.nd rfl (Or.inl rfl) (pe_callB call_len_seq (by rfl) T.n_len PySem.boot_len (pa_cons (pe_alt (pe_mth0 T.k_Form D_Form_forms (hr.mono (by decide)) (pv 4))
        (pe_alt (pe_mth0 T.k_Both D_Both_forms__v2 (hr.mono (by decide)) (pv 4))
        (pe_mth0 T.k_Either D_Either_forms__v2 (hr.mono (by decide)) (pv 4)))) pa_nil)))
      (pss_cons (ps_expr (pe_bm PySem.F.plainAttrs_list PySem.F.slot_list_append PySem.F.type_list_append mt_append (pv 2) (pa_cons (pe_alt (pe_mth T.k_Form D_Form_holds (hr.mono (by decide)) (pv 4) (pa_cons (pe_slice sl_list (pv 1) (po_some (pv 3)) (po_some (pe_op op_add (pv 3) (pv 5)))) pa_nil))
        (pe_alt (pe_mth T.k_Both D_Both_holds__v2 (hr.mono (by decide)) (pv 4) (pa_cons (pe_slice sl_list (pv 1) (po_some (pv 3)) (po_some (pe_op op_add (pv 3) (pv 5)))) pa_nil))
        (pe_mth T.k_Either D_Either_holds__v2 (hr.mono (by decide)) (pv 4) (pa_cons (pe_slice sl_list (pv 1) (po_some (pv 3)) (po_some (pe_op op_add (pv 3) (pv 5)))) pa_nil)))) pa_nil)))
      (pss_one (ps_set (i := 3) sc__held.nd rfl (Or.inl rfl) (pe_op op_add (pv 3) (pv 5)))))))
      (pss_one (ps_ret (pv 2)))))), ?_⟩
    have lu := hR.len
    refine q_asgL (el_lst ea_nil (Nat.zero_le _)) fun l H1 hl0 e1 h1 => ?_
    refine q_asg ev_c fun H2 e2 => ?_
    refine q_forL (ev_var rfl) (ex_l (e1.trans e2) hA)
      (fun i σ' H' => ∃ (y z : Option V), σ' = [some (.ref a), some (.ref b), some (.ref l), some (.int (lvs (ts.take i) : Int)), y, z] ∧ Ex H H' ∧ H' l = some (.lst ((heldM (ts.take i) bs).map V.bl)))
      (fun H3 e3 => ⟨none, none, rfl, (e1.trans e2).trans e3, e3 _ _ (e2 _ _ h1)⟩) (fun i σ' H' _ pv => ?_) ?_ ?_
    · obtain ⟨y, z, _, e, _⟩ := pv
      exact ex_l e hA
    · rintro i x σ' H3 hx ⟨y, z, rfl, e3, h3⟩
      obtain ⟨p, t, rfl, ht, hP⟩ := hR.get hx
      obtain ⟨et, ht2⟩ := lvs_take ht
      have hi : i < ts.length := (List.getElem?_eq_some_iff.mp ht).1
      show tSeq (tAsg (tCB _ (tCons _ tNil)) (gName 5)) _ _ _ _
      refine q_asg (ev_lenN (g_forms (ev_var rfl) (upP _ _ _ _ e3 hP))) fun H4 e4 => ?_
      have hlen : t.forms.length = t.leaves := t.forms_len
      rw [hlen]
      have eb := ex_l (e3.trans e4) hB
      refine q_app (l := l) (xs := (heldM (ts.take i) bs).map V.bl) (e4 _ _ h3) (ev_var rfl) (g_holds (ts := (bs.drop (lvs (ts.take i))).take t.leaves) (ev_var rfl) (upP _ _ _ _ (e3.trans e4) hP) ?_ ?_) ?_ fun H5 e5 => ?_
      · have hs : EvL (tSl (rSlL K) (tVar 1) (tPart (tVar 3)) (tPart (tOp (rI0 fun i j => .int (i + j)) (tVar 3) (tVar 5)))) [some (.ref a), some (.ref b), some (.ref l), some (.int (lvs (ts.take i) : Int)), some (.ref p), some (.int (t.leaves : Int))] H4 (cutV (bs.map V.bl) (some (lvs (ts.take i) : Int)) (some ((lvs (ts.take i) : Int) + (t.leaves : Int)))) :=
          el_sl (ev_var rfl) (eo_some (ev_var rfl)) (eo_some (ev_op (ev_var rfl) (ev_var rfl) rv_I0)) eb
        have ec : cutV (bs.map V.bl) (some (lvs (ts.take i) : Int)) (some ((lvs (ts.take i) : Int) + (t.leaves : Int))) = ((bs.drop (lvs (ts.take i))).take t.leaves).map V.bl := by
          rw [← Int.natCast_add, cutV_in, Nat.add_sub_cancel_left, List.map_take, List.map_drop]
        rw [ec] at hs
        exact hs
      · rw [List.length_take, List.length_drop]
        omega
      · rw [List.length_map, heldM_len, List.length_take]
        omega
      · refine s_asg (ev_op (ev_var rfl) (ev_var rfl) rv_I0) fun H6 e6 => ?_
        refine ⟨some (.ref p), some (.int (t.leaves : Int)), ?_, (Ex.mut ((e3.trans e4).trans e5) hl0).trans e6, ?_⟩
        · have : ((lvs (ts.take (i + 1)) : Nat) : Int) = (lvs (ts.take i) : Int) + (t.leaves : Int) := by
            rw [et, lvs_app]
            show ((lvs (ts.take i) + (t.leaves + 0) : Nat) : Int) = _
            rw [Nat.add_zero, Int.natCast_add]
          rw [this]
          rfl
        · refine e6 _ _ ?_
          rw [upd_same, et, heldM_app, List.map_append]
          rfl
    · rintro σ' H3 ⟨y, z, rfl, e3, h3⟩
      rw [lu, List.take_length] at h3
      exact s_ret (ev_var rfl) fun H4 e4 => q l H4 hl0 (e3.trans e4) (e4 _ _ h3)
/-! truths of a list of states; may they hold yet -/
def spTruthsL (K : PySem.W.Frag) (C : Addr) : Sp := fun vs H Q _ => ∃ (a b : Addr) (us ws : List V) (pss : List (List Str)) (t : List Nat), vs = [.ref a, .ref b] ∧ SqL K H a us ∧ Rs (FormR C) H us pss ∧ us.length ≤ 1000 ∧ SqL K H b ws ∧ Rs TupN H ws (pss.map (stM t)) ∧ RetL (pss.map fun ps => V.bl (doneM t ps)) H Q
theorem ok_truths {f : Addr} {fd : FuncData} (F : Fun K "truths" "truths" s_truths f fd) (T : Txt K mg a_OPEN_PARTS C_Both C_Either C_Form) (D_cells_of__t : Df P w K mg base "cells_of" ["parts"] 1 (spCellsT K)) (D_is_done : Df P w K mg base "is_done" ["cells", "positions"] 1 (spIsDone K))
    (D_Form_parts : DfM P w K mg base C_Form "parts" ["self"] 1 (spParts C_Form)) : FnOk P w K mg base CX0 2 f fd ["forms", "state"] (spTruthsL K C_Form) := by
  refine F.ok sc_truths (fun vs H Q E h => ?_) (fun cdv A outer s0 H vs Q E hr h => ?_)
  · obtain ⟨a, b, us, ws, pss, t, rfl, _⟩ := h
    rfl
  · obtain ⟨a, b, us, ws, pss, t, rfl, hA, hr0, hn, hB, hr1, q⟩ := h
    refine ⟨_, (pss_one (ps_ret (pe_lc (own := [("form", 2), ("positions", 3)]) (g := gTup K 2 (gCons (gName 2) (gCons (gName 3) gNil))) rfl sc_truths.nd (pi_zip (by rfl) T.n_zip (pa_cons (pv 0) (pa_cons (pv 1) pa_nil))) (blkOk_by (own := [("form", 2), ("positions", 3)]) (N := ["forms", "state", "form", "positions"]) (sc := defScope s_truths) (by decide +kernel)) (fun _ _ _ _ _ => pg_tup rfl (pgs_cons (pg_name (i := 2) sc_truths.nd rfl (Or.inl rfl)) (pgs_cons (pg_name (i := 3) sc_truths.nd rfl (Or.inl rfl)) pgs_nil))) (fun _ _ _ _ _ => pts_nil) (fun _ _ _ _ _ => (pe_df (k := 1) D_is_done (hr.mono (j := 1) (by decide)) (by rfl) (pa_cons (pe_df (k := 1) D_cells_of__t (hr.mono (j := 1) (by decide)) (by rfl) (pa_cons (pe_mth0 (k := 1) T.k_Form D_Form_parts (hr.mono (j := 1) (by decide)) (pv 2)) pa_nil)) (pa_cons (pv 3) pa_nil))))))), ?_⟩
    have l0 := hr0.len
    have l1 := hr1.len
    rw [List.length_map] at l1
    refine elv_zipL (xs := pss.map fun ps => V.bl (doneM t ps)) (ea_cons (ev_var rfl) (ea_cons (ev_var rfl) ea_nil)) hA hB (by omega) (by rw [List.length_map]; omega) (by omega) (fun _ _ => rfl) (fun i u v y H1 e1 hu hv hy => ?_) H (Ex.refl _) _ q
    obtain ⟨p, ps, rfl, hps, hF⟩ := hr0.get hu
    obtain ⟨p2, ns, rfl, hns, hN⟩ := hr1.get hv
    rw [List.getElem?_map, hps] at hy hns
    cases hy
    cases hns
    exact ev_done (el_cells (etp_parts rfl (hF.1.ex e1)) hF.2.1 hF.2.2.2) rfl (e1 _ _ hN)
/-- whether a form may still come -/
def liveM (t : List Nat) (ps : List Str) : Bool := decide ((0 : Int) < ((stM t ps).length : Int))
def spMay (K : PySem.W.Frag) (CF CB CE : Addr) (d : Nat) : Sp := fun vs H Q _ => ∃ (a b : Addr) (us ws : List V) (ts : List Pt) (nss : List (List Nat)), vs = [.ref a, .ref b] ∧ SqL K H a us ∧ Rs (PatR CF CB CE d) H us ts ∧ SqL K H b ws ∧ Rs TupN H ws nss ∧ lvs ts ≤ nss.length ∧ nss.length ≤ 10000 ∧ ts.length ≤ 1000 ∧
  RetV (.bl ((heldM ts (nss.map fun ns => decide ((0 : Int) < (ns.length : Int)))).all id)) H Q
theorem ev_lenT {σ : L2.St} {H : Hp} {ta : TE} {p : Addr} {xs : List V} (ha : Ev ta σ H (.ref p)) (h : SqT K H p xs) : Ev (tCB (rLenS K) (tCons ta tNil)) σ H (.int (xs.length : Int)) := fun H1 e Q q =>
  ha H1 e _ fun H2 e2 => ⟨p, xs, rfl, .inr (ex_t (e.trans e2) h), q H2 e2⟩
theorem ok__may_hold {f : Addr} {fd : FuncData} (F : Fun K "_may_hold" "_may_hold" s__may_hold f fd) (T : Txt K mg a_OPEN_PARTS C_Both C_Either C_Form) (D__held : Df P w K mg base "_held" ["patterns", "told"] 4 (spHeld K C_Form C_Both C_Either 2)) :
    FnOk P w K mg base CX0 5 f fd ["goals", "state"] (spMay K C_Form C_Both C_Either 2) := by
  refine F.ok sc__may_hold (fun vs H Q E h => ?_) (fun cdv A outer s0 H vs Q E hr h => ?_)
  · obtain ⟨a, b, us, ws, ts, nss, rfl, _⟩ := h
    rfl
  · obtain ⟨a, b, us, ws, ts, nss, rfl, hA, hR, hB, hN, hl, h1, h2, q⟩ := h
    refine ⟨_, (pss_one (ps_ret (pe_callB (cr_all rfl) (by rfl) T.n_all (by decide +kernel) (pa_cons (pe_df D__held (hr.mono (by decide)) (by rfl) (pa_cons (pv 0) (pa_cons (pe_lc (own := [("positions", 2)]) (g := gName 2) rfl sc__may_hold.nd (pi_list (pv 1)) (blkOk_by (own := [("positions", 2)]) (N := ["goals", "state", "positions"]) (sc := defScope s__may_hold) (by decide +kernel)) (fun _ _ _ _ _ => pg_name (i := 2) sc__may_hold.nd rfl (Or.inl rfl)) (fun _ _ _ _ _ => pts_nil) (fun _ _ _ _ _ => (pe_cmpR op_gt (pe_callB (call_len_seqK K rfl) (by rfl) T.n_len PySem.boot_len (pa_cons (pv 2) pa_nil)) pe_int (nomark _)))) pa_nil))) pa_nil)))), ?_⟩
    have lw := hN.len
    refine s_ret (ev_all (bs := heldM ts (nss.map fun ns => decide ((0 : Int) < (ns.length : Int)))) fun H1 e Q' q' => ⟨_, rfl, ?_⟩) fun H1 e1 => q H1 e1
    refine elv_lc (us := ws) (xs := nss.map fun ns => V.bl (decide ((0 : Int) < (ns.length : Int)))) (ev_var rfl) (ex_l e hB) (by omega) (by rw [List.length_map]; omega) (fun _ => rfl) (fun i u y H2 e2 hu hy => ?_) H1 (Ex.refl _) _ fun p H2 hp e2 h2 => ?_
    · obtain ⟨p, ns, rfl, hns, hT⟩ := hN.get hu
      rw [List.getElem?_map, hns] at hy
      cases hy
      have := ev_op (r := rI0 fun i j => V.bl (decide (i > j))) (ev_lenT (K := K) (ev_var (i := 2) (σ := [some (V.ref a), some (V.ref b), some (V.ref p)]) rfl) (st_of ((e.trans e2) _ _ hT))) (ev_c (v := .int 0)) rv_I0
      rw [List.length_map] at this
      exact this
    · exact ⟨a, p, us, ts, nss.map fun ns => decide ((0 : Int) < (ns.length : Int)), rfl, ex_l (e.trans e2) hA, hR.ex upP (e.trans e2), sq_of (by rw [h2, List.map_map]; rfl), by rw [List.length_map]; exact hl, by omega, fun p' H3 hp' e3 h3 => q' p' H3 (fresh_back e2 hp') (e2.trans e3) h3⟩

/-! ### words in order: fewest signs first, then by their codes -/
def lx : List Nat → List Nat → Prop
  | a :: u, b :: v => a < b ∨ (a = b ∧ lx u v)
  | _, _ => False
def sl (u v : List Nat) : Prop := u.length < v.length ∨ (u.length = v.length ∧ lx u v)
def sle (u v : List Nat) : Prop := u = v ∨ sl u v
theorem lx_irr : ∀ u : List Nat, ¬ lx u u
  | [], h => h
  | a :: u, h => h.elim (fun z => Nat.lt_irrefl a z) fun z => lx_irr u z.2
theorem lx_trans : ∀ {u v w : List Nat}, lx u v → lx v w → lx u w
  | a :: u, b :: v, c :: w, h, k => by
    rcases h with h | ⟨h, h2⟩
    · rcases k with k | ⟨k, k2⟩
      · exact .inl (Nat.lt_trans h k)
      · exact .inl (k ▸ h)
    · rcases k with k | ⟨k, k2⟩
      · exact .inl (h ▸ k)
      · exact .inr ⟨h.trans k, lx_trans h2 k2⟩
theorem lx_snoc {c d : Nat} : ∀ {u v : List Nat}, lx u v → lx (u ++ [c]) (v ++ [d])
  | a :: u, b :: v, h => h.elim .inl fun z => .inr ⟨z.1, lx_snoc z.2⟩
theorem lx_last {c d : Nat} (h : c < d) : ∀ u : List Nat, lx (u ++ [c]) (u ++ [d])
  | [] => .inl h
  | a :: u => .inr ⟨rfl, lx_last h u⟩
theorem sl_irr (u : List Nat) : ¬ sl u u := fun h => h.elim (fun z => Nat.lt_irrefl _ z) fun z => lx_irr u z.2
theorem sl_trans {u v w : List Nat} (h : sl u v) (k : sl v w) : sl u w := by
  rcases h with h | ⟨h, h2⟩
  · rcases k with k | ⟨k, _⟩
    · exact .inl (Nat.lt_trans h k)
    · exact .inl (k ▸ h)
  · rcases k with k | ⟨k, k2⟩
    · exact .inl (h ▸ k)
    · exact .inr ⟨h.trans k, lx_trans h2 k2⟩
theorem sl_snoc {u v : List Nat} {c d : Nat} (h : sl u v) : sl (u ++ [c]) (v ++ [d]) := by
  rcases h with h | ⟨h, h2⟩
  · refine .inl ?_
    rw [List.length_append, List.length_append]
    show u.length + 1 < v.length + 1
    omega
  · refine .inr ⟨?_, lx_snoc h2⟩
    rw [List.length_append, List.length_append, h]
    rfl
theorem sl_last {c d : Nat} (h : c < d) (u : List Nat) : sl (u ++ [c]) (u ++ [d]) := .inr ⟨by rw [List.length_append, List.length_append]; rfl, lx_last h u⟩
theorem sl_more (u : List Nat) (c : Nat) : sl u (u ++ [c]) := .inl (by rw [List.length_append]; exact Nat.lt_succ_self _)
theorem sl_nil {v : List Nat} (h : v ≠ []) : sl [] v := .inl (List.length_pos_iff.mpr h)
theorem sle_snoc {u v : List Nat} (c : Nat) (h : sle u v) : sle (u ++ [c]) (v ++ [c]) := h.elim (fun e => .inl (by rw [e])) fun s => .inr (sl_snoc s)
theorem sle_trans {u v w : List Nat} (h : sle u v) (k : sle v w) : sle u w := h.elim (fun e => e ▸ k) fun s => k.elim (fun e => .inr (e ▸ s)) fun t => .inr (sl_trans s t)
theorem sle_anti {u v : List Nat} (h : sle u v) (k : sle v u) : u = v := h.elim id fun s => k.elim (fun e => e.symm) fun t => absurd (sl_trans s t) (sl_irr u)

/-! ### the search, breadth first -/
section
variable {α : Type} [DecidableEq α] (δ : α → Nat → α) (x0 : α) (cs : List Nat) (al : α → Bool)
def runX (w : List Nat) : α := w.foldl δ x0
def Qd (D : List (α × List Nat)) : List (α × List Nat) := (x0, []) :: D.filter fun e => al e.1
def addD (D : List (α × List Nat)) (x : α) (y : List Nat) : List (α × List Nat) := if x ∈ D.map Prod.fst then D else D ++ [(x, y)]
structure Bf (D : List (α × List Nat)) (at_ k : Nat) : Prop where
  run : ∀ e ∈ D, e.1 = runX δ x0 e.2 ∧ e.2 ≠ [] ∧ ∀ c ∈ e.2, c ∈ cs
  nd : (D.map Prod.fst).Nodup
  inc : D.Pairwise fun a b => sl a.2 b.2
  src : ∀ e ∈ D, ∃ i x y j c, (Qd x0 al D)[i]? = some (x, y) ∧ cs[j]? = some c ∧ (i < at_ ∨ (i = at_ ∧ j < k)) ∧ e = (δ x c, y ++ [c])
  done : ∀ (i : Nat) (x : α) (y : List Nat) (j c : Nat), (Qd x0 al D)[i]? = some (x, y) → cs[j]? = some c → (i < at_ ∨ (i = at_ ∧ j < k)) → ∃ e ∈ D, e.1 = δ x c ∧ sle e.2 (y ++ [c])
  len : ∀ e ∈ D, e.2.length ≤ D.length
variable {δ x0 cs al}
theorem Bf.start : Bf δ x0 cs al [] 0 0 := ⟨fun _ h => (nomatch h), .nil, .nil, fun _ h => (nomatch h), fun i x y j c _ _ h => by omega, fun _ h => (nomatch h)⟩
theorem Qd_more (D E : List (α × List Nat)) {i : Nat} {z : α × List Nat} (h : (Qd x0 al D)[i]? = some z) : (Qd x0 al (D ++ E))[i]? = some z := by
  unfold Qd at h ⊢
  rw [List.filter_append]
  cases i with
  | zero => exact h
  | succ i =>
    rw [List.getElem?_cons_succ] at h ⊢
    rw [List.getElem?_append_left (List.getElem?_eq_some_iff.mp h).1]
    exact h
theorem Qd_mem {D : List (α × List Nat)} {z : α × List Nat} {i : Nat} (h : (Qd x0 al D)[i]? = some z) : z = (x0, []) ∨ (z ∈ D ∧ al z.1 = true) := by
  have := List.mem_of_getElem? h
  unfold Qd at this
  rw [List.mem_cons, List.mem_filter] at this
  exact this
theorem Qd_at {D : List (α × List Nat)} {z : α × List Nat} (h : z ∈ D) (ha : al z.1 = true) : ∃ i : Nat, (Qd x0 al D)[i]? = some z := by
  have : z ∈ Qd x0 al D := List.mem_cons_of_mem _ (List.mem_filter.mpr ⟨h, ha⟩)
  exact List.mem_iff_getElem?.mp this
theorem Bf.qinc {D : List (α × List Nat)} {a k : Nat} (h : Bf δ x0 cs al D a k) : (Qd x0 al D).Pairwise fun a b => sl a.2 b.2 := by
  unfold Qd
  rw [List.pairwise_cons]
  exact ⟨fun e he => sl_nil (h.run e (List.mem_filter.mp he).1).2.1, h.inc.filter _⟩
theorem pw_at {β : Type} {R : β → β → Prop} {l : List β} (h : l.Pairwise R) {i j : Nat} {x y : β} (hi : l[i]? = some x) (hj : l[j]? = some y) (ij : i < j) : R x y := by
  obtain ⟨h1, rfl⟩ := List.getElem?_eq_some_iff.mp hi
  obtain ⟨h2, rfl⟩ := List.getElem?_eq_some_iff.mp hj
  exact List.pairwise_iff_getElem.mp h i j h1 h2 ij
theorem Bf.before {D : List (α × List Nat)} {a k : Nat} (h : Bf δ x0 cs al D a k) (hc : cs.Pairwise (· < ·)) {i : Nat} {x : α} {y : List Nat} {j c : Nat} (hq : (Qd x0 al D)[i]? = some (x, y)) (hj : cs[j]? = some c) (hn : a < i ∨ (a = i ∧ k ≤ j)) : ∀ e ∈ D, sl e.2 (y ++ [c]) := fun e he => by
  obtain ⟨i2, x2, y2, j2, c2, q2, k2, n2, rfl⟩ := h.src e he
  by_cases z : i2 < i
  · have := pw_at h.qinc q2 hq z
    exact sl_snoc this
  · have e1 : i2 = i := by omega
    subst e1
    rw [hq] at q2
    cases q2
    exact sl_last (pw_at hc k2 hj (by omega)) y
theorem Bf.step {D : List (α × List Nat)} {a k : Nat} (h : Bf δ x0 cs al D a k) (hc : cs.Pairwise (· < ·)) {x : α} {y : List Nat} {c : Nat} (hq : (Qd x0 al D)[a]? = some (x, y)) (hk : cs[k]? = some c) : Bf δ x0 cs al (addD D (δ x c) (y ++ [c])) a (k + 1) := by
  have hb := h.before hc hq hk (.inr ⟨rfl, Nat.le_refl _⟩)
  unfold addD
  split
  · rename_i hs
    refine ⟨h.run, h.nd, h.inc, fun e he => ?_, fun i x2 y2 j c2 q2 k2 n2 => ?_, h.len⟩
    · obtain ⟨i2, x2, y2, j2, c2, q2, k2, n2, e2⟩ := h.src e he
      exact ⟨i2, x2, y2, j2, c2, q2, k2, by omega, e2⟩
    · by_cases z : i < a ∨ (i = a ∧ j < k)
      · exact h.done i x2 y2 j c2 q2 k2 z
      · have e1 : i = a := by omega
        have e2 : j = k := by omega
        subst e1 e2
        rw [hq] at q2
        cases q2
        rw [hk] at k2
        cases k2
        obtain ⟨e, he, e3⟩ := List.mem_map.mp hs
        exact ⟨e, he, e3, .inr (hb e he)⟩
  · rename_i hs
    have hy : y = [] ∨ (x, y) ∈ D := (Qd_mem hq).elim (fun z => .inl (by cases z; rfl)) fun z => .inr z.1
    have hx : x = runX δ x0 y ∧ ∀ d ∈ y, d ∈ cs := (Qd_mem hq).elim (fun z => by cases z; exact ⟨rfl, fun _ h => (nomatch h)⟩) fun z => ⟨(h.run _ z.1).1, (h.run _ z.1).2.2⟩
    refine ⟨fun e he => ?_, ?_, ?_, fun e he => ?_, fun i x2 y2 j c2 q2 k2 n2 => ?_, fun e he => ?_⟩
    · rcases List.mem_append.mp he with he | he
      · exact h.run e he
      · rw [List.mem_singleton] at he
        subst he
        refine ⟨?_, by simp, fun d hd => ?_⟩
        · show δ x c = (y ++ [c]).foldl δ x0
          rw [List.foldl_append, hx.1]
          rfl
        · rcases List.mem_append.mp hd with hd | hd
          · exact hx.2 d hd
          · rw [List.mem_singleton] at hd
            exact hd ▸ List.mem_of_getElem? hk
    · rw [List.map_append, List.nodup_append]
      refine ⟨h.nd, by simp, fun u hu v hv => ?_⟩
      rw [List.map_cons, List.map_nil, List.mem_singleton] at hv
      rintro rfl
      have hv2 : u = δ x c := hv
      exact hs (hv2 ▸ hu)
    · rw [List.pairwise_append]
      refine ⟨h.inc, by simp, fun u hu v hv => ?_⟩
      rw [List.mem_singleton] at hv
      subst hv
      exact hb u hu
    · rcases List.mem_append.mp he with he | he
      · obtain ⟨i2, x2, y2, j2, c2, q2, k2, n2, e2⟩ := h.src e he
        exact ⟨i2, x2, y2, j2, c2, Qd_more _ _ q2, k2, by omega, e2⟩
      · rw [List.mem_singleton] at he
        exact ⟨a, x, y, k, c, Qd_more _ _ hq, hk, .inr ⟨rfl, Nat.lt_succ_self _⟩, he⟩
    · have q3 : (Qd x0 al D)[i]? = some (x2, y2) := by
        have ha : a < (Qd x0 al D).length := (List.getElem?_eq_some_iff.mp hq).1
        have e1 : (Qd x0 al D)[i]? = some ((Qd x0 al D)[i]'(by omega)) := List.getElem?_eq_getElem (by omega)
        rw [Qd_more _ _ e1] at q2
        rw [e1]
        exact q2
      by_cases z : i < a ∨ (i = a ∧ j < k)
      · obtain ⟨e, he, e3⟩ := h.done i x2 y2 j c2 q3 k2 z
        exact ⟨e, List.mem_append_left _ he, e3⟩
      · have e1 : i = a := by omega
        have e2 : j = k := by omega
        subst e1 e2
        rw [hq] at q3
        cases q3
        rw [hk] at k2
        cases k2
        exact ⟨_, List.mem_append_right _ (List.mem_singleton.mpr rfl), rfl, .inl rfl⟩
    · rw [List.length_append]
      show _ ≤ D.length + 1
      rcases List.mem_append.mp he with he | he
      · have := h.len e he
        omega
      · rw [List.mem_singleton] at he
        subst he
        show (y ++ [c]).length ≤ _
        rw [List.length_append]
        rcases hy with hy | hy
        · subst hy
          exact Nat.succ_le_succ (Nat.zero_le _)
        · exact Nat.succ_le_succ (h.len _ hy)
theorem Bf.next {D : List (α × List Nat)} {a : Nat} (h : Bf δ x0 cs al D a cs.length) : Bf δ x0 cs al D (a + 1) 0 :=
  ⟨h.run, h.nd, h.inc, fun e he => by
    obtain ⟨i2, x2, y2, j2, c2, q2, k2, n2, e2⟩ := h.src e he
    exact ⟨i2, x2, y2, j2, c2, q2, k2, by omega, e2⟩, fun i x2 y2 j c2 q2 k2 n2 => h.done i x2 y2 j c2 q2 k2 (by
    have := (List.getElem?_eq_some_iff.mp k2).1
    omega), h.len⟩
theorem snocW {P : List Nat → Prop} (h0 : P []) (hs : ∀ u c, P u → P (u ++ [c])) (w : List Nat) : P w := by
  have : ∀ v : List Nat, P v.reverse := fun v => by
    induction v with
    | nil => exact h0
    | cons c v ih =>
      rw [List.reverse_cons]
      exact hs _ _ ih
  have e := this w.reverse
  rwa [List.reverse_reverse] at e
theorem run_snoc (u : List Nat) (c : Nat) : runX δ x0 (u ++ [c]) = δ (runX δ x0 u) c := by
  unfold runX
  rw [List.foldl_append]
  rfl
/-- a word whose parts before are all alive is come to, or nothing that was come to lies behind it -/
theorem Bf.word {D : List (α × List Nat)} {a : Nat} (h : Bf δ x0 cs al D a 0) (hcl : ∀ u c, al (runX δ x0 (u ++ [c])) = true → al (runX δ x0 u) = true) (w : List Nat) :
    w ≠ [] → (∀ c ∈ w, c ∈ cs) → al (runX δ x0 w) = true → (∃ e ∈ D, e.1 = runX δ x0 w ∧ sle e.2 w) ∨ (a < (Qd x0 al D).length ∧ ∀ e ∈ D, sle e.2 w) := by
  induction w using snocW with
  | h0 => exact fun z => absurd rfl z
  | hs u c ih =>
    intro _ hw ha
    have hau := hcl u c ha
    have hcm : c ∈ cs := hw c (List.mem_append_right _ (List.mem_singleton.mpr rfl))
    obtain ⟨j, hj⟩ := List.mem_iff_getElem?.mp hcm
    have hwu : ∀ d ∈ u, d ∈ cs := fun d hd => hw d (List.mem_append_left _ hd)
    by_cases hu : u = []
    · subst hu
      have q0 : (Qd x0 al D)[0]? = some (x0, []) := rfl
      by_cases z : 0 < a
      · exact .inl (h.done 0 x0 [] j c q0 hj (.inl z))
      · refine .inr ⟨by unfold Qd; rw [List.length_cons]; omega, fun e he => ?_⟩
        obtain ⟨i2, _, _, j2, _, _, _, n2, _⟩ := h.src e he
        omega
    · rcases ih hu hwu hau with ⟨e, he, e1, e2⟩ | ⟨z1, z2⟩
      · obtain ⟨i, hi⟩ := Qd_at (x0 := x0) (al := al) he (by rw [e1]; exact hau)
        obtain ⟨ex, ey⟩ := e
        by_cases z : i < a
        · obtain ⟨e3, h3, h4, h5⟩ := h.done i ex ey j c hi hj (.inl z)
          refine .inl ⟨e3, h3, ?_, sle_trans h5 (sle_snoc c e2)⟩
          rw [h4, run_snoc]
          exact congrArg (fun v => δ v c) e1
        · refine .inr ⟨by have := (List.getElem?_eq_some_iff.mp hi).1; omega, fun e3 h3 => ?_⟩
          obtain ⟨i2, x2, y2, j2, c2, q2, k2, n2, rfl⟩ := h.src e3 h3
          have := pw_at h.qinc q2 hi (by omega)
          exact .inr (e2.elim (fun q => by
            have q' : ey = u := q
            exact q' ▸ sl_snoc this) fun s => sl_snoc (sl_trans this s))
      · exact .inr ⟨z1, fun e he => sle_trans (z2 e he) (.inr (sl_more u c))⟩
end

/-! ### the signs that are tried, in order -/
def csM (pss : List (List Str)) : List Nat := signsS.cps.toList.filter fun c => decide (c ∈ sigC (fxC pss))
theorem signs_up : signsS.cps.toList.Pairwise (· < ·) := by decide +kernel
theorem csM_up (pss : List (List Str)) : (csM pss).Pairwise (· < ·) := signs_up.filter _
theorem sgs_up : (signsS.cps.toList.map sg).Pairwise (fun a b => ltCps b.cps.toList a.cps.toList = false) := by decide +kernel
theorem sig_in {pss : List (List Str)} (h : ∀ ps ∈ pss, GoodP ps) {c : Nat} (hc : c ∈ sigC (fxC pss)) : c ∈ signsS.cps.toList := by
  have hU := fxC_in h
  unfold sigC at hc
  rw [List.mem_append, List.mem_append, List.mem_append] at hc
  have o : ∀ z : Str, (∀ c ∈ z.cps.toList, c ∈ signsS.cps.toList) → c ∈ outC (fxC pss) z → c ∈ signsS.cps.toList := fun z hz k => hz c (out_mem k).1
  have d1 : ∀ c ∈ digS.cps.toList, c ∈ signsS.cps.toList := by decide +kernel
  have d2 : ∀ c ∈ letS.cps.toList, c ∈ signsS.cps.toList := by decide +kernel
  have d3 : ∀ c ∈ othS.cps.toList, c ∈ signsS.cps.toList := by decide +kernel
  rcases hc with ((hc | hc) | hc) | hc
  · exact hU c hc
  · exact o _ d1 hc
  · exact o _ d2 hc
  · exact o _ d3 hc
theorem csM_mem {pss : List (List Str)} (h : ∀ ps ∈ pss, GoodP ps) (c : Nat) : c ∈ csM pss ↔ c ∈ sigC (fxC pss) := by
  unfold csM
  rw [List.mem_filter, decide_eq_true_eq]
  exact ⟨fun z => z.2, fun z => ⟨sig_in h z, z⟩⟩
theorem csM_nodup (pss : List (List Str)) : (csM pss).Nodup := signs_nodup.filter _
theorem ys_csM {pss : List (List Str)} (h : ∀ ps ∈ pss, GoodP ps) {ys : List Str} (h1 : sortedS ys = true) (h2 : ys.Nodup) (h3 : ∀ k, k ∈ ys ↔ k ∈ (sigC (fxC pss)).map sg) : ys = (csM pss).map sg := by
  refine sortedS_uniq (sortedS_pw h1) (sgs_up.sublist (List.Sublist.map _ List.filter_sublist)) h2 ?_ fun k => ?_
  · rw [List.nodup_iff_pairwise_ne, List.pairwise_map]
    exact (List.nodup_iff_pairwise_ne.mp (csM_nodup pss)).imp fun n e => n (sg_inj e)
  · rw [h3, List.mem_map, List.mem_map]
    exact ⟨fun ⟨c, a, b⟩ => ⟨c, (csM_mem h c).mpr a, b⟩, fun ⟨c, a, b⟩ => ⟨c, (csM_mem h c).mp a, b⟩⟩
theorem csM_ne (pss : List (List Str)) (h : ∀ ps ∈ pss, GoodP ps) : csM pss ≠ [] := by
  intro e
  have no : ∀ c, c ∉ sigC (fxC pss) := fun c hc => by
    have := (csM_mem h c).mpr hc
    rw [e] at this
    cases this
  have nU : ∀ c, c ∉ fxC pss := fun c hc => no c (by
    unfold sigC
    simp only [List.mem_append]
    exact .inl (.inl (.inl hc)))
  refine no 48 ?_
  have : outC (fxC pss) digS = [48] := by
    unfold outC
    rw [List.filter_eq_self.mpr fun c _ => by simpa using nU c]
    decide +kernel
  unfold sigC
  simp only [List.mem_append]
  exact .inl (.inl (.inr (this ▸ List.mem_cons_self)))
theorem csM_len (pss : List (List Str)) : (csM pss).length ≤ 68 := by
  have h := (List.filter_sublist (l := signsS.cps.toList) (p := fun c => decide (c ∈ sigC (fxC pss)))).length_le
  have : signsS.cps.toList.length = 68 := by decide +kernel
  rw [this] at h
  exact h
/-! ### states of all forms at once -/
def dnM (pss : List (List Str)) (S : List (List Nat)) : List Bool := List.zipWith (fun ps s => decide ((cellsM ps).length ∈ s)) pss S
def lvM (S : List (List Nat)) : List Bool := S.map fun s => decide ((0 : Int) < (s.length : Int))
def stp (pss : List (List Str)) (S : List (List Nat)) (c : Nat) : List (List Nat) := List.zipWith (fun ps s => movedM (cellsM ps) s c) pss S
def st0 (pss : List (List Str)) : List (List Nat) := pss.map (stM [])
theorem zip_map {α β γ : Type} (f : α → β → γ) (g : α → β) : ∀ l : List α, List.zipWith f l (l.map g) = l.map fun x => f x (g x)
  | [] => rfl
  | x :: l => by
    show f x (g x) :: List.zipWith f l (l.map g) = f x (g x) :: _
    rw [zip_map f g l]
theorem stp_map (pss : List (List Str)) (w : List Nat) (c : Nat) : stp pss (pss.map (stM w)) c = pss.map (stM (w ++ [c])) := by
  unfold stp
  rw [zip_map]
  exact List.map_congr_left fun ps _ => stM_snoc w c ps
theorem runX_st (pss : List (List Str)) (w : List Nat) : runX (stp pss) (st0 pss) w = pss.map (stM w) := by
  induction w using snocW with
  | h0 => rfl
  | hs u c ih => rw [run_snoc, ih, stp_map]
theorem dnM_map (pss : List (List Str)) (w : List Nat) : dnM pss (pss.map (stM w)) = pss.map (doneM w) := zip_map _ _ _
def alM (tg : List Pt) (S : List (List Nat)) : Bool := (heldM tg (lvM S)).all id
def glM (tg : List Pt) (pss : List (List Str)) (S : List (List Nat)) : Bool := (heldM tg (dnM pss S)).all id
def mkM (tg tm : List Pt) (pss : List (List Str)) (S : List (List Nat)) : List Bool := heldM tm ((dnM pss S).drop (lvs tg))
/-! the more is true, the more holds -/
def BLe (a b : List Bool) : Prop := ∀ i : Nat, a[i]? = some true → b[i]? = some true
theorem BLe.take {a b : List Bool} (h : BLe a b) (n : Nat) : BLe (a.take n) (b.take n) := fun i hi => by
  rw [List.getElem?_take] at hi ⊢
  split at hi
  · rename_i z
    rw [if_pos z]
    exact h i hi
  · cases hi
theorem BLe.drop {a b : List Bool} (h : BLe a b) (n : Nat) : BLe (a.drop n) (b.drop n) := fun i hi => by
  rw [List.getElem?_drop] at hi ⊢
  exact h _ hi
theorem holds_up : ∀ (t : Pt) {a b : List Bool}, BLe a b → t.holds a = true → t.holds b = true
  | .f ps, a, b, h, ha => by
    have e : ∀ c : List Bool, (Pt.f ps).holds c = true ↔ c[0]? = some true := fun c => by
      cases c with
      | nil => simp [Pt.holds]
      | cons x c => simp [Pt.holds]
    exact (e b).mpr (h 0 ((e a).mp ha))
  | .n and l r, a, b, h, ha => by
    have h1 := holds_up l (h.take l.leaves)
    have h2 := holds_up r (h.drop l.leaves)
    cases and with
    | true =>
      have ha' : (l.holds (a.take l.leaves) && r.holds (a.drop l.leaves)) = true := ha
      show (l.holds (b.take l.leaves) && r.holds (b.drop l.leaves)) = true
      rw [Bool.and_eq_true] at ha' ⊢
      exact ⟨h1 ha'.1, h2 ha'.2⟩
    | false =>
      have ha' : (l.holds (a.take l.leaves) || r.holds (a.drop l.leaves)) = true := ha
      show (l.holds (b.take l.leaves) || r.holds (b.drop l.leaves)) = true
      rw [Bool.or_eq_true] at ha' ⊢
      exact ha'.imp h1 h2
theorem held_up : ∀ (ts : List Pt) {a b : List Bool}, BLe a b → (heldM ts a).all id = true → (heldM ts b).all id = true
  | [], _, _, _, _ => rfl
  | t :: ts, a, b, h, ha => by
    have ha' : (t.holds (a.take t.leaves) && (heldM ts (a.drop t.leaves)).all id) = true := ha
    show (t.holds (b.take t.leaves) && (heldM ts (b.drop t.leaves)).all id) = true
    rw [Bool.and_eq_true] at ha' ⊢
    exact ⟨holds_up t (h.take _) ha'.1, held_up ts (h.drop _) ha'.2⟩
theorem lv_less (pss : List (List Str)) (u : List Nat) (c : Nat) : BLe (lvM (pss.map (stM (u ++ [c])))) (lvM (pss.map (stM u))) := fun i hi => by
  unfold lvM at hi ⊢
  rw [List.map_map, List.getElem?_map] at hi ⊢
  cases h : pss[i]? with
  | none =>
    rw [h] at hi
    cases hi
  | some ps =>
    rw [h] at hi
    have hi' : decide ((0 : Int) < ((stM (u ++ [c]) ps).length : Int)) = true := Option.some.inj hi
    refine congrArg some ?_
    show decide ((0 : Int) < ((stM u ps).length : Int)) = true
    rw [decide_eq_true_eq] at hi' ⊢
    by_cases z : stM u ps = []
    · have : stM (u ++ [c]) ps = [] := state_nil (cellsM ps) u [c] z
      rw [this] at hi'
      exact absurd hi' (by decide)
    · have := List.length_pos_iff.mpr z
      omega
theorem dn_lv (pss : List (List Str)) (u : List Nat) : BLe (dnM pss (pss.map (stM u))) (lvM (pss.map (stM u))) := fun i hi => by
  rw [dnM_map] at hi
  unfold lvM
  rw [List.map_map, List.getElem?_map]
  rw [List.getElem?_map] at hi
  cases h : pss[i]? with
  | none =>
    rw [h] at hi
    cases hi
  | some ps =>
    rw [h] at hi
    have hi' : doneM u ps = true := Option.some.inj hi
    refine congrArg some ?_
    show decide ((0 : Int) < ((stM u ps).length : Int)) = true
    unfold doneM at hi'
    rw [decide_eq_true_eq] at hi' ⊢
    have := List.length_pos_of_mem hi'
    omega
theorem al_back (tg : List Pt) (pss : List (List Str)) (u : List Nat) (c : Nat) (h : alM tg (runX (stp pss) (st0 pss) (u ++ [c])) = true) : alM tg (runX (stp pss) (st0 pss) u) = true := by
  rw [runX_st] at h ⊢
  exact held_up tg (lv_less pss u c) h
theorem gl_al (tg : List Pt) (pss : List (List Str)) (u : List Nat) (h : glM tg pss (pss.map (stM u)) = true) : alM tg (pss.map (stM u)) = true := held_up tg (dn_lv pss u) h
/-! ### how many there can be -/
def prodL : List (List (List Nat)) → List (List (List Nat))
  | [] => [[]]
  | l :: ls => l.flatMap fun x => (prodL ls).map (x :: ·)
def cnt : List (List Str) → Nat
  | [] => 1
  | ps :: r => 2 ^ ((cellsM ps).length + 1) * cnt r
def allS (pss : List (List Str)) : List (List (List Nat)) := prodL (pss.map fun ps => subs ((cellsM ps).length + 1))
theorem allS_len : ∀ pss : List (List Str), (allS pss).length = cnt pss
  | [] => rfl
  | ps :: r => by
    show ((subs ((cellsM ps).length + 1)).flatMap fun x => (allS r).map (x :: ·)).length = 2 ^ ((cellsM ps).length + 1) * cnt r
    rw [List.length_flatMap]
    have : (List.map (fun x => ((allS r).map (x :: ·)).length) (subs ((cellsM ps).length + 1))) = List.replicate (2 ^ ((cellsM ps).length + 1)) (cnt r) := by
      rw [← subs_len]
      refine List.eq_replicate_iff.mpr ⟨by rw [List.length_map], fun b hb => ?_⟩
      obtain ⟨x, _, rfl⟩ := List.mem_map.mp hb
      rw [List.length_map, allS_len r]
    rw [this, List.sum_replicate_nat]
theorem allS_in (w : List Nat) : ∀ pss : List (List Str), pss.map (stM w) ∈ allS pss
  | [] => List.mem_cons_self
  | ps :: r => by
    show stM w ps :: r.map (stM w) ∈ (subs ((cellsM ps).length + 1)).flatMap fun x => (allS r).map (x :: ·)
    exact List.mem_flatMap.mpr ⟨_, stM_subs w ps, List.mem_map.mpr ⟨_, allS_in w r, rfl⟩⟩
theorem bf_few {pss : List (List Str)} {al : List (List Nat) → Bool} {D : List (List (List Nat) × List Nat)} {a k : Nat} (h : Bf (stp pss) (st0 pss) (csM pss) al D a k) : D.length ≤ cnt pss := by
  have := List.Nodup.length_le_of_subset h.nd (l₂ := allS pss) fun S hS => by
    obtain ⟨e, he, rfl⟩ := List.mem_map.mp hS
    rw [(h.run e he).1, runX_st]
    exact allS_in _ _
  rw [List.length_map, allS_len] at this
  exact this

/-! ### the tables of all forms, told one by one -/
def tx (l : List Nat) : Str := ⟨l.toArray⟩
theorem tx_snoc (l : List Nat) (c : Nat) : tx l ++ sg c = tx (l ++ [c]) := by
  show (⟨l.toArray ++ #[c]⟩ : Str) = ⟨(l ++ [c]).toArray⟩
  congr 1
  simp
theorem tx_len (l : List Nat) : (tx l).length = l.length := by
  rw [str_len]
  rfl
structure TD where
  aS : Addr
  aR : Addr
  us : List V
  ws : List V
  sts : List (List Nat)
  rws : List (List Nat)
def TdAt (cs : List Nat) (ps : List Str) (d : TD) (p : Addr) (H : Hp) : Prop := H p = some (.tup [.ref d.aS, .ref d.aR]) ∧ H d.aS = some (.lst d.us) ∧ H d.aR = some (.lst d.ws) ∧ Rs TupN H d.us d.sts ∧ Rs LisN H d.ws d.rws ∧ Tab ps cs d.sts d.rws ∧ d.rws.length = d.sts.length ∧ cs ≠ []
def TabE (cs : List Nat) (ps : List Str) (p : Addr) (H : Hp) : Prop := ∃ d, TdAt cs ps d p H
theorem TabR.td {cs : List Nat} {ps : List Str} {p : Addr} {H : Hp} (h : TabR ps cs p H) : TabE cs ps p H := by
  obtain ⟨aS, aR, us, ws, sts, rws, h1, h2, h3, h4, h5, h6, h7, h8⟩ := h
  exact ⟨⟨aS, aR, us, ws, sts, rws⟩, h1, h2, h3, h4, h5, h6, h7, h8⟩
theorem TdAt.ex {cs : List Nat} {ps : List Str} {d : TD} {p : Addr} {H H' : Hp} (h : TdAt cs ps d p H) (e : Ex H H') : TdAt cs ps d p H' := by
  obtain ⟨h1, h2, h3, h4, h5, h6⟩ := h
  exact ⟨e _ _ h1, e _ _ h2, e _ _ h3, h4.ex upN e, h5.ex upL e, h6⟩
theorem upT {cs : List Nat} : Up (TabE cs) := fun _ _ _ _ e ⟨d, h⟩ => ⟨d, h.ex e⟩
theorem offT {cs : List Nat} : Off2 (TabE cs) := fun ps p H D acc ys ⟨d, h1, h2, h3, h4, h5, h6, h7, h8⟩ hD hr ne => by
  have n0 : d.sts.length ≠ 0 := by
    have := (List.getElem?_eq_some_iff.mp h6.head).1
    omega
  have nS : d.aS ≠ D := fun z => by
    rw [z, hD] at h2
    have e : acc = d.us := HO.lst.inj (Option.some.inj h2)
    subst e
    obtain ⟨q0, g1, g2⟩ := h4.at h6.head
    obtain ⟨q1, y, e1, _, ⟨d2, k1, _⟩⟩ := hr.get g1
    cases e1
    have g3 : H q0 = some (.tup ((stM [] ps).map vN)) := g2
    rw [k1] at g3
    have e2 : [V.ref d2.aS, V.ref d2.aR] = (stM [] ps).map vN := HO.tup.inj (Option.some.inj g3)
    cases hs : stM [] ps with
    | nil =>
      rw [hs] at e2
      cases e2
    | cons x xs =>
      rw [hs] at e2
      have := (List.cons.inj e2).1
      cases this
  have nR : d.aR ≠ D := fun z => by
    rw [z, hD] at h3
    have e : acc = d.ws := HO.lst.inj (Option.some.inj h3)
    subst e
    have hw : 0 < d.rws.length := by omega
    obtain ⟨q0, g1, g2⟩ := h5.at (List.getElem?_eq_getElem hw)
    obtain ⟨q1, y, e1, _, ⟨d2, k1, _⟩⟩ := hr.get g1
    cases e1
    have g3 : H q0 = some (.lst ((d.rws[0]).map vN)) := g2
    rw [k1] at g3
    cases g3
  refine ⟨d, by rw [hide_ne ne]; exact h1, by rw [hide_ne nS]; exact h2, by rw [hide_ne nR]; exact h3, h4.imp fun x q _ hq => ?_, ?_, h6, h7, h8⟩
  · have hq' : H q = some (.tup (x.map vN)) := hq
    have : q ≠ D := fun z => by
      rw [z, hD] at hq'
      cases hq'
    show hide D H q = _
    rw [hide_ne this]
    exact hq
  · have rows : ∀ x ∈ d.rws, x.length = cs.length := fun x hx => by
      obtain ⟨i, hi⟩ := List.mem_iff_getElem?.mp hx
      have hi2 : i < d.sts.length := by
        have := (List.getElem?_eq_some_iff.mp hi).1
        omega
      exact (h6.row i _ x (List.getElem?_eq_getElem hi2) hi).1
    refine h5.imp fun x q hx hq => ?_
    have hq' : H q = some (.lst (x.map vN)) := hq
    have : q ≠ D := fun z => by
      rw [z, hD] at hq'
      have e : acc = x.map vN := HO.lst.inj (Option.some.inj hq')
      have lx := rows x hx
      cases hx2 : x with
      | nil =>
        rw [hx2] at lx
        exact h8 (List.length_eq_zero_iff.mp lx.symm)
      | cons y0 y1 =>
        rw [hx2] at e
        obtain ⟨r, hr2⟩ := hr.refs (vN y0) (by rw [e]; exact List.mem_cons_self)
        cases hr2
    show hide D H q = _
    rw [hide_ne this]
    exact hq
/-- all states that words of these signs lead to are in the table -/
theorem Tab.reach {ps : List Str} {cs : List Nat} {sts rws : List (List Nat)} (T : Tab ps cs sts rws) (hl : rws.length = sts.length) (w : List Nat) : (∀ c ∈ w, c ∈ cs) → stM w ps ∈ sts := by
  induction w using snocW with
  | h0 => exact fun _ => List.mem_of_getElem? T.head
  | hs u c ih =>
    intro hw
    obtain ⟨i, hi⟩ := List.mem_iff_getElem?.mp (ih fun d hd => hw d (List.mem_append_left _ hd))
    obtain ⟨k, hk⟩ := List.mem_iff_getElem?.mp (hw c (List.mem_append_right _ (List.mem_singleton.mpr rfl)))
    have hi2 : i < rws.length := by
      have := (List.getElem?_eq_some_iff.mp hi).1
      omega
    obtain ⟨j, _, hj⟩ := (T.row i _ _ hi (List.getElem?_eq_getElem hi2)).2 k c hk
    rw [stM_snoc] at hj
    exact List.mem_of_getElem? hj
theorem idx_of {l : List (List Nat)} (nd : l.Nodup) {x : List Nat} {j : Nat} (h : l[j]? = some x) : l.idxOf x = j := by
  have h1 := idx_at (List.mem_of_getElem? h)
  obtain ⟨a1, a2⟩ := List.getElem?_eq_some_iff.mp h1
  obtain ⟨b1, b2⟩ := List.getElem?_eq_some_iff.mp h
  exact (List.nodup_iff_pairwise_ne.mp nd |> fun p => by
    rcases Nat.lt_trichotomy (l.idxOf x) j with z | z | z
    · exact absurd (a2.trans b2.symm) (List.pairwise_iff_getElem.mp p _ _ a1 b1 z)
    · exact z
    · exact absurd (b2.trans a2.symm) (List.pairwise_iff_getElem.mp p _ _ b1 a1 z))
theorem Tab.lead {ps : List Str} {cs : List Nat} {sts rws : List (List Nat)} (T : Tab ps cs sts rws) (hl : rws.length = sts.length) {u : List Nat} (hu : ∀ c ∈ u, c ∈ cs) {k c : Nat} (hk : cs[k]? = some c) :
    ∃ r, rws[sts.idxOf (stM u ps)]? = some r ∧ r[k]? = some (sts.idxOf (stM (u ++ [c]) ps)) := by
  have h1 := idx_at (T.reach hl u hu)
  have hi2 : sts.idxOf (stM u ps) < rws.length := by
    have := (List.getElem?_eq_some_iff.mp h1).1
    omega
  obtain ⟨j, h2, h3⟩ := (T.row _ _ _ h1 (List.getElem?_eq_getElem hi2)).2 k c hk
  rw [stM_snoc] at h3
  exact ⟨_, List.getElem?_eq_getElem hi2, by rw [h2, idx_of T.nd h3]⟩
def numM (tds : List TD) (S : List (List Nat)) : List Nat := List.zipWith (fun d s => d.sts.idxOf s) tds S
theorem num_len {pss : List (List Str)} {tds : List TD} (hl : tds.length = pss.length) (w : List Nat) : (numM tds (pss.map (stM w))).length = pss.length := by
  unfold numM
  rw [List.length_zipWith, List.length_map, hl, Nat.min_self]
theorem num_at {pss : List (List Str)} {tds : List TD} {w : List Nat} {i : Nat} {ps : List Str} {d : TD} (h : (pss.zip tds)[i]? = some (ps, d)) : (numM tds (pss.map (stM w)))[i]? = some (d.sts.idxOf (stM w ps)) := by
  rw [List.getElem?_zip_eq_some] at h
  unfold numM
  rw [List.getElem?_zipWith, h.2, List.getElem?_map, h.1]
  rfl
/-- the tables are those of the forms -/
def TabsOk (cs : List Nat) (pss : List (List Str)) (tds : List TD) : Prop := tds.length = pss.length ∧ ∀ e ∈ pss.zip tds, Tab e.1 cs e.2.sts e.2.rws ∧ e.2.rws.length = e.2.sts.length
theorem num_inj {cs : List Nat} {pss : List (List Str)} {tds : List TD} (h : TabsOk cs pss tds) {u v : List Nat} (hu : ∀ c ∈ u, c ∈ cs) (hv : ∀ c ∈ v, c ∈ cs) (e : numM tds (pss.map (stM u)) = numM tds (pss.map (stM v))) : pss.map (stM u) = pss.map (stM v) := by
  refine List.map_congr_left fun ps hps => ?_
  obtain ⟨i, hi⟩ := List.mem_iff_getElem?.mp hps
  have hi2 : i < tds.length := by
    have := (List.getElem?_eq_some_iff.mp hi).1
    have := h.1
    omega
  have hz : (pss.zip tds)[i]? = some (ps, tds[i]) := List.getElem?_zip_eq_some.mpr ⟨hi, List.getElem?_eq_getElem hi2⟩
  have a1 := num_at (w := u) hz
  have a2 := num_at (w := v) hz
  rw [e, a2] at a1
  obtain ⟨T, hl⟩ := h.2 _ (List.mem_of_getElem? hz)
  have b1 := idx_at (T.reach hl u hu)
  have b2 := idx_at (T.reach hl v hv)
  have e3 : (tds[i]).sts.idxOf (stM v ps) = (tds[i]).sts.idxOf (stM u ps) := Option.some.inj a1
  rw [← e3, b2] at b1
  exact (Option.some.inj b1).symm
def seenK (tds : List TD) (D : List (List (List Nat) × List Nat)) : List (List Key × V) := D.map fun e => (kI (numM tds e.1), V.bl true)
theorem seen_val {tds : List TD} {S : List (List Nat)} : ∀ D : List (List (List Nat) × List Nat), (∀ e ∈ D, numM tds e.1 = numM tds S → e.1 = S) → valV (seenK tds D) (kI (numM tds S)) = if S ∈ D.map Prod.fst then some (.bl true) else none
  | [], _ => rfl
  | e :: D, h => by
    show valV ((kI (numM tds e.1), V.bl true) :: seenK tds D) _ = _
    have ih := seen_val D fun e he => h e (List.mem_cons_of_mem _ he)
    by_cases z : e.1 = S
    · rw [valV_pos (by rw [z]), if_pos (by rw [List.map_cons, z]; exact List.mem_cons_self)]
    · rw [valV_neg (fun q => z (h e List.mem_cons_self (kI_inj q))), ih]
      by_cases y : S ∈ D.map Prod.fst
      · rw [if_pos y, List.map_cons, if_pos (List.mem_cons_of_mem _ y)]
      · rw [if_neg y, List.map_cons, if_neg fun q => (List.mem_cons.mp q).elim (fun q => z q.symm) y]
def stRef (tds : List TD) (ns : List Nat) : List V := List.zipWith (fun d n => (d.us[n]?).getD .non) tds ns
theorem stRef_at {tds : List TD} {ns : List Nat} {i : Nat} {d : TD} {n : Nat} (h1 : tds[i]? = some d) (h2 : ns[i]? = some n) : (stRef tds ns)[i]? = some ((d.us[n]?).getD .non) := by
  unfold stRef
  rw [List.getElem?_zipWith, h1, h2]
theorem Rs.of_at {α : Type} {R : α → Addr → Hp → Prop} {H : Hp} : ∀ {vs : List V} {xs : List α}, vs.length = xs.length → (∀ (i : Nat) (x : α), xs[i]? = some x → ∃ p, vs[i]? = some (.ref p) ∧ R x p H) → Rs R H vs xs
  | [], [], _, _ => .nil
  | v :: vs, x :: xs, hl, h => by
    obtain ⟨p, h1, h2⟩ := h 0 x rfl
    have e : v = .ref p := Option.some.inj h1
    subst e
    exact .cons h2 (Rs.of_at (by simpa using hl) fun i y hy => h (i + 1) y hy)
theorem st_refs {cs : List Nat} {pss : List (List Str)} {tds : List TD} {H : Hp} {vs : List V} (r : Rs (fun (e : List Str × TD) p H => TdAt cs e.1 e.2 p H) H vs (pss.zip tds)) (hl : tds.length = pss.length) {w : List Nat} (hw : ∀ c ∈ w, c ∈ cs) :
    Rs TupN H (stRef tds (numM tds (pss.map (stM w)))) (pss.map (stM w)) := by
  refine Rs.of_at (by unfold stRef; rw [List.length_zipWith, num_len hl, List.length_map, hl, Nat.min_self]) fun i s hs => ?_
  rw [List.getElem?_map] at hs
  cases hp : pss[i]? with
  | none =>
    rw [hp] at hs
    cases hs
  | some ps =>
    rw [hp] at hs
    cases hs
    have hi2 : i < tds.length := by
      have := (List.getElem?_eq_some_iff.mp hp).1
      omega
    have hz : (pss.zip tds)[i]? = some (ps, tds[i]) := List.getElem?_zip_eq_some.mpr ⟨hp, List.getElem?_eq_getElem hi2⟩
    obtain ⟨p, _, h1, h2, h3, h4, h5, T, h7, h8⟩ := r.at hz
    obtain ⟨q, g1, g2⟩ := h4.at (idx_at (T.reach h7 w hw))
    refine ⟨q, ?_, g2⟩
    rw [stRef_at (List.getElem?_eq_getElem hi2) (num_at hz)]
    have g1' : (tds[i]).us[(tds[i]).sts.idxOf (stM w ps)]? = some (.ref q) := g1
    rw [g1']
    rfl

/-! ### _fitting -/
def QR (tds : List TD) (e : List (List Nat) × List Nat) (p : Addr) (H : Hp) : Prop := ∃ t : Addr, H p = some (.tup [.ref t, .str (tx e.2)]) ∧ H t = some (.tup ((numM tds e.1).map vN))
theorem upQ {tds : List TD} : Up (QR tds) := fun _ _ _ _ e ⟨t, h1, h2⟩ => ⟨t, e _ _ h1, e _ _ h2⟩
def FndR (e : List Bool × List Nat) (p : Addr) (H : Hp) : Prop := ∃ l : Addr, H p = some (.tup [.ref l, .str (tx e.2)]) ∧ H l = some (.lst (e.1.map V.bl))
theorem upFn : Up FndR := fun _ _ _ _ e ⟨t, h1, h2⟩ => ⟨t, e _ _ h1, e _ _ h2⟩
def fndM (tg tm : List Pt) (pss : List (List Str)) (D : List (List (List Nat) × List Nat)) : List (List Bool × List Nat) := (D.filter fun e => glM tg pss e.1).map fun e => (mkM tg tm pss e.1, e.2)
/-- seen (Dd), found (Df), the queue (Dq) -/
structure FitI (tg tm : List Pt) (pss : List (List Str)) (tds : List TD) (G H : Hp) (aD aF aQ : Addr) (Dd Df Dq : List (List (List Nat) × List Nat)) : Prop where
  ex : Ex G H
  fD : G aD = none
  fF : G aF = none
  fQ : G aQ = none
  ne : aF ≠ aQ
  hD : H aD = some (.dT (seenK tds Dd))
  hF : ∃ fs, H aF = some (.lst fs) ∧ Rs FndR G fs (fndM tg tm pss Df)
  hQ : ∃ qs, H aQ = some (.lst qs) ∧ Rs (QR tds) G qs (Qd (st0 pss) (alM tg) Dq)
section
variable {tg tm : List Pt} {pss : List (List Str)} {tds : List TD} {G G' H H' H1 : Hp} {aD aF aQ : Addr} {Dd Df Dq : List (List (List Nat) × List Nat)}
theorem FitI.same (h : FitI tg tm pss tds G H aD aF aQ Dd Df Dq) (e : Ex H H') : FitI tg tm pss tds G H' aD aF aQ Dd Df Dq := by
  obtain ⟨fs, f1, f2⟩ := h.hF
  obtain ⟨qs, q1, q2⟩ := h.hQ
  exact ⟨h.ex.trans e, h.fD, h.fF, h.fQ, h.ne, e _ _ h.hD, ⟨fs, e _ _ f1, f2⟩, ⟨qs, e _ _ q1, q2⟩⟩
theorem FitI.more (h : FitI tg tm pss tds G H aD aF aQ Dd Df Dq) (e : Ex G G') (e2 : Ex G' H) (f1 : G' aD = none) (f2 : G' aF = none) (f3 : G' aQ = none) : FitI tg tm pss tds G' H aD aF aQ Dd Df Dq := by
  obtain ⟨fs, g1, g2⟩ := h.hF
  obtain ⟨qs, q1, q2⟩ := h.hQ
  exact ⟨e2, f1, f2, f3, h.ne, h.hD, ⟨fs, g1, g2.ex upFn e⟩, ⟨qs, q1, q2.ex upQ e⟩⟩
/-- a new tuple or list that stays -/
theorem FitI.keep {p : Addr} {o : HO} (h : FitI tg tm pss tds G H aD aF aQ Dd Df Dq) (hp : H p = none) (e : Ex H H') (ho : H' p = some o) : FitI tg tm pss tds (upd G p o) H' aD aF aQ Dd Df Dq := by
  obtain ⟨fs, g1, g2⟩ := h.hF
  obtain ⟨qs, q1, q2⟩ := h.hQ
  exact (h.same e).more (Ex.new (fresh_back h.ex hp)) (Ex.keep h.ex hp e ho) (upd_none h.fD (ne_at h.hD hp)) (upd_none h.fF (ne_at g1 hp)) (upd_none h.fQ (ne_at q1 hp))
theorem FitI.nFD (h : FitI tg tm pss tds G H aD aF aQ Dd Df Dq) : aF ≠ aD := fun z => by
  obtain ⟨fs, g1, g2⟩ := h.hF
  rw [z, h.hD] at g1
  cases g1
theorem FitI.nQD (h : FitI tg tm pss tds G H aD aF aQ Dd Df Dq) : aQ ≠ aD := fun z => by
  obtain ⟨fs, g1, g2⟩ := h.hQ
  rw [z, h.hD] at g1
  cases g1
theorem FitI.putD (h : FitI tg tm pss tds G H aD aF aQ Dd Df Dq) (E : List (List (List Nat) × List Nat)) : FitI tg tm pss tds G (upd H aD (.dT (seenK tds E))) aD aF aQ E Df Dq := by
  obtain ⟨fs, g1, g2⟩ := h.hF
  obtain ⟨qs, q1, q2⟩ := h.hQ
  exact ⟨Ex.mut h.ex h.fD, h.fD, h.fF, h.fQ, h.ne, upd_same, ⟨fs, by rw [upd_ne h.nFD]; exact g1, g2⟩, ⟨qs, by rw [upd_ne h.nQD]; exact q1, q2⟩⟩
theorem FitI.putF (h : FitI tg tm pss tds G H aD aF aQ Dd Df Dq) {E : List (List (List Nat) × List Nat)} {fs : List V} (hr : Rs FndR G fs (fndM tg tm pss E)) : FitI tg tm pss tds G (upd H aF (.lst fs)) aD aF aQ Dd E Dq := by
  obtain ⟨qs, q1, q2⟩ := h.hQ
  exact ⟨Ex.mut h.ex h.fF, h.fD, h.fF, h.fQ, h.ne, by rw [upd_ne (Ne.symm h.nFD)]; exact h.hD, ⟨fs, upd_same, hr⟩, ⟨qs, by rw [upd_ne (Ne.symm h.ne)]; exact q1, q2⟩⟩
theorem FitI.putQ (h : FitI tg tm pss tds G H aD aF aQ Dd Df Dq) {E : List (List (List Nat) × List Nat)} {qs : List V} (hr : Rs (QR tds) G qs (Qd (st0 pss) (alM tg) E)) : FitI tg tm pss tds G (upd H aQ (.lst qs)) aD aF aQ Dd Df E := by
  obtain ⟨fs, q1, q2⟩ := h.hF
  exact ⟨Ex.mut h.ex h.fQ, h.fD, h.fF, h.fQ, h.ne, by rw [upd_ne (Ne.symm h.nQD)]; exact h.hD, ⟨fs, by rw [upd_ne h.ne]; exact q1, q2⟩, ⟨qs, upd_same, hr⟩⟩
end
theorem nlF {C : Addr} (ps : List Str) (p : Addr) (H : Hp) (D : Addr) (acc : List V) (h : FormR C ps p H) (hD : H D = some (.lst acc)) : p ≠ D := fun z => by
  obtain ⟨⟨dx, t, c, f1, _⟩, _⟩ := h
  rw [z, hD] at f1
  cases f1
def formsL (ts : List Pt) : List (List Str) := (ts.map Pt.forms).flatten
theorem formsL_len : ∀ ts : List Pt, (formsL ts).length = lvs ts
  | [] => rfl
  | t :: ts => by
    show (t.forms ++ formsL ts).length = t.leaves + lvs ts
    rw [List.length_append, formsL_len ts, t.forms_len]
theorem el_zeros {σ : L2.St} {H : Hp} {te : TE} {n : Nat} (h : Ev te σ H (.int (n : Int))) (hn : n ≤ 1000) : EvL (tOp rRep (tLst (tCons (tC (.int 0)) tNil)) te) σ H ((List.replicate n 0).map vN) := fun H1 e Q q =>
  (el_lst (ea_cons (ev_c (v := .int 0)) ea_nil) (by simp)) H1 e _ fun l H2 hl e2 h2 => h H2 (e.trans e2) _ fun H3 e3 => ⟨l, (n : Int), [.int 0], rfl, rfl, e3 _ _ h2, by omega, by omega, by
    show 1 * (n : Int).toNat ≤ sizeLine
    exact sz_of (by omega), fun p hp => q p _ (fresh_back (e2.trans e3) hp) ((e2.trans e3).trans (Ex.new hp)) (by
    rw [upd_same]
    have : (List.replicate (n : Int).toNat [V.int 0]).flatten = (List.replicate n 0).map vN := by
      rw [Int.toNat_natCast, List.map_replicate]
      clear q h hn
      induction n with
      | zero => rfl
      | succ n ih =>
        rw [List.replicate_succ, List.flatten_cons, ih]
        rfl
    rw [this])⟩
theorem eu_tupE {σ : L2.St} {H : Hp} {te : TE} {xs : List V} (h : EvL te σ H xs) : EvU (tCB (fun xs H Q => ∃ p ys, xs = [.ref p] ∧ ((SqL K H p ys ∧ ∀ l, H l = none → Q (.ref l) (upd H l (.tup ys))) ∨ (SqT K H p ys ∧ Q (.ref p) H))) (tCons te tNil)) σ H xs := fun H1 e Q q =>
  h H1 e _ fun l H2 hl e2 h2 => ⟨l, xs, rfl, .inl ⟨sq_of h2, fun m hm => q m _ (fresh_back e2 hm) (e2.trans (Ex.new hm)) upd_same⟩⟩
theorem q_queue {σ : L2.St} {H : Hp} {D : Ends} {tz : TS} {ta : TE} {xs : List V} {s : Str} {i : Nat} (h : EvU ta σ H xs) (k : ∀ (t0 p0 aQ : Addr) (H1 : Hp), H t0 = none → Ex H H1 → H1 t0 = some (.tup xs) → H1 p0 = none → upd H1 p0 (.tup [.ref t0, .str s]) aQ = none → tz D (σ.set i (some (.ref aQ))) (upd (upd H1 p0 (.tup [.ref t0, .str s])) aQ (.lst [.ref p0]))) :
    tSeq (tAsg (tLst (tCons (tTup (tCons ta (tCons (tC (.str s)) tNil))) tNil)) (gName i)) tz D σ H := h H (Ex.refl _) _ fun t0 H1 h0 e1 h1 => ⟨sz_of (by simp), fun p0 hp0 => ⟨sz_of (by simp), fun aQ hQ => k t0 p0 aQ H1 h0 e1 h1 hp0 hQ⟩⟩
theorem s_appLU {K : PySem.W.Frag} {σ : L2.St} {H : Hp} {D : Ends} {ta t1 t2 : TE} {l : Addr} {xs ys : List V} {v : V} (hl : H l = some (.lst xs)) (ha : Ev ta σ H (.ref l)) (h1 : EvL t1 σ H ys) (h2 : Ev t2 σ H v) (hz : xs.length < 100000)
    (k : ∀ (q : Addr) (H1 : Hp), H q = none → Ex H H1 → H1 q = some (.lst ys) → ∀ (p : Addr) (H2 : Hp), H1 p = none → Ex H1 H2 → H2 p = some (.tup [.ref q, v]) → D.nx σ (upd H2 l (.lst (xs ++ [.ref p])))) :
    tDrop (tBM K "list" rAppend ta (tCons (tTup (tCons t1 (tCons t2 tNil))) tNil)) D σ H := ha H (Ex.refl H) _ fun H1 e1 =>
  ⟨Or.inl ⟨rfl, xs, sq_of (e1 l _ hl)⟩, h1 H1 e1 _ fun q H2 hq e2 hq2 => h2 H2 (e1.trans e2) _ fun H3 e3 => ⟨sz_of (by simp), fun p hp => ⟨l, xs, .ref p, rfl, rfl, Ex.new hp _ _ (e3 _ _ (e2 l _ (e1 l _ hl))), sz_lt hz,
    k q H3 (fresh_back e1 hq) (e1.trans (e2.trans e3)) (e3 _ _ hq2) p _ hp (Ex.new hp) upd_same⟩⟩⟩
theorem et_seen {σ : L2.St} {H : Hp} {i j : Nat} {p a : Addr} {tds : List TD} {S : List (List Nat)} {D : List (List (List Nat) × List Nat)} (hi : σ[i]? = some (some (.ref p))) (hj : σ[j]? = some (some (.ref a))) (ha : H a = some (.dT (seenK tds D))) (hp : H p = some (.tup ((numM tds S).map vN)))
    (inj : ∀ e ∈ D, numM tds e.1 = numM tds S → e.1 = S) : EvT (tB (tDNotIn (tVar i) (tVar j))) σ H (decide (S ∉ D.map Prod.fst)) := by
  have e : decide (S ∉ D.map Prod.fst) = !(valV (seenK tds D) (kI (numM tds S))).isSome := by
    rw [seen_val D inj]
    by_cases h : S ∈ D.map Prod.fst
    · rw [if_pos h]
      simp only [h, not_true, decide_false]
      rfl
    · rw [if_neg h]
      simp only [h, not_false_iff, decide_true]
      rfl
  rw [e]
  exact fun H1 e Q q => ⟨_, hi, _, hj, a, _, rfl, DGet.t (e _ _ ha) (kI_tup (e _ _ hp)), _, rfl, q H1 (Ex.refl _)⟩
theorem qd_snoc {α : Type} [DecidableEq α] {x0 : α} {al : α → Bool} (D : List (α × List Nat)) (e : α × List Nat) : Qd x0 al (D ++ [e]) = Qd x0 al D ++ (if al e.1 = true then [e] else []) := by
  unfold Qd
  rw [List.filter_append]
  by_cases h : al e.1 = true <;> simp [h]
theorem fnd_snoc {tg tm : List Pt} {pss : List (List Str)} (D : List (List (List Nat) × List Nat)) (e : List (List Nat) × List Nat) : fndM tg tm pss (D ++ [e]) = fndM tg tm pss D ++ (if glM tg pss e.1 = true then [(mkM tg tm pss e.1, e.2)] else []) := by
  unfold fndM
  rw [List.filter_append, List.map_append]
  by_cases h : glM tg pss e.1 = true <;> simp [h]
theorem el_callLL {σ : L2.St} {H : Hp} {sp : Sp} {E : XK} {t1 t2 : TE} {xs ys zs : List V} (h1 : EvL t1 σ H xs) (h2 : EvL t2 σ H ys) (hs : ∀ p q H1, Ex H H1 → H1 p = some (.lst xs) → H1 q = some (.lst ys) → SpL sp [.ref p, .ref q] H1 zs) :
    EvL (tCall sp [] E (tCons t1 (tCons t2 tNil))) σ H zs := fun H1 e Q q => h1 H1 e _ fun p H2 hp e2 h2' => h2 H2 (e.trans e2) _ fun r H3 hr e3 h3 =>
  hs p r H3 ((e.trans e2).trans e3) (e3 _ _ h2') h3 H3 (Ex.refl _) Q (fun l H4 hl e4 h4 => q l H4 (fresh_back (e2.trans e3) hl) ((e2.trans e3).trans e4) h4) E
theorem num_0 {cs : List Nat} {pss : List (List Str)} {tds : List TD} (h : TabsOk cs pss tds) : numM tds (st0 pss) = List.replicate pss.length 0 := by
  refine List.eq_replicate_iff.mpr ⟨num_len h.1 [], fun b hb => ?_⟩
  obtain ⟨i, hi⟩ := List.mem_iff_getElem?.mp hb
  have h1 := (List.getElem?_eq_some_iff.mp hi).1
  have h2 : (numM tds (st0 pss)).length = pss.length := num_len h.1 []
  have h3 : i < pss.length := by omega
  have h4 : i < tds.length := by have := h.1; omega
  have hz : (pss.zip tds)[i]? = some (pss[i], tds[i]) := List.getElem?_zip_eq_some.mpr ⟨List.getElem?_eq_getElem h3, List.getElem?_eq_getElem h4⟩
  have e : (numM tds (st0 pss))[i]? = some ((tds[i]).sts.idxOf (stM [] pss[i])) := num_at (w := []) hz
  rw [hi] at e
  obtain ⟨T, _⟩ := h.2 _ (List.mem_of_getElem? hz)
  rw [idx_of T.nd T.head] at e
  exact Option.some.inj e
/-- what _fitting tells -/
structure FitR (tg tm : List Pt) (only : Bool) (F : List (List Bool × List Nat)) : Prop where
  ok : ∀ e ∈ F, e.2 ≠ [] ∧ (∀ c ∈ e.2, c ∈ csM (formsL (tg ++ tm))) ∧ glM tg (formsL (tg ++ tm)) ((formsL (tg ++ tm)).map (stM e.2)) = true ∧ e.1 = mkM tg tm (formsL (tg ++ tm)) ((formsL (tg ++ tm)).map (stM e.2))
  inc : F.Pairwise fun a b => sl a.2 b.2
  least : ∀ w : List Nat, w ≠ [] → (∀ c ∈ w, c ∈ csM (formsL (tg ++ tm))) → glM tg (formsL (tg ++ tm)) ((formsL (tg ++ tm)).map (stM w)) = true → ∃ e ∈ F, sle e.2 w
  all : only = false → ∀ w : List Nat, w ≠ [] → (∀ c ∈ w, c ∈ csM (formsL (tg ++ tm))) → glM tg (formsL (tg ++ tm)) ((formsL (tg ++ tm)).map (stM w)) = true → ∃ e ∈ F, sle e.2 w ∧ e.1 = mkM tg tm (formsL (tg ++ tm)) ((formsL (tg ++ tm)).map (stM w))
def spFit (K : PySem.W.Frag) (CF CB CE : Addr) (d : Nat) : Sp := fun vs H Q _ => ∃ (a b : Addr) (us ws : List V) (tg tm : List Pt) (only : Bool), vs = [.ref a, .ref b, .bl only] ∧ SqL K H a us ∧ Rs (PatR CF CB CE d) H us tg ∧ SqL K H b ws ∧ Rs (PatR CF CB CE d) H ws tm ∧
  lvs (tg ++ tm) ≤ 4 ∧ (fxC (formsL (tg ++ tm))).length ≤ 48 ∧ (tg ++ tm).length ≤ 100 ∧ cnt (formsL (tg ++ tm)) ≤ 90000 ∧ ∀ F l vs H2, FitR tg tm only F → H l = none → Ex H H2 → H2 l = some (.lst vs) → Rs FndR H2 vs F → Q (.ref l) H2
theorem Rs.mem {α : Type} {R : α → Addr → Hp → Prop} {H : Hp} {vs : List V} {xs : List α} (r : Rs R H vs xs) {x : α} (hx : x ∈ xs) : ∃ p, R x p H := by
  obtain ⟨i, hi⟩ := List.mem_iff_getElem?.mp hx
  obtain ⟨p, _, h⟩ := r.at hi
  exact ⟨p, h⟩
theorem ok__fitting {f : Addr} {fd : FuncData} (F : Fun K "_fitting" "_fitting" s__fitting f fd) (T : Txt K mg a_OPEN_PARTS C_Both C_Either C_Form) (D_Form_forms : DfM P w K mg base C_Form "forms" ["self"] 1 (spForms C_Form C_Both C_Either none 0)) (D_Both_forms__v2 : DfM P w K mg base C_Both "forms" ["self"] 3 (spForms C_Form C_Both C_Either (some true) 2)) (D_Either_forms__v2 : DfM P w K mg base C_Either "forms" ["self"] 3 (spForms C_Form C_Both C_Either (some false) 2)) (D_signs_for : Df P w K mg base "signs_for" ["forms"] 2 (spSigns K C_Form)) (D_numbered : Df P w K mg base "numbered" ["form", "signs"] 3 (spNumbered K C_Form))
    (D__held : Df P w K mg base "_held" ["patterns", "told"] 4 (spHeld K C_Form C_Both C_Either 2)) (D__may_hold : Df P w K mg base "_may_hold" ["goals", "state"] 5 (spMay K C_Form C_Both C_Either 2)) (D_truths : Df P w K mg base "truths" ["forms", "state"] 2 (spTruthsL K C_Form)) :
    FnOk P w K mg base CX0 6 f fd ["goals", "marks", "only_first"] (spFit K C_Form C_Both C_Either 2) := by
  refine F.ok sc__fitting (fun vs H Q E h => ?_) (fun cdv A outer s0 H vs Q E hr h => ?_)
  · obtain ⟨a, b, us, ws, tg, tm, only, rfl, _⟩ := h
    rfl
  · obtain ⟨a, b, us, ws, tg, tm, only, rfl, hA, hG, hB, hM, hl3, hl48, h100, hcnt, q⟩ := h
    refine ⟨_, (pss_cons (ps_setLc2 (i := 3) (own := [("pattern", 17), ("form", 18)]) (g := gName 17) (g1 := gName 18) (vs1 := [18]) rfl sc__fitting.nd rfl rfl (sw_true rfl rfl rfl (by decide +kernel)) (pi_list (pe_lst (pa_star (pv 0) (pa_star (pv 1) pa_nil)))) (blkOk_by (own := [("pattern", 17), ("form", 18)]) (N := ["goals", "marks", "only_first", "forms", "signs", "tables", "seen", "found", "queue", "at", "numbers", "line", "k", "sign", "after", "state", "told", "pattern", "form", "n", "_", "rows", "states"]) (sc := defScope s__fitting) (by decide +kernel)) (by decide) (fun _ _ _ _ _ => pg_name (i := 17) sc__fitting.nd rfl (Or.inl rfl)) (fun _ _ _ _ _ => pts_nil) (fun _ _ _ _ _ => (pi_listK K rfl (pe_alt (pe_mth0 (k := 1) T.k_Form D_Form_forms (hr.mono (j := 1) (by decide)) (pv 17))
        (pe_alt (pe_mth0 (k := 3) T.k_Both D_Both_forms__v2 (hr.mono (j := 3) (by decide)) (pv 17))
        (pe_mth0 (k := 3) T.k_Either D_Either_forms__v2 (hr.mono (j := 3) (by decide)) (pv 17)))))) (fun _ _ _ _ _ => pg_name (i := 18) sc__fitting.nd rfl (Or.inl rfl)) (fun _ _ _ _ _ => pts_nil) (fun _ _ _ _ _ => (pv 18)))
      (pss_cons (ps_set (i := 4) sc__fitting.nd rfl (Or.inr rfl) (pe_df D_signs_for (hr.mono (by decide)) (by rfl) (pa_cons (pv 3) pa_nil)))
      (pss_cons (ps_setLc (i := 5) (own := [("form", 18)]) (g := gName 18) rfl sc__fitting.nd rfl rfl (sw_true rfl rfl rfl (by decide +kernel)) (pi_list (pv 3)) (blkOk_by (own := [("form", 18)]) (N := ["goals", "marks", "only_first", "forms", "signs", "tables", "seen", "found", "queue", "at", "numbers", "line", "k", "sign", "after", "state", "told", "pattern", "form", "n", "_", "rows", "states"]) (sc := defScope s__fitting) (by decide +kernel)) (fun _ _ _ _ _ => pg_name (i := 18) sc__fitting.nd rfl (Or.inl rfl)) (fun _ _ _ _ _ => pts_nil) (fun _ _ _ _ _ => (pe_df (k := 3) D_numbered (hr.mono (j := 3) (by decide)) (by rfl) (pa_cons (pv 18) (pa_cons (pv 4) pa_nil)))))
      (pss_cons (ps_set (i := 6) sc__fitting.nd rfl (Or.inl rfl) pe_dnewT)
      (pss_cons (ps_set (i := 7) sc__fitting.nd rfl (Or.inl rfl) (pe_lst pa_nil))
      (pss_cons (ps_set (i := 8) sc__fitting.nd rfl (Or.inl rfl) (pe_lst (pa_cons (pe_tup (pa_cons (pe_callTy call_tuple_of (by rfl) T.n_tuple (by decide +kernel) (pa_cons (pe_op op_rep (pe_lst (pa_cons pe_int pa_nil)) (pe_callB call_len_seq (by rfl) T.n_len PySem.boot_len (pa_cons (pv 3) pa_nil))) pa_nil)) (pa_cons pe_str pa_nil))) pa_nil)))
      (pss_cons (ps_set (i := 9) sc__fitting.nd rfl (Or.inl rfl) pe_int)
      (pss_cons (ps_while PassesOwn.never (PW.pt (pw_and (pt_cmpR op_lt (pv 9) (pe_callB call_len_seq (by rfl) T.n_len PySem.boot_len (pa_cons (pv 8) pa_nil)) (nomark _)) (pw_and1 (pt_not (PW.pt (pw_and (pt_val (pv 2)) (pw_and1 (pt_cmpR op_gt (pe_callB call_len_seq (by rfl) T.n_len PySem.boot_len (pa_cons (pv 7) pa_nil)) pe_int (nomark _)))))))))
      (pss_cons (ps_asg (pe_ix ix_list (pv 8) (pv 9) (fun _ _ => rfl)) (pg_tup rfl (pgs_cons (pg_name (i := 10) sc__fitting.nd rfl (Or.inl rfl)) (pgs_cons (pg_name (i := 11) sc__fitting.nd rfl (Or.inl rfl)) pgs_nil))))
      (pss_cons (ps_for PassesOwn.never rfl (pi_enum (by rfl) T.n_enumerate (pa_cons (pv 4) pa_nil)) (pg_tup rfl (pgs_cons (pg_name (i := 12) sc__fitting.nd rfl (Or.inr rfl)) (pgs_cons (pg_name (i := 13) sc__fitting.nd rfl (Or.inl rfl)) pgs_nil)))
      (pss_cons (ps_set (i := 14) sc__fitting.nd rfl (Or.inl rfl) (pe_callTy call_tuple_of (by rfl) T.n_tuple (by decide +kernel) (pa_cons (pe_lc (own := [("_", 20), ("rows", 21), ("n", 19)]) (g := gTup K 2 (gCons (gTup K 2 (gCons (gName 20) (gCons (gName 21) gNil))) (gCons (gName 19) gNil))) rfl sc__fitting.nd (pi_zipM (by rfl) T.n_zip (pa_cons (pv 5) (pa_cons (pv 10) pa_nil))) (blkOk_by (own := [("_", 20), ("rows", 21), ("n", 19)]) (N := ["goals", "marks", "only_first", "forms", "signs", "tables", "seen", "found", "queue", "at", "numbers", "line", "k", "sign", "after", "state", "told", "pattern", "form", "n", "_", "rows", "states"]) (sc := defScope s__fitting) (by decide +kernel)) (fun _ _ _ _ _ => pg_tup rfl (pgs_cons (pg_tup rfl (pgs_cons (pg_name (i := 20) sc__fitting.nd rfl (Or.inl rfl)) (pgs_cons (pg_name (i := 21) sc__fitting.nd rfl (Or.inl rfl)) pgs_nil))) (pgs_cons (pg_name (i := 19) sc__fitting.nd rfl (Or.inl rfl)) pgs_nil))) (fun _ _ _ _ _ => pts_nil) (fun _ _ _ _ _ => (pe_ix (ix_listK K rfl) (pe_ix (ix_listK K rfl) (pv 21) (pv 19) (fun _ _ => rfl)) (pv 12) (fun _ _ => rfl)))) pa_nil)))
      (pss_one (ps_if (pt_cmp (pc_dnotin (hu_of hr) (pv 14) (pv 6)))
      (pss_cons (ps_dput (hu_of hr) (pv 6) (pv 14) pe_bl rfl)
      (pss_cons (ps_setLc (i := 15) (own := [("states", 22), ("_", 20), ("n", 19)]) (g := gTup K 2 (gCons (gTup K 2 (gCons (gName 22) (gCons (gName 20) gNil))) (gCons (gName 19) gNil))) rfl sc__fitting.nd rfl rfl (sw_true rfl rfl rfl (by decide +kernel)) (pi_zipM (by rfl) T.n_zip (pa_cons (pv 5) (pa_cons (pv 14) pa_nil))) (blkOk_by (own := [("states", 22), ("_", 20), ("n", 19)]) (N := ["goals", "marks", "only_first", "forms", "signs", "tables", "seen", "found", "queue", "at", "numbers", "line", "k", "sign", "after", "state", "told", "pattern", "form", "n", "_", "rows", "states"]) (sc := defScope s__fitting) (by decide +kernel)) (fun _ _ _ _ _ => pg_tup rfl (pgs_cons (pg_tup rfl (pgs_cons (pg_name (i := 22) sc__fitting.nd rfl (Or.inl rfl)) (pgs_cons (pg_name (i := 20) sc__fitting.nd rfl (Or.inl rfl)) pgs_nil))) (pgs_cons (pg_name (i := 19) sc__fitting.nd rfl (Or.inl rfl)) pgs_nil))) (fun _ _ _ _ _ => pts_nil) (fun _ _ _ _ _ => (pe_ix (ix_listK K rfl) (pv 22) (pv 19) (fun _ _ => rfl))))
      (pss_cut (ps_if (pt_val (pe_df D__may_hold (hr.mono (by decide)) (by rfl) (pa_cons (pv 0) (pa_cons (pv 15) pa_nil))))
      (pss_one (ps_expr (pe_bm PySem.F.plainAttrs_list PySem.F.slot_list_append PySem.F.type_list_append mt_append (pv 8) (pa_cons (pe_tup (pa_cons (pv 14) (pa_cons (pe_op op_add_str (pv 11) (pv 13)) pa_nil))) pa_nil))))
      pss_nil)
      (pss_cons (ps_set (i := 16) sc__fitting.nd rfl (Or.inl rfl) (pe_df D__held (hr.mono (by decide)) (by rfl) (pa_cons (pe_lst (pa_star (pv 0) (pa_star (pv 1) pa_nil))) (pa_cons (pe_df D_truths (hr.mono (by decide)) (by rfl) (pa_cons (pv 3) (pa_cons (pv 15) pa_nil))) pa_nil))))
      (pss_one (ps_if (pt_val (pe_callB (cr_all rfl) (by rfl) T.n_all (by decide +kernel) (pa_cons (pe_slice sl_list (pv 16) po_none (po_some (pe_callB call_len_seq (by rfl) T.n_len PySem.boot_len (pa_cons (pv 0) pa_nil)))) pa_nil)))
      (pss_one (ps_expr (pe_bm PySem.F.plainAttrs_list PySem.F.slot_list_append PySem.F.type_list_append mt_append (pv 7) (pa_cons (pe_tup (pa_cons (pe_slice sl_list (pv 16) (po_some (pe_callB call_len_seq (by rfl) T.n_len PySem.boot_len (pa_cons (pv 0) pa_nil))) po_none) (pa_cons (pe_op op_add_str (pv 11) (pv 13)) pa_nil))) pa_nil))))
      pss_nil))))))
      pss_nil))))
      (pss_one (ps_aug (i := 9) sc__fitting.nd rfl (Or.inl rfl) pe_int ip_add)))))
      (pss_one (ps_ret (pv 7))))))))))), ?_⟩
    have lg := hG.len
    have lm := hM.len
    have hlen : (us ++ ws).length = (tg ++ tm).length := by rw [List.length_append, List.length_append, lg, lm]
    have hGM := hG.app' hM
    have hfl := formsL_len (tg ++ tm)
    refine q_asgRs (R := FormR C_Form) (xs := formsL (tg ++ tm)) (ers_flat (us := us ++ ws) (ys := (tg ++ tm).map Pt.forms) upF offF nlF (el_star2 (ev_var rfl) (ev_var rfl) hA hB (by omega)) (by rw [List.length_map, hlen]) (by
      show (formsL (tg ++ tm)).length ≤ 40000
      omega) (fun _ => rfl) (fun _ _ => rfl) (fun i u y H1 e hu hy => by
      obtain ⟨p, t, rfl, ht, hP⟩ := hGM.get hu
      rw [List.getElem?_map, ht] at hy
      cases hy
      exact g_forms (ev_var rfl) (upP _ _ _ _ e hP)) (fun u x H1 e => ev_var rfl)) fun l3 vs3 H1 hl3' e1 h3 r3 => ?_
    generalize hps : formsL (tg ++ tm) = pss at *
    have good : ∀ ps ∈ pss, GoodP ps := fun ps hp => by
      obtain ⟨p, hp⟩ := Rs.mem r3 hp
      exact hp.2
    have l3n := r3.len
    -- signs
    show tSeq (tAsg (tCall (spSigns K C_Form) [] E0 (tCons (tVar 3) tNil)) (gName 4)) _ _ _ _
    refine ⟨_, rfl, l3, vs3, pss, rfl, sq_of h3, r3, hl48, by omega, good, fun ys l4 H2 y1 y2 y3 hl4 e2 h4 => ?_⟩
    have eys := ys_csM good y1 y2 y3
    have h4' : H2 l4 = some (.lst (strC (csM pss))) := by rw [h4, eys, strC_map]
    have c68 := csM_len pss
    have cne := csM_ne pss good
    refine q_asgRs (R := TabE (csM pss)) (xs := pss) (ers_lc2 upT offT (ev_var rfl) (sq_of (e2 _ _ h3)) (by omega) (by omega) (fun _ => rfl) (fun i u y H' e hu hy => by
      obtain ⟨p, ps, rfl, hp2, hF⟩ := r3.get hu
      rw [hp2] at hy
      cases hy
      exact fun H1' e' Q' q' => ⟨_, rfl, _, rfl, p, l4, _, csM pss, rfl, upF _ _ _ _ (e2.trans (e.trans e')) hF, sq_of (e' _ _ (e _ _ h4')), by omega, cne, fun p' H2' hp' e2' ht => q' p' H2' hp' e2' ht.td⟩)) fun l5 vs5 H3 hl5 e3 h5 r5 => ?_
    obtain ⟨tds, htl, rT⟩ := r5.choose
    have tok : TabsOk (csM pss) pss tds := ⟨htl, fun e he => by
      obtain ⟨p, _, _, _, _, _, T, hl, _⟩ := Rs.mem rT he
      exact ⟨T, hl⟩⟩
    have l5n := rT.len
    rw [List.length_zip, htl, Nat.min_self] at l5n
    -- seen, found, the queue
    show tSeq (tAsg tDNewT (gName 6)) _ _ _ _
    refine fun aD hD0 => ?_
    show tSeq (tAsg (tLst tNil) (gName 7)) _ _ _ (upd H3 aD (.dT []))
    refine q_asgL (el_lst ea_nil (Nat.zero_le _)) fun aF H4 hF0 e4 h4F => ?_
    have eD := Ex.new (o := .dT []) hD0
    have h34 : Ex H3 H4 := eD.trans e4
    have h4D : H4 aD = some (.dT []) := e4 _ _ upd_same
    refine q_queue (eu_tupE (K := K) (el_zeros (n := vs3.length) (ev_len (K := K) (ev_var (i := 3) rfl) (sq_of (h34 _ _ (e3 _ _ (e2 _ _ h3))))) (by omega))) fun t0 p0 aQ H5 ht0 e5 h5t hp0 hQ0 => ?_
    have hp0' : H5 p0 = none := hp0
    have e6 := Ex.new (o := .tup [V.ref t0, V.str ""]) hp0'
    have hQ0' : upd H5 p0 (.tup [V.ref t0, V.str ""]) aQ = none := hQ0
    have e7 := Ex.new (o := .lst [V.ref p0]) hQ0'
    have I0 : FitI tg tm pss tds (upd (upd H3 t0 (.tup ((List.replicate vs3.length 0).map vN))) p0 (.tup [V.ref t0, V.str ""])) (upd (upd H5 p0 (.tup [V.ref t0, V.str ""])) aQ (.lst [V.ref p0])) aD aF aQ [] [] [] := by
      have k1 : Ex (upd H3 t0 (.tup ((List.replicate vs3.length 0).map vN))) H5 := Ex.keep h34 ht0 e5 h5t
      have k2 : Ex (upd (upd H3 t0 (.tup ((List.replicate vs3.length 0).map vN))) p0 (.tup [V.ref t0, V.str ""])) (upd H5 p0 (.tup [V.ref t0, V.str ""])) := Ex.keep k1 hp0' e6 upd_same
      have j1 : H5 aD = some (.dT []) := e5 _ _ h4D
      have j2 : H5 aF = some (.lst []) := e5 _ _ h4F
      have f2 : H3 aF = none := fresh_back eD hF0
      have a1 : upd H3 t0 (.tup ((List.replicate vs3.length 0).map vN)) aD = none := upd_none hD0 (ne_at h4D ht0)
      have a2 : upd H3 t0 (.tup ((List.replicate vs3.length 0).map vN)) aF = none := upd_none f2 (ne_at h4F ht0)
      refine ⟨k2.trans e7, upd_none a1 (ne_at j1 hp0'), upd_none a2 (ne_at j2 hp0'), fresh_back k2 hQ0', ne_at (e6 _ _ j2) hQ0', e7 _ _ (e6 _ _ j1), ⟨[], e7 _ _ (e6 _ _ j2), .nil⟩, ⟨[.ref p0], upd_same, .cons ⟨t0, upd_same, ?_⟩ .nil⟩⟩
      rw [num_0 tok, ← l3n]
      exact (Ex.new (fresh_back k1 hp0')) _ _ upd_same
    obtain ⟨G5, eG5, I5⟩ : ∃ G5, Ex H3 G5 ∧ FitI tg tm pss tds G5 (upd (upd H5 p0 (.tup [V.ref t0, V.str ""])) aQ (.lst [V.ref p0])) aD aF aQ [] [] [] :=
      ⟨_, (Ex.new (fresh_back h34 ht0)).trans (Ex.new (fresh_back (Ex.keep h34 ht0 e5 h5t) hp0')), I0⟩
    refine q_asg ev_c fun H6 e8 => ?_
    refine q_while (fun m σ' H' => ∃ (G : Hp) (D : List (List (List Nat) × List Nat)) (at_ : Nat) (c10 c11 c12 c13 c14 c15 c16 c17 c18 c19 c20 c21 c22 : Option V), σ' = [some (.ref a), some (.ref b), some (.bl only), some (.ref l3), some (.ref l4), some (.ref l5), some (.ref aD), some (.ref aF), some (.ref aQ), some (.int (at_ : Int)), c10, c11, c12, c13, c14, c15, c16, c17, c18, c19, c20, c21, c22] ∧ Ex H3 G ∧
      FitI tg tm pss tds G H' aD aF aQ D D D ∧ Bf (stp pss) (st0 pss) (csM pss) (alM tg) D at_ 0 ∧ at_ ≤ (Qd (st0 pss) (alM tg) D).length ∧ m = cnt pss + 1 - at_) (cnt pss + 1) ⟨G5, [], 0, none, none, none, none, none, none, none, none, none, none, none, none, none, rfl, eG5, I5.same e8, Bf.start, Nat.zero_le _, rfl⟩ ?_
    rintro m σ' H' ⟨G, D, at_, c10, c11, c12, c13, c14, c15, c16, c17, c18, c19, c20, c21, c22, rfl, eG, I, B, hat, rfl⟩
    obtain ⟨fs, f1, f2⟩ := I.hF
    obtain ⟨qs, q1, q2⟩ := I.hQ
    have lq := q2.len
    have lf := f2.len
    have few := bf_few B
    refine ⟨_, et_and (et_test (ev_op (ev_var rfl) (ev_len (ev_var rfl) (sq_of q1)) rv_I0)) (fun _ => et_not (et_and (et_test (ev_var rfl)) (fun _ => et_test (ev_op (ev_len (ev_var rfl) (sq_of f1)) ev_c rv_I0)))), fun hb H7 e9 => ?_, fun hb H7 e9 => ?_⟩
    · rw [Bool.and_eq_true] at hb
      have hb1 : (at_ : Int) < (qs.length : Int) := of_decide_eq_true hb.1
      have I7 := I.same e9
      have hlt : at_ < (Qd (st0 pss) (alM tg) D).length := by omega
      obtain ⟨S, y, hSy⟩ : ∃ S y, (Qd (st0 pss) (alM tg) D)[at_]? = some (S, y) := ⟨_, _, List.getElem?_eq_getElem hlt⟩
      obtain ⟨p, hp1, t, ht1, ht2⟩ := q2.at hSy
      refine ⟨_, fun _ _ z => z, ?_⟩
      refine ⟨_, rfl, _, rfl, aQ, qs, at_, .ref p, rfl, rfl, sq_of (e9 _ _ q1), atI_nat hp1, p, [.ref t, .str (tx y)], rfl, st_of (e9 _ _ (I.ex _ _ ht1)), rfl, .ref t, [.str (tx y)], rfl, .str (tx y), [], rfl, rfl, ?_⟩
      refine q_forEL (a := l4) (xs := strC (csM pss)) (ev_var rfl) (sq_of (I7.ex _ _ (eG _ _ (e3 _ _ h4'))))
        (fun i σ' H' => ∃ (G2 : Hp) (D2 : List (List (List Nat) × List Nat)) (d12 d13 d14 d15 d16 : Option V), σ' = [some (.ref a), some (.ref b), some (.bl only), some (.ref l3), some (.ref l4), some (.ref l5), some (.ref aD), some (.ref aF), some (.ref aQ), some (.int (at_ : Int)), some (.ref t), some (.str (tx y)), d12, d13, d14, d15, d16, c17, c18, c19, c20, c21, c22] ∧ Ex G G2 ∧
          FitI tg tm pss tds G2 H' aD aF aQ D2 D2 D2 ∧ Bf (stp pss) (st0 pss) (csM pss) (alM tg) D2 at_ i ∧ (Qd (st0 pss) (alM tg) D2)[at_]? = some (S, y))
        (fun H8 e10 => ⟨G, D, c12, c13, c14, c15, c16, rfl, Ex.refl _, I7.same e10, B, hSy⟩) (fun i σ' H' _ pv => ?_) ?_ ?_
      · obtain ⟨G2, D2, d12, d13, d14, d15, d16, _, eG2, I8, _⟩ := pv
        exact sq_of (I8.ex _ _ (eG2 _ _ (eG _ _ (e3 _ _ h4'))))
      · rintro i x σ' H8 T0 hx ⟨G2, D2, d12, d13, d14, d15, d16, rfl, eG2, I8, B8, hSy8⟩ hT0
        obtain ⟨c, hc, rfl⟩ : ∃ c, (csM pss)[i]? = some c ∧ x = V.str (sg c) := by
          unfold strC at hx
          rw [List.getElem?_map] at hx
          cases hc : (csM pss)[i]? with
          | none =>
            rw [hc] at hx
            cases hx
          | some d =>
            rw [hc] at hx
            exact ⟨d, rfl, (Option.some.inj hx).symm⟩
        have I9 := I8.same (Ex.new (o := .tup [.int (i : Int), V.str (sg c)]) hT0)
        generalize upd H8 T0 (.tup [.int (i : Int), V.str (sg c)]) = H9 at I9
        obtain ⟨rfl, hyc, hyl⟩ : S = pss.map (stM y) ∧ (∀ d ∈ y, d ∈ csM pss) ∧ y.length ≤ D2.length := by
          rcases Qd_mem hSy8 with z | ⟨z, _⟩
          · cases z
            exact ⟨rfl, fun _ h => (nomatch h), Nat.zero_le _⟩
          · obtain ⟨r1, _, r3'⟩ := B8.run _ z
            rw [runX_st] at r1
            exact ⟨r1, r3', B8.len _ z⟩
        have hcm := List.mem_of_getElem? hc
        have hyc2 : ∀ d ∈ y ++ [c], d ∈ csM pss := fun d hd => (List.mem_append.mp hd).elim (hyc d) fun z => by
          rw [List.mem_singleton] at z
          exact z ▸ hcm
        have few8 := bf_few B8
        have e39 : Ex H3 H9 := eG.trans (eG2.trans I9.ex)
        have ht9 : H9 t = some (.tup ((numM tds (pss.map (stM y))).map vN)) := I9.ex _ _ (eG2 _ _ ht2)
        have B9 := B8.step (csM_up pss) hSy8 hc
        rw [stp_map] at B9
        have hQ9 : (Qd (st0 pss) (alM tg) (addD D2 (pss.map (stM (y ++ [c]))) (y ++ [c])))[at_]? = some (pss.map (stM y), y) := by
          unfold addD
          split
          · exact hSy8
          · exact Qd_more _ _ hSy8
        have few9 := bf_few B9
        refine q_asgU (xs := (numM tds (pss.map (stM (y ++ [c])))).map vN) (eu_tupE (K := K) (elv_zipN (K := K) (us := vs5) (vs := (numM tds (pss.map (stM y))).map vN) (ea_cons (ev_var rfl) (ea_cons (ev_var rfl) ea_nil)) (sq_of (e39 _ _ h5)) (st_of ht9) (by omega) (by
          rw [List.length_map, num_len htl]
          omega) (by
          rw [List.length_map, num_len htl]
          omega) (fun _ _ _ => rfl) fun i2 u v y2 hu hv hy2 => ?_)) fun p14 H10 hp10 e12 h10 => ?_
        · obtain ⟨pT, ⟨ps, d⟩, rfl, hz, g1, g2, g3, g4, g5, gT, g7, g8⟩ := rT.get hu
          obtain ⟨r, hr1, hr2⟩ := gT.lead g7 hyc hc
          obtain ⟨q0, hq1, hq2⟩ := g5.at hr1
          rw [List.getElem?_map, num_at hz] at hv hy2
          cases hv
          cases hy2
          refine ⟨pT, .ref d.aS, .ref d.aR, rfl, e39 _ _ g1, fun H1' e' => ?_⟩
          exact ev_op (ev_op (ev_var rfl) (ev_var rfl) (rv_ixL (sq_of (e' _ _ (e39 _ _ g3))) (atI_nat hq1))) (ev_var rfl) (rv_ixL (sq_of (e' _ _ (e39 _ _ hq2))) (atI_nat (by
            rw [List.getElem?_map, hr2]
            rfl)))
        have I10 := I9.keep hp10 e12 h10
        have e310 := e39.trans e12
        have inj : ∀ e ∈ D2, numM tds e.1 = numM tds (pss.map (stM (y ++ [c]))) → e.1 = pss.map (stM (y ++ [c])) := fun e he z => by
          obtain ⟨r1, _, r3'⟩ := B8.run e he
          rw [runX_st] at r1
          rw [r1] at z ⊢
          exact num_inj tok r3' hyc2 z
        have eG10 : Ex G (upd G2 p14 (.tup ((numM tds (pss.map (stM (y ++ [c])))).map vN))) := eG2.trans (Ex.new (fresh_back I9.ex hp10))
        have hG14 : (upd G2 p14 (.tup ((numM tds (pss.map (stM (y ++ [c])))).map vN))) p14 = some (.tup ((numM tds (pss.map (stM (y ++ [c])))).map vN)) := upd_same
        generalize (upd G2 p14 (.tup ((numM tds (pss.map (stM (y ++ [c])))).map vN))) = G10 at I10 eG10 hG14
        refine s_when (et_seen rfl rfl I10.hD h10 inj) (fun hb2 H11 e13 => ?_) (fun hb2 H11 e13 => ?_)
        · have hn : pss.map (stM (y ++ [c])) ∉ D2.map Prod.fst := of_decide_eq_true hb2
          have hadd : addD D2 (pss.map (stM (y ++ [c]))) (y ++ [c]) = D2 ++ [(pss.map (stM (y ++ [c])), y ++ [c])] := if_neg hn
          rw [hadd] at B9 hQ9 few9
          have I11 := I10.same e13
          have hpt : putK (seenK tds D2) (kI (numM tds (pss.map (stM (y ++ [c]))))) (V.bl true) = seenK tds (D2 ++ [(pss.map (stM (y ++ [c])), y ++ [c])]) := by
            rw [putK_new _ (by rw [seen_val D2 inj, if_neg hn])]
            unfold seenK
            rw [List.map_append]
            rfl
          show tSeq (sDPut (tVar 6) (tVar 14) (tC (.bl true))) _ _ _ _
          refine ⟨_, rfl, _, rfl, aD, _, rfl, DPut.t I11.hD (kI_tup (e13 _ _ h10)) (sz_lt (by unfold seenK; rw [List.length_map]; omega)), ?_⟩
          rw [hpt]
          have I12 := I11.putD (D2 ++ [(pss.map (stM (y ++ [c])), y ++ [c])])
          have e312 : Ex H3 (upd H11 aD (.dT (seenK tds (D2 ++ [(pss.map (stM (y ++ [c])), y ++ [c])])))) := (eG.trans eG10).trans I12.ex
          have h12 := I12.ex _ _ hG14
          generalize upd H11 aD (.dT (seenK tds (D2 ++ [(pss.map (stM (y ++ [c])), y ++ [c])]))) = H12 at I12 e312 h12
          -- state
          refine q_asgL (xs := stRef tds (numM tds (pss.map (stM (y ++ [c]))))) (elv_zipN (K := K) (us := vs5) (vs := (numM tds (pss.map (stM (y ++ [c])))).map vN) (ea_cons (ev_var rfl) (ea_cons (ev_var rfl) ea_nil)) (sq_of (e312 _ _ h5)) (st_of h12) (by omega) (by
            unfold stRef
            rw [List.length_zipWith, num_len htl]
            omega) (by
            rw [List.length_map, num_len htl]
            omega) (fun _ _ _ => rfl) fun i2 u v y2 hu hv hy2 => ?_) fun l15 H13 hl15 e14 h13 => ?_
          · obtain ⟨pT, ⟨ps, d⟩, rfl, hz, g1, g2, g3, g4, g5, gT, g7, g8⟩ := rT.get hu
            have hz2 := List.getElem?_zip_eq_some.mp hz
            obtain ⟨q0, hq1, hq2⟩ := g4.at (idx_at (gT.reach g7 _ hyc2))
            rw [List.getElem?_map, num_at hz] at hv
            cases hv
            rw [stRef_at hz2.2 (num_at hz)] at hy2
            have hq1' : d.us[d.sts.idxOf (stM (y ++ [c]) ps)]? = some (.ref q0) := hq1
            rw [hq1'] at hy2
            cases hy2
            refine ⟨pT, .ref d.aS, .ref d.aR, rfl, e312 _ _ g1, fun H1' e' => ?_⟩
            exact ev_op (ev_var rfl) (ev_var rfl) (rv_ixL (sq_of (e' _ _ (e312 _ _ g2))) (atI_nat hq1'))
          have I13 := I12.keep hl15 e14 h13
          have eG13 : Ex G10 (upd G10 l15 (.lst (stRef tds (numM tds (pss.map (stM (y ++ [c]))))))) := Ex.new (fresh_back I12.ex hl15)
          have hG15 : (upd G10 l15 (.lst (stRef tds (numM tds (pss.map (stM (y ++ [c]))))))) l15 = some (.lst (stRef tds (numM tds (pss.map (stM (y ++ [c])))))) := upd_same
          generalize (upd G10 l15 (.lst (stRef tds (numM tds (pss.map (stM (y ++ [c]))))))) = G13 at I13 eG13 hG15
          have hG13p := eG13 _ _ hG14
          have rS := st_refs rT htl hyc2
          have e3G : Ex H3 G13 := eG.trans (eG10.trans eG13)
          have eHG3 : Ex H G13 := e1.trans (e2.trans (e3.trans e3G))
          have lS : (pss.map (stM (y ++ [c]))).length = pss.length := List.length_map _
          have ltg : lvs tg ≤ pss.length := by
            rw [hfl, lvs_app]
            omega
          have htt : tg.length ≤ 100 := by
            rw [List.length_append] at h100
            omega
          have hty : (tx y).length + (sg c).length ≤ 100000 := by
            rw [tx_len]
            show y.length + 1 ≤ 100000
            omega
          refine q_cut (M := fun σ' H' => σ' = [some (.ref a), some (.ref b), some (.bl only), some (.ref l3), some (.ref l4), some (.ref l5), some (.ref aD), some (.ref aF), some (.ref aQ), some (.int (at_ : Int)), some (.ref t), some (.str (tx y)), some (.int (i : Int)), some (.str (sg c)), some (.ref p14), some (.ref l15), d16, c17, c18, c19, c20, c21, c22] ∧
            ∃ G3, Ex G13 G3 ∧ FitI tg tm pss tds G3 H' aD aF aQ (D2 ++ [(pss.map (stM (y ++ [c])), y ++ [c])]) D2 (D2 ++ [(pss.map (stM (y ++ [c])), y ++ [c])]))
            (s_when (b := alM tg (pss.map (stM (y ++ [c])))) (et_test fun H1' e' Q' q' => ⟨_, rfl, _, rfl, a, l15, us, _, tg, pss.map (stM (y ++ [c])), rfl, ex_l (eHG3.trans (I13.ex.trans e')) hA, hG.ex upP (eHG3.trans (I13.ex.trans e')), sq_of (e' _ _ h13), rS.ex upN (e3G.trans (I13.ex.trans e')), by omega, by omega, by omega, q'⟩) (fun hb3 H14 e15 => ?_) (fun hb3 H14 e15 => ?_)) ?_
          · have I14 := I13.same e15
            obtain ⟨qs8, q81, q82⟩ := I14.hQ
            have lq8 := q82.len
            have hq8 : (Qd (st0 pss) (alM tg) D2).length ≤ D2.length + 1 := by
              unfold Qd
              rw [List.length_cons]
              have := (List.filter_sublist (l := D2) (p := fun e => alM tg e.1)).length_le
              omega
            refine s_appU (l := aQ) q81 (ev_var rfl) (eu_tup (ea_cons (ev_var rfl) (ea_cons (ev_op (ev_var rfl) (ev_var rfl) (rv_cat hty)) ea_nil)) (by simp)) (by omega) fun p15 H15 hp15 e16 h15 => ?_
            rw [tx_snoc] at h15
            refine ⟨rfl, _, Ex.new (fresh_back I14.ex hp15), (I14.keep hp15 e16 h15).putQ ?_⟩
            rw [qd_snoc, if_pos hb3]
            exact (q82.ex upQ (Ex.new (fresh_back I14.ex hp15))).snoc ⟨p14, upd_same, Ex.new (fresh_back I14.ex hp15) _ _ hG13p⟩
          · have I14 := I13.same e15
            refine ⟨rfl, G13, Ex.refl _, I14.ex, I14.fD, I14.fF, I14.fQ, I14.ne, I14.hD, I14.hF, ?_⟩
            rw [qd_snoc, if_neg (by rw [hb3]; exact Bool.false_ne_true), List.append_nil]
            exact I14.hQ
          · rintro σ' H14 ⟨rfl, G3, eG3, I14⟩
            have eH14 : Ex H H14 := eHG3.trans (eG3.trans I14.ex)
            have e314 : Ex H3 H14 := e3G.trans (eG3.trans I14.ex)
            refine q_asgL (xs := (heldM (tg ++ tm) (pss.map (doneM (y ++ [c])))).map V.bl) (el_callLL (xs := us ++ ws) (ys := pss.map fun ps => V.bl (doneM (y ++ [c]) ps)) (el_star2 (K := K) (ev_var rfl) (ev_var rfl) (ex_l eH14 hA) (ex_l eH14 hB) (by omega))
              (el_call (ea_cons (ev_var rfl) (ea_cons (ev_var rfl) ea_nil)) fun H1' e' Q' q' E' => ⟨l3, l15, vs3, _, pss, y ++ [c], rfl, sq_of (e' _ _ (e314 _ _ (e3 _ _ (e2 _ _ h3)))), r3.ex upF (e2.trans (e3.trans (e314.trans e'))), by omega, sq_of (e' _ _ (I14.ex _ _ (eG3 _ _ hG15))), rS.ex upN (e314.trans e'), q'⟩)
              fun lp lt H1' e' hlp hlt H2' e2' Q' q' E' => ⟨lp, lt, us ++ ws, tg ++ tm, pss.map (doneM (y ++ [c])), rfl, sq_of (e2' _ _ hlp), hGM.ex upP (eH14.trans (e'.trans e2')), sq_of (by rw [e2' _ _ hlt, List.map_map]; rfl), by rw [List.length_map, hfl]; exact Nat.le_refl _, by omega, q'⟩) fun l16 H15 hl16 e16 h16 => ?_
            · have I15 := I14.keep hl16 e16 h16
              have eG15 : Ex G3 (upd G3 l16 (.lst ((heldM (tg ++ tm) (pss.map (doneM (y ++ [c])))).map V.bl))) := Ex.new (fresh_back I14.ex hl16)
              generalize (upd G3 l16 (.lst ((heldM (tg ++ tm) (pss.map (doneM (y ++ [c])))).map V.bl))) = G15 at I15 eG15
              have eA15 : SqL K H15 a us := ex_l (eH14.trans e16) hA
              have hsplit : heldM (tg ++ tm) (pss.map (doneM (y ++ [c]))) = heldM tg (pss.map (doneM (y ++ [c]))) ++ mkM tg tm pss (pss.map (stM (y ++ [c]))) := by
                rw [heldM_app]
                unfold mkM
                rw [dnM_map]
              have hgl : (heldM tg (pss.map (doneM (y ++ [c])))).all id = glM tg pss (pss.map (stM (y ++ [c]))) := by
                unfold glM
                rw [dnM_map]
              have ecut1 : cutV ((heldM (tg ++ tm) (pss.map (doneM (y ++ [c])))).map V.bl) none (some (us.length : Int)) = (heldM tg (pss.map (doneM (y ++ [c])))).map V.bl := by
                rw [cutV_lt, lg, hsplit, List.map_append]
                exact List.take_left' (by rw [List.length_map, heldM_len])
              have ecut2 : cutV ((heldM (tg ++ tm) (pss.map (doneM (y ++ [c])))).map V.bl) (some (us.length : Int)) none = (mkM tg tm pss (pss.map (stM (y ++ [c])))).map V.bl := by
                rw [cutV_ge, lg, hsplit, List.map_append]
                exact List.drop_left' (by rw [List.length_map, heldM_len])
              refine s_when (b := glM tg pss (pss.map (stM (y ++ [c])))) (et_test (hgl ▸ ev_all (K := K) (bs := heldM tg (pss.map (doneM (y ++ [c])))) (ecut1 ▸ el_sl (K := K) (ev_var rfl) eo_none (eo_some (ev_len (K := K) (ev_var rfl) eA15)) (sq_of h16)))) (fun hb4 H16 e17 => ?_) (fun hb4 H16 e17 => ?_)
              · have I16 := I15.same e17
                obtain ⟨fs8, f81, f82⟩ := I16.hF
                have lf8 := f82.len
                have hf8 : (fndM tg tm pss D2).length ≤ D2.length := by
                  unfold fndM
                  rw [List.length_map]
                  exact (List.filter_sublist (l := D2) (p := fun e => glM tg pss e.1)).length_le
                refine s_appLU (K := K) (l := aF) f81 (ev_var rfl) (ecut2 ▸ el_sl (K := K) (ev_var rfl) (eo_some (ev_len (K := K) (ev_var rfl) (ex_l e17 eA15))) eo_none (sq_of (e17 _ _ h16))) (ev_op (ev_var rfl) (ev_var rfl) (rv_cat hty)) (by omega) fun q9 H17 hq9 e18 h17 p9 H18 hp9 e19 h18 => ?_
                rw [tx_snoc] at h18
                have I17 := I16.keep hq9 e18 h17
                have I18 := I17.keep hp9 e19 h18
                have k1 := Ex.new (o := .lst ((mkM tg tm pss (pss.map (stM (y ++ [c])))).map V.bl)) (fresh_back I16.ex hq9)
                have k2 := Ex.new (o := .tup [.ref q9, .str (tx (y ++ [c]))]) (fresh_back I17.ex hp9)
                refine ⟨_, _, _, _, _, _, _, rfl, eG10.trans (eG13.trans (eG3.trans (eG15.trans (k1.trans k2)))), I18.putF ?_, B9, hQ9⟩
                rw [fnd_snoc, if_pos hb4]
                exact (f82.ex upFn (k1.trans k2)).snoc ⟨q9, upd_same, k2 _ _ upd_same⟩
              · have I16 := I15.same e17
                refine ⟨G15, _, _, _, _, _, _, rfl, eG10.trans (eG13.trans (eG3.trans eG15)), ⟨I16.ex, I16.fD, I16.fF, I16.fQ, I16.ne, I16.hD, ?_, I16.hQ⟩, B9, hQ9⟩
                rw [fnd_snoc, if_neg (by rw [hb4]; exact Bool.false_ne_true), List.append_nil]
                exact I16.hF
        · have hn : pss.map (stM (y ++ [c])) ∈ D2.map Prod.fst := by simpa using hb2
          have hadd : addD D2 (pss.map (stM (y ++ [c]))) (y ++ [c]) = D2 := if_pos hn
          rw [hadd] at B9 hQ9
          exact ⟨G10, D2, _, _, _, _, _, rfl, eG10, I10.same e13, B9, hQ9⟩
      · rintro σ' H8 ⟨G2, D2, d12, d13, d14, d15, d16, rfl, eG2, I8, B8, hSy8⟩
        have hl8 : (strC (csM pss)).length = (csM pss).length := by
          unfold strC
          rw [List.length_map]
        rw [hl8] at B8
        have few8 := bf_few B8
        have hq8 : (Qd (st0 pss) (alM tg) D2).length ≤ D2.length + 1 := by
          unfold Qd
          rw [List.length_cons]
          have := (List.filter_sublist (l := D2) (p := fun e => alM tg e.1)).length_le
          omega
        have hat8 := (List.getElem?_eq_some_iff.mp hSy8).1
        refine s_aug (a := (at_ : Int)) (b := 1) rfl ev_c fun H9 e11 => ?_
        exact ⟨cnt pss + 1 - (at_ + 1), by omega, G2, D2, at_ + 1, _, _, _, _, _, _, _, _, _, _, _, _, _, rfl, eG.trans eG2, I8.same e11, B8.next, by omega, rfl⟩
    · have I7 := I.same e9
      obtain ⟨gs, g1, g2⟩ := I7.hF
      have eHG : Ex H G := e1.trans (e2.trans (e3.trans eG))
      have hstop : (Qd (st0 pss) (alM tg) D).length ≤ at_ ∨ (only = true ∧ fs.length ≠ 0) := by
        by_cases z : (at_ : Int) < (qs.length : Int)
        · refine .inr ?_
          rw [decide_eq_true z, Bool.true_and] at hb
          have hb' : (only && decide ((fs.length : Int) > 0)) = true := by
            cases hq : (only && decide ((fs.length : Int) > 0)) with
            | true => rfl
            | false =>
              rw [hq] at hb
              cases hb
          rw [Bool.and_eq_true, decide_eq_true_eq] at hb'
          exact ⟨hb'.1, by omega⟩
        · exact .inl (by omega)
      have word := fun w a1 a2 a3 => B.word (al_back tg pss) w a1 a2 a3
      have intoF : ∀ e ∈ D, glM tg pss e.1 = true → (mkM tg tm pss e.1, e.2) ∈ fndM tg tm pss D := fun e he hg => List.mem_map.mpr ⟨e, List.mem_filter.mpr ⟨he, hg⟩, rfl⟩
      have outF : ∀ z ∈ fndM tg tm pss D, ∃ e ∈ D, glM tg pss e.1 = true ∧ z = (mkM tg tm pss e.1, e.2) := fun z hz => by
        obtain ⟨e, he, rfl⟩ := List.mem_map.mp hz
        exact ⟨e, (List.mem_filter.mp he).1, (List.mem_filter.mp he).2, rfl⟩
      have key : ∀ w : List Nat, w ≠ [] → (∀ c ∈ w, c ∈ csM pss) → glM tg pss (pss.map (stM w)) = true → (∃ e ∈ fndM tg tm pss D, sle e.2 w ∧ e.1 = mkM tg tm pss (pss.map (stM w))) ∨ (at_ < (Qd (st0 pss) (alM tg) D).length ∧ ∀ e ∈ D, sle e.2 w) := fun w w1 w2 w3 => by
        rcases word w w1 w2 (by rw [runX_st]; exact gl_al tg pss w w3) with ⟨e, he, k1, k2⟩ | z
        · rw [runX_st] at k1
          exact .inl ⟨_, intoF e he (by rw [k1]; exact w3), k2, by rw [k1]⟩
        · exact .inr z
      refine s_ret (ev_var rfl) fun H8 e10 => q (fndM tg tm pss D) aF gs H8 ⟨fun z hz => ?_, ?_, fun w w1 w2 w3 => ?_, fun ho w w1 w2 w3 => ?_⟩ (fresh_back eHG I7.fF) (eHG.trans (I7.ex.trans e10)) (e10 _ _ g1) (g2.ex upFn (I7.ex.trans e10))
      · obtain ⟨e, he, hg, rfl⟩ := outF z hz
        obtain ⟨r1, r2, r3'⟩ := B.run e he
        rw [runX_st] at r1
        rw [hps]
        exact ⟨r2, r3', by rw [← r1]; exact hg, by rw [← r1]⟩
      · unfold fndM
        rw [List.pairwise_map]
        exact B.inc.filter _
      · rw [hps] at w2 w3
        rcases key w w1 w2 w3 with ⟨e, he, k1, _⟩ | ⟨k1, k2⟩
        · exact ⟨e, he, k1⟩
        · rcases hstop with z | ⟨_, z⟩
          · omega
          · obtain ⟨e0, he0⟩ : ∃ e0, e0 ∈ fndM tg tm pss D := List.exists_mem_of_length_pos (by omega)
            obtain ⟨e, he, _, rfl⟩ := outF e0 he0
            exact ⟨_, he0, k2 e he⟩
      · rw [hps] at w2 w3
        rw [hps]
        rcases key w w1 w2 w3 with z | ⟨k1, k2⟩
        · exact z
        · rcases hstop with z | ⟨z, _⟩
          · omega
          · rw [ho] at z
            cases z

/-! ### the least words -/
structure LeastY (tg : List Pt) (y : List Nat) : Prop where
  ne : y ≠ []
  over : ∀ c ∈ y, c ∈ csM (formsL (tg ++ []))
  goal : glM tg (formsL (tg ++ [])) ((formsL (tg ++ [])).map (stM y)) = true
  low : ∀ w : List Nat, w ≠ [] → (∀ c ∈ w, c ∈ csM (formsL (tg ++ []))) → glM tg (formsL (tg ++ [])) ((formsL (tg ++ [])).map (stM w)) = true → sle y w
def NoneY (tg : List Pt) : Prop := ∀ w : List Nat, w ≠ [] → (∀ c ∈ w, c ∈ csM (formsL (tg ++ []))) → ¬ glM tg (formsL (tg ++ [])) ((formsL (tg ++ [])).map (stM w)) = true
theorem FitR.none {tg : List Pt} {only : Bool} (h : FitR tg [] only []) : NoneY tg := fun w a b c => by
  obtain ⟨e, he, _⟩ := h.least w a b c
  cases he
theorem FitR.head {tg : List Pt} {only : Bool} {e : List Bool × List Nat} {F : List (List Bool × List Nat)} (h : FitR tg [] only (e :: F)) : LeastY tg e.2 ∧ e.1 = [] := by
  obtain ⟨h1, h2, h3, h4⟩ := h.ok e List.mem_cons_self
  refine ⟨⟨h1, h2, h3, fun w a b c => ?_⟩, h4⟩
  obtain ⟨e2, he, k⟩ := h.least w a b c
  rcases List.mem_cons.mp he with z | z
  · exact z ▸ k
  · exact sle_trans (.inr ((List.pairwise_cons.mp h.inc).1 e2 z)) k
def LeastV (tg : List Pt) (v : V) : Prop := (∃ y, v = .str (tx y) ∧ LeastY tg y) ∨ (v = .non ∧ NoneY tg)
def spLeast (K : PySem.W.Frag) (CF CB CE : Addr) (d : Nat) : Sp := fun vs H Q _ => ∃ (a : Addr) (us : List V) (tg : List Pt), vs = [.ref a] ∧ SqL K H a us ∧ Rs (PatR CF CB CE d) H us tg ∧ lvs tg ≤ 4 ∧ (fxC (formsL (tg ++ []))).length ≤ 48 ∧ tg.length ≤ 100 ∧ cnt (formsL (tg ++ [])) ≤ 90000 ∧
  ∀ v H2, LeastV tg v → Ex H H2 → Q v H2
theorem ok__least {f : Addr} {fd : FuncData} (F : Fun K "_least" "_least" s__least f fd) (T : Txt K mg a_OPEN_PARTS C_Both C_Either C_Form) (D__fitting : Df P w K mg base "_fitting" ["goals", "marks", "only_first"] 6 (spFit K C_Form C_Both C_Either 2)) : FnOk P w K mg base CX0 7 f fd ["goals"] (spLeast K C_Form C_Both C_Either 2) := by
  refine F.ok sc__least (fun vs H Q E h => ?_) (fun cdv A outer s0 H vs Q E hr h => ?_)
  · obtain ⟨a, us, tg, rfl, _⟩ := h
    rfl
  · obtain ⟨a, us, tg, rfl, hA, hG, h3, h48, h1, hc, q⟩ := h
    refine ⟨_, (pss_cons (ps_set (i := 1) sc__least.nd rfl (Or.inl rfl) (pe_df D__fitting (hr.mono (by decide)) (by rfl) (pa_cons (pv 0) (pa_cons (pe_lst pa_nil) (pa_cons pe_bl pa_nil)))))
      (pss_one (ps_ret (pe_ifExp (pt_cmpR op_gt (pe_callB call_len_seq (by rfl) T.n_len PySem.boot_len (pa_cons (pv 1) pa_nil)) pe_int (nomark _)) (pe_ix ix_tup (pe_ix ix_list (pv 1) pe_int (fun _ _ => rfl)) pe_int (fun _ _ => rfl)) pe_non)))), ?_⟩
    show tSeq (tAsg (tCall (spFit K C_Form C_Both C_Either 2) [] E0 (tCons (tVar 0) (tCons (tLst tNil) (tCons (tC (.bl true)) tNil)))) (gName 1)) _ _ _ _
    refine ⟨_, rfl, sz_of (by simp), fun b hb => ?_⟩
    have e0 := Ex.new (o := .lst []) hb
    refine ⟨a, b, us, [], tg, [], true, rfl, ex_l e0 hA, hG.ex upP e0, sq_of upd_same, .nil, (by rw [List.append_nil]; exact h3), h48, (by rw [List.append_nil]; exact h1), hc, fun F l vs H2 hF hl e2 h2 r2 => ?_⟩
    have eH := e0.trans e2
    have l2 := r2.len
    show tRet (tIf (tTest (tOp (rI0 fun i j => V.bl (decide (i > j))) (tCB (rLenS K) (tCons (tVar 1) tNil)) (tC (.int 0)))) (tOp (rIxT K) (tOp (rIxL K) (tVar 1) (tC (.int 0))) (tC (.int 1))) (tC .non)) _ _ _
    cases F with
    | nil =>
      have hv : vs = [] := List.length_eq_zero_iff.mp l2
      subst hv
      refine s_ret (ev_if (b := false) (et_test (ev_op (ev_len (ev_var rfl) (sq_of h2)) ev_c rv_I0)) (fun z => by cases z) (fun _ => ev_c)) fun H3 e3 => q .non H3 (.inr ⟨rfl, hF.none⟩) (eH.trans e3)
    | cons e F =>
      obtain ⟨p, hp, m, m1, m2⟩ := r2.at (i := 0) (x := e) rfl
      have hlen : vs.length = F.length + 1 := l2
      refine s_ret (v := .str (tx e.2)) (ev_if (b := true) (et_is (et_test (ev_op (ev_len (ev_var rfl) (sq_of h2)) ev_c rv_I0)) (by
        rw [hlen]
        exact decide_eq_true (by omega))) (fun _ => ev_op (ev_op (ev_var rfl) ev_c (rv_ixL (sq_of h2) (atI_nat hp))) ev_c (rv_ixT (st_of m1) (atI_nat (j := 1) rfl))) (fun z => by cases z)) fun H3 e3 => q _ H3 (.inl ⟨e.2, rfl, hF.head.1⟩) (eH.trans e3)
def spLL (CF CB CE : Addr) (d : Nat) : Sp := fun vs H Q _ => ∃ (a : Addr) (t : Pt), vs = [.ref a] ∧ PatR CF CB CE d t a H ∧ (fxC (formsL ([t] ++ []))).length ≤ 48 ∧ cnt (formsL ([t] ++ [])) ≤ 90000 ∧ ∀ v H2, LeastV [t] v → Ex H H2 → Q v H2
theorem ok_least_line {f : Addr} {fd : FuncData} (F : Fun K "least_line" "least_line" s_least_line f fd) (T : Txt K mg a_OPEN_PARTS C_Both C_Either C_Form) (D__least : Df P w K mg base "_least" ["goals"] 7 (spLeast K C_Form C_Both C_Either 2)) : FnOk P w K mg base CX0 8 f fd ["pattern"] (spLL C_Form C_Both C_Either 2) := by
  refine F.ok sc_least_line (fun vs H Q E h => ?_) (fun cdv A outer s0 H vs Q E hr h => ?_)
  · obtain ⟨a, t, rfl, _⟩ := h
    rfl
  · obtain ⟨a, t, rfl, hP, h48, hc, q⟩ := h
    refine ⟨_, (pss_one (ps_ret (pe_df D__least (hr.mono (by decide)) (by rfl) (pa_cons (pe_lst (pa_cons (pv 0) pa_nil)) pa_nil)))), ?_⟩
    have h3 := hP.2.2
    refine ⟨_, rfl, sz_of (by simp), fun b hb => ?_⟩
    have e0 := Ex.new (o := .lst [V.ref a]) hb
    exact ⟨b, [.ref a], [t], rfl, sq_of upd_same, .cons (upP _ _ _ _ e0 hP) .nil, (by show t.leaves + 0 ≤ 4; omega), h48, (by simp), hc, fun v H2 hv e2 => q v H2 hv (e0.trans e2)⟩
def spShared (CF CB CE : Addr) (d : Nat) : Sp := fun vs H Q _ => ∃ (a b : Addr) (t u : Pt), vs = [.ref a, .ref b] ∧ PatR CF CB CE d t a H ∧ PatR CF CB CE d u b H ∧ (fxC (formsL ([t, u] ++ []))).length ≤ 48 ∧ t.leaves + u.leaves ≤ 4 ∧ cnt (formsL ([t, u] ++ [])) ≤ 90000 ∧ ∀ v H2, LeastV [t, u] v → Ex H H2 → Q v H2
theorem ok_shared_line {f : Addr} {fd : FuncData} (F : Fun K "shared_line" "shared_line" s_shared_line f fd) (T : Txt K mg a_OPEN_PARTS C_Both C_Either C_Form) (D__least : Df P w K mg base "_least" ["goals"] 7 (spLeast K C_Form C_Both C_Either 2)) : FnOk P w K mg base CX0 8 f fd ["one", "other"] (spShared C_Form C_Both C_Either 2) := by
  refine F.ok sc_shared_line (fun vs H Q E h => ?_) (fun cdv A outer s0 H vs Q E hr h => ?_)
  · obtain ⟨a, b, t, u, rfl, _⟩ := h
    rfl
  · obtain ⟨a, b, t, u, rfl, hP, hU, h48, h3, hc, q⟩ := h
    refine ⟨_, (pss_one (ps_ret (pe_df D__least (hr.mono (by decide)) (by rfl) (pa_cons (pe_lst (pa_cons (pv 0) (pa_cons (pv 1) pa_nil))) pa_nil)))), ?_⟩
    refine ⟨_, rfl, _, rfl, sz_of (by simp), fun c hb => ?_⟩
    have e0 := Ex.new (o := .lst [V.ref a, V.ref b]) hb
    exact ⟨c, [.ref a, .ref b], [t, u], rfl, sq_of upd_same, .cons (upP _ _ _ _ e0 hP) (.cons (upP _ _ _ _ e0 hU) .nil), (by show t.leaves + (u.leaves + 0) ≤ 4; omega), h48, (by simp), hc, fun v H2 hv e2 => q v H2 hv (e0.trans e2)⟩
/-! ### looks, of no marks -/
def LkR (e : List Nat × List Nat) (p : Addr) (H : Hp) : Prop := ∃ q : Addr, H p = some (.tup [.ref q, .str (tx e.2)]) ∧ H q = some (.tup (e.1.map vN))
theorem upLk : Up LkR := fun _ _ _ _ e ⟨t, h1, h2⟩ => ⟨t, e _ _ h1, e _ _ h2⟩
theorem offLk : Off LkR := fun x p H D acc ⟨t, h1, h2⟩ hD _ ne => ⟨t, by rw [hide_ne ne]; exact h1, by
  rw [hide_ne fun z => by
    rw [z, hD] at h2
    cases h2]
  exact h2⟩
def lkK (L : List (List Nat × List Nat)) : List (List Key × V) := L.map fun e => (kI e.1, V.str (tx e.2))
def LooksR (t : Pt) (L : List (List Nat × List Nat)) : Prop := (L = [] ∧ NoneY [t]) ∨ ∃ y, L = [([], y)] ∧ LeastY [t] y
def spLooks0 (K : PySem.W.Frag) (CF CB CE : Addr) (d : Nat) : Sp := fun vs H Q _ => ∃ (a b : Addr) (t : Pt), vs = [.ref a, .ref b] ∧ PatR CF CB CE d t a H ∧ SqL K H b [] ∧ cnt (formsL ([t] ++ [])) ≤ 90000 ∧
  ∀ L p us H2, LooksR t L → H p = none → Ex H H2 → H2 p = some (.lst us) → Rs LkR H2 us L → Q (.ref p) H2
theorem keys_tups {H : Hp} : ∀ {L : List (List Nat × List Nat)} {bs : List Addr}, IsKeys H (lkK L) bs → Rs TupN H (bs.map V.ref) (L.map Prod.fst)
  | [], _, h => by
    cases h
    exact .nil
  | e :: L, _, h => by
    cases h with
    | @cons _ b _ bs h1 h2 =>
      refine .cons ?_ (keys_tups h2)
      have h1' : H b = some (.tup ((kI e.1).map kV)) := h1
      rw [kI_V] at h1'
      exact h1'

/-! ### patterns joined by & and |, none refused -/
def Two (CF CB CE : Addr) (H : Hp) (l r : Pt) (p q : Addr) : Prop := PatAt CF CB CE H l p ∧ PatAt CF CB CE H r q ∧ l.depth ≤ 2 ∧ r.depth ≤ 2 ∧ l.leaves ≤ 3 ∧ r.leaves ≤ 3
theorem Two.ex {CF CB CE : Addr} {H H' : Hp} {l r : Pt} {p q : Addr} (h : Two CF CB CE H l r p q) (e : Ex H H') : Two CF CB CE H' l r p q := ⟨h.1.ex e, h.2.1.ex e, h.2.2⟩
def spRoom0 (CF CB CE : Addr) : Sp := fun vs H Q _ => ∃ (p q : Addr) (l r : Pt), vs = [.ref p, .ref q] ∧ Two CF CB CE H l r p q ∧ l.leaves + r.leaves ≤ 3 ∧ RetV .non H Q
def spPair0 (C CF CB CE : Addr) : Sp := fun vs H Q _ => ∃ (a dx p q : Addr) (l r : Pt), vs = [.ref a, .ref p, .ref q] ∧ H a = some (.ins C dx []) ∧ Two CF CB CE H l r p q ∧ l.leaves + r.leaves ≤ 3 ∧ ∀ H', Ex (hide a H) H' → H' a = some (.ins C dx (pairF p q)) → Q .non H'
def spJoin0 (and : Bool) (CF CB CE : Addr) : Sp := fun vs H Q _ => ∃ (p q : Addr) (l r : Pt), vs = [.ref p, .ref q] ∧ Two CF CB CE H l r p q ∧ l.leaves + r.leaves ≤ 3 ∧ ∀ x H', Ex H H' → PatAt CF CB CE H' (.n and l r) x → Q (.ref x) H'
theorem ok__check_room {f : Addr} {fd : FuncData} (F : Fun K "_check_room" "_check_room" s__check_room f fd) (T : Txt K mg a_OPEN_PARTS C_Both C_Either C_Form) (D_Form_forms : DfM P w K mg base C_Form "forms" ["self"] 1 (spForms C_Form C_Both C_Either none 0)) (D_Both_forms__v2 : DfM P w K mg base C_Both "forms" ["self"] 3 (spForms C_Form C_Both C_Either (some true) 2)) (D_Either_forms__v2 : DfM P w K mg base C_Either "forms" ["self"] 3 (spForms C_Form C_Both C_Either (some false) 2)) : FnOk P w K mg base CX0 4 f fd ["one", "other"] (spRoom0 C_Form C_Both C_Either) := by
  refine F.ok sc__check_room (fun vs H Q E h => ?_) (fun cdv A outer s0 H vs Q E hr h => ?_)
  · obtain ⟨p, q, l, r, rfl, _⟩ := h
    rfl
  · obtain ⟨p, q, l, r, rfl, ⟨hl, hq, d1, d2, n1, n2⟩, hn, qok⟩ := h
    refine ⟨_, (pss_one (ps_if (pt_cmpR op_gt (pe_op op_add (pe_callB call_len_seq (by rfl) T.n_len PySem.boot_len (pa_cons (pe_alt (pe_mth0 T.k_Form D_Form_forms (hr.mono (by decide)) (pv 0))
        (pe_alt (pe_mth0 T.k_Both D_Both_forms__v2 (hr.mono (by decide)) (pv 0))
        (pe_mth0 T.k_Either D_Either_forms__v2 (hr.mono (by decide)) (pv 0)))) pa_nil)) (pe_callB call_len_seq (by rfl) T.n_len PySem.boot_len (pa_cons (pe_alt (pe_mth0 T.k_Form D_Form_forms (hr.mono (by decide)) (pv 1))
        (pe_alt (pe_mth0 T.k_Both D_Both_forms__v2 (hr.mono (by decide)) (pv 1))
        (pe_mth0 T.k_Either D_Either_forms__v2 (hr.mono (by decide)) (pv 1)))) pa_nil))) (pe_cst T.c_MOST_FORMS (by rfl)) (nomark _))
      (pss_one ps_never)
      pss_nil)), ?_⟩
    have L1 := Pt.forms_len l
    have L2 := Pt.forms_len r
    refine s_when (b := decide ((3 : Int) < (l.forms.length : Int) + (r.forms.length : Int))) (et_test (ev_op (ev_op (ev_lenN (v_forms (ev_var rfl) hl d1 n1)) (ev_lenN (v_forms (ev_var rfl) hq d2 n2)) rv_add) ev_c rv_I0)) (fun hb H1 e1 => ?_) (fun hb H1 e1 => ?_)
    · have := of_decide_eq_true hb
      omega
    · exact qok H1 e1
theorem ok_Both___init__ {f : Addr} {fd : FuncData} (F : Fun K "__init__" "Both.__init__" s_Both___init__ f fd) (T : Txt K mg a_OPEN_PARTS C_Both C_Either C_Form) (D__check_room : Df P w K mg base "_check_room" ["one", "other"] 4 (spRoom0 C_Form C_Both C_Either)) : FnOk P w K mg base CX0 5 f fd ["self", "one", "other"] (spPair0 C_Both C_Form C_Both C_Either) := by
  refine F.ok sc_Both___init__ (fun vs H Q E h => ?_) (fun cdv A outer s0 H vs Q E hr h => ?_)
  · obtain ⟨a, dx, p, q, l, r, rfl, _⟩ := h
    rfl
  · obtain ⟨a, dx, p, q, l, r, rfl, ha, h2, hn, qok⟩ := h
    refine ⟨_, (pss_cons (ps_expr (pe_df D__check_room (hr.mono (by decide)) (by rfl) (pa_cons (pv 1) (pa_cons (pv 2) pa_nil))))
      (pss_cons (ps_fld (pv 0) (pv 1) rfl)
      (pss_one (ps_fld (pv 0) (pv 2) rfl)))), ?_⟩
    refine ⟨_, rfl, _, rfl, p, q, l, r, rfl, h2, hn, fun H1 e1 => ?_⟩
    exact ⟨_, rfl, _, rfl, a, C_Both, dx, [], rfl, e1 _ _ ha, T.k_Both, T.a_Both__one, by decide, _, rfl, _, rfl, a, C_Both, dx, _, rfl, upd_same, T.k_Both, T.a_Both__other, by
      have := length_putF ("_one" : Str) (.ref p) []
      simp only [List.length_nil] at this
      omega, qok _ (fun b o hb => by
        obtain ⟨nb, hb⟩ := hide_some hb
        rw [upd_ne nb, upd_ne nb]
        exact e1 _ _ hb) upd_same⟩
theorem ok_Either___init__ {f : Addr} {fd : FuncData} (F : Fun K "__init__" "Either.__init__" s_Either___init__ f fd) (T : Txt K mg a_OPEN_PARTS C_Both C_Either C_Form) (D__check_room : Df P w K mg base "_check_room" ["one", "other"] 4 (spRoom0 C_Form C_Both C_Either)) : FnOk P w K mg base CX0 5 f fd ["self", "one", "other"] (spPair0 C_Either C_Form C_Both C_Either) := by
  refine F.ok sc_Either___init__ (fun vs H Q E h => ?_) (fun cdv A outer s0 H vs Q E hr h => ?_)
  · obtain ⟨a, dx, p, q, l, r, rfl, _⟩ := h
    rfl
  · obtain ⟨a, dx, p, q, l, r, rfl, ha, h2, hn, qok⟩ := h
    refine ⟨_, (pss_cons (ps_expr (pe_df D__check_room (hr.mono (by decide)) (by rfl) (pa_cons (pv 1) (pa_cons (pv 2) pa_nil))))
      (pss_cons (ps_fld (pv 0) (pv 1) rfl)
      (pss_one (ps_fld (pv 0) (pv 2) rfl)))), ?_⟩
    refine ⟨_, rfl, _, rfl, p, q, l, r, rfl, h2, hn, fun H1 e1 => ?_⟩
    exact ⟨_, rfl, _, rfl, a, C_Either, dx, [], rfl, e1 _ _ ha, T.k_Either, T.a_Either__one, by decide, _, rfl, _, rfl, a, C_Either, dx, _, rfl, upd_same, T.k_Either, T.a_Either__other, by
      have := length_putF ("_one" : Str) (.ref p) []
      simp only [List.length_nil] at this
      omega, qok _ (fun b o hb => by
        obtain ⟨nb, hb⟩ := hide_some hb
        rw [upd_ne nb, upd_ne nb]
        exact e1 _ _ hb) upd_same⟩
theorem ok_Form___and__ {f : Addr} {fd : FuncData} (F : Fun K "__and__" "Form.__and__" s_Form___and__ f fd) (T : Txt K mg a_OPEN_PARTS C_Both C_Either C_Form) (D_Both___init__ : DfI P w K mg base "Both" C_Both ["self", "one", "other"] 5 (spPair0 C_Both C_Form C_Both C_Either)) : FnOk P w K mg base CX0 7 f fd ["self", "other"] (spJoin0 true C_Form C_Both C_Either) := by
  refine F.ok sc_Form___and__ (fun vs H Q E h => ?_) (fun cdv A outer s0 H vs Q E hr h => ?_)
  · obtain ⟨p, q, l, r, rfl, _⟩ := h
    rfl
  · obtain ⟨p, q, l, r, rfl, h2, hn, qok⟩ := h
    refine ⟨_, (pss_one (ps_ret (pe_mk D_Both___init__ (hr.mono (by decide)) (by rfl) (pa_cons (pv 0) (pa_cons (pv 1) pa_nil))))), ?_⟩
    refine ⟨_, rfl, _, rfl, fun x dx hx hdx hne => ?_⟩
    have hx1 : upd H dx (.own x) x = none := by
      rw [upd_ne (Ne.symm hne)]
      exact hx
    have e2 : Ex H (upd (upd H dx (.own x)) x (.ins C_Both dx [])) := (Ex.new hdx).trans (Ex.new hx1)
    refine ⟨x, dx, p, q, l, r, rfl, upd_same, h2.ex e2, hn, fun H1 e1 h1 => ⟨rfl, ?_⟩⟩
    have e3 : Ex H H1 := fun b o hb => e1 b o (by
      rw [hide_ne (ne_of_none hb hx)]
      exact e2 b o hb)
    exact qok x H1 e3 (.n (and := true) h1 (h2.1.ex e3) (h2.2.1.ex e3))
theorem ok_Form___or__ {f : Addr} {fd : FuncData} (F : Fun K "__or__" "Form.__or__" s_Form___or__ f fd) (T : Txt K mg a_OPEN_PARTS C_Both C_Either C_Form) (D_Either___init__ : DfI P w K mg base "Either" C_Either ["self", "one", "other"] 5 (spPair0 C_Either C_Form C_Both C_Either)) : FnOk P w K mg base CX0 7 f fd ["self", "other"] (spJoin0 false C_Form C_Both C_Either) := by
  refine F.ok sc_Form___or__ (fun vs H Q E h => ?_) (fun cdv A outer s0 H vs Q E hr h => ?_)
  · obtain ⟨p, q, l, r, rfl, _⟩ := h
    rfl
  · obtain ⟨p, q, l, r, rfl, h2, hn, qok⟩ := h
    refine ⟨_, (pss_one (ps_ret (pe_mk D_Either___init__ (hr.mono (by decide)) (by rfl) (pa_cons (pv 0) (pa_cons (pv 1) pa_nil))))), ?_⟩
    refine ⟨_, rfl, _, rfl, fun x dx hx hdx hne => ?_⟩
    have hx1 : upd H dx (.own x) x = none := by
      rw [upd_ne (Ne.symm hne)]
      exact hx
    have e2 : Ex H (upd (upd H dx (.own x)) x (.ins C_Either dx [])) := (Ex.new hdx).trans (Ex.new hx1)
    refine ⟨x, dx, p, q, l, r, rfl, upd_same, h2.ex e2, hn, fun H1 e1 h1 => ⟨rfl, ?_⟩⟩
    have e3 : Ex H H1 := fun b o hb => e1 b o (by
      rw [hide_ne (ne_of_none hb hx)]
      exact e2 b o hb)
    exact qok x H1 e3 (.n (and := false) h1 (h2.1.ex e3) (h2.2.1.ex e3))
theorem ok_Both___and__ {f : Addr} {fd : FuncData} (F : Fun K "__and__" "Both.__and__" s_Both___and__ f fd) (T : Txt K mg a_OPEN_PARTS C_Both C_Either C_Form) (D_Both___init__ : DfI P w K mg base "Both" C_Both ["self", "one", "other"] 5 (spPair0 C_Both C_Form C_Both C_Either)) : FnOk P w K mg base CX0 7 f fd ["self", "other"] (spJoin0 true C_Form C_Both C_Either) := by
  refine F.ok sc_Both___and__ (fun vs H Q E h => ?_) (fun cdv A outer s0 H vs Q E hr h => ?_)
  · obtain ⟨p, q, l, r, rfl, _⟩ := h
    rfl
  · obtain ⟨p, q, l, r, rfl, h2, hn, qok⟩ := h
    refine ⟨_, (pss_one (ps_ret (pe_mk D_Both___init__ (hr.mono (by decide)) (by rfl) (pa_cons (pv 0) (pa_cons (pv 1) pa_nil))))), ?_⟩
    refine ⟨_, rfl, _, rfl, fun x dx hx hdx hne => ?_⟩
    have hx1 : upd H dx (.own x) x = none := by
      rw [upd_ne (Ne.symm hne)]
      exact hx
    have e2 : Ex H (upd (upd H dx (.own x)) x (.ins C_Both dx [])) := (Ex.new hdx).trans (Ex.new hx1)
    refine ⟨x, dx, p, q, l, r, rfl, upd_same, h2.ex e2, hn, fun H1 e1 h1 => ⟨rfl, ?_⟩⟩
    have e3 : Ex H H1 := fun b o hb => e1 b o (by
      rw [hide_ne (ne_of_none hb hx)]
      exact e2 b o hb)
    exact qok x H1 e3 (.n (and := true) h1 (h2.1.ex e3) (h2.2.1.ex e3))
theorem ok_Both___or__ {f : Addr} {fd : FuncData} (F : Fun K "__or__" "Both.__or__" s_Both___or__ f fd) (T : Txt K mg a_OPEN_PARTS C_Both C_Either C_Form) (D_Either___init__ : DfI P w K mg base "Either" C_Either ["self", "one", "other"] 5 (spPair0 C_Either C_Form C_Both C_Either)) : FnOk P w K mg base CX0 7 f fd ["self", "other"] (spJoin0 false C_Form C_Both C_Either) := by
  refine F.ok sc_Both___or__ (fun vs H Q E h => ?_) (fun cdv A outer s0 H vs Q E hr h => ?_)
  · obtain ⟨p, q, l, r, rfl, _⟩ := h
    rfl
  · obtain ⟨p, q, l, r, rfl, h2, hn, qok⟩ := h
    refine ⟨_, (pss_one (ps_ret (pe_mk D_Either___init__ (hr.mono (by decide)) (by rfl) (pa_cons (pv 0) (pa_cons (pv 1) pa_nil))))), ?_⟩
    refine ⟨_, rfl, _, rfl, fun x dx hx hdx hne => ?_⟩
    have hx1 : upd H dx (.own x) x = none := by
      rw [upd_ne (Ne.symm hne)]
      exact hx
    have e2 : Ex H (upd (upd H dx (.own x)) x (.ins C_Either dx [])) := (Ex.new hdx).trans (Ex.new hx1)
    refine ⟨x, dx, p, q, l, r, rfl, upd_same, h2.ex e2, hn, fun H1 e1 h1 => ⟨rfl, ?_⟩⟩
    have e3 : Ex H H1 := fun b o hb => e1 b o (by
      rw [hide_ne (ne_of_none hb hx)]
      exact e2 b o hb)
    exact qok x H1 e3 (.n (and := false) h1 (h2.1.ex e3) (h2.2.1.ex e3))

/-! ### the least line of a form -/
def dueP (p : Str) : List Nat := if p = anyP then [] else if p = digP then [48] else if p = wordP then [65] else p.cps.toList
def dues (ps : List Str) : List Nat := ps.flatMap dueP
def dueC (ps : List Str) : List Nat := if dues ps = [] then [32] else dues ps
theorem lx_app {d1 v1 d2 v2 : List Nat} : ∀ {d1 v1 : List Nat}, d1.length = v1.length → lx d1 v1 → lx (d1 ++ d2) (v1 ++ v2)
  | a :: u, b :: v, hl, h => h.elim .inl fun z => .inr ⟨z.1, lx_app (d1 := d1) (v1 := v1) (by simpa using hl) z.2⟩
theorem lx_pre {d2 v2 : List Nat} (h : lx d2 v2) : ∀ d1 : List Nat, lx (d1 ++ d2) (d1 ++ v2)
  | [] => h
  | a :: u => .inr ⟨rfl, lx_pre h u⟩
theorem sle_len {u v : List Nat} (h : sle u v) : u.length ≤ v.length := by
  rcases h with h | h | h
  · rw [h]
    exact Nat.le_refl _
  · exact Nat.le_of_lt h
  · exact Nat.le_of_eq h.1
theorem sle_app {d1 v1 d2 v2 : List Nat} (h1 : sle d1 v1) (h2 : sle d2 v2) : sle (d1 ++ d2) (v1 ++ v2) := by
  have l1 := sle_len h1
  have l2 := sle_len h2
  by_cases z : d1.length + d2.length < v1.length + v2.length
  · exact .inr (.inl (by rw [List.length_append, List.length_append]; exact z))
  · have e1 : d1.length = v1.length := by omega
    have e2 : d2.length = v2.length := by omega
    have el : (d1 ++ d2).length = (v1 ++ v2).length := by rw [List.length_append, List.length_append, e1, e2]
    rcases h1 with h1 | h1 | h1
    · rcases h2 with h2 | h2 | h2
      · exact .inl (by rw [h1, h2])
      · omega
      · rw [h1]
        rw [h1] at el
        exact .inr (.inr ⟨el, lx_pre h2.2 _⟩)
    · omega
    · exact .inr (.inr ⟨el, lx_app (d1 := []) (v1 := []) e1 h1.2⟩)
theorem sle_nil (v : List Nat) : sle [] v := by
  cases v with
  | nil => exact .inl rfl
  | cons c v => exact .inr (sl_nil (List.cons_ne_nil _ _))
theorem sle_one {m : Nat} {v : List Nat} (hv : v ≠ []) (h : ∀ c ∈ v, m ≤ c) : sle [m] v := by
  match v, hv, h with
  | [c], _, h =>
    have hc := h c List.mem_cons_self
    by_cases e : m = c
    · exact .inl (by rw [e])
    · exact .inr (.inr ⟨rfl, .inl (by omega)⟩)
  | a :: b :: r, _, _ => exact .inr (.inl (by simp))
theorem dig_ge : ∀ c ∈ digS.cps.toList, 48 ≤ c := by decide +kernel
theorem let_ge : ∀ c ∈ letS.cps.toList, 65 ≤ c := by decide +kernel
theorem sign_ge : ∀ c ∈ signsS.cps.toList, 32 ≤ c := by decide +kernel
theorem ltakes_dig {c : Nat} (h : ltakes digP c = true) : c ∈ digS.cps.toList := by
  unfold ltakes at h
  rw [if_pos rfl] at h
  exact of_decide_eq_true h
theorem ltakes_word {c : Nat} (h : ltakes wordP c = true) : c ∈ letS.cps.toList := by
  unfold ltakes at h
  rw [if_neg (Ne.symm dig_ne_word), Bool.and_eq_true] at h
  exact of_decide_eq_true h.2
theorem piece_due {p : Str} {v : List Nat} (h : piece p v) : sle (dueP p) v := by
  unfold dueP
  by_cases e1 : p = anyP
  · rw [if_pos e1]
    exact sle_nil v
  · rw [if_neg e1]
    by_cases e2 : p = digP
    · rw [if_pos e2]
      obtain ⟨h1, h2⟩ := (piece_rep (.inl e2)).mp h
      exact sle_one h1 fun c hc => dig_ge c (ltakes_dig (e2 ▸ h2 c hc))
    · rw [if_neg e2]
      by_cases e3 : p = wordP
      · rw [if_pos e3]
        obtain ⟨h1, h2⟩ := (piece_rep (.inr e3)).mp h
        exact sle_one h1 fun c hc => let_ge c (ltakes_word (e3 ▸ h2 c hc))
      · rw [if_neg e3]
        unfold piece at h
        rw [if_neg e1, if_neg (by simp [e2, e3])] at h
        exact .inl h.symm
theorem due_piece {p : Str} : piece p (dueP p) := by
  unfold dueP
  by_cases e1 : p = anyP
  · rw [if_pos e1, e1]
    exact piece_any
  · rw [if_neg e1]
    by_cases e2 : p = digP
    · rw [if_pos e2]
      exact (piece_rep (.inl e2)).mpr ⟨by simp, fun c hc => by
        rw [List.mem_singleton.mp hc, e2]
        decide +kernel⟩
    · rw [if_neg e2]
      by_cases e3 : p = wordP
      · rw [if_pos e3]
        exact (piece_rep (.inr e3)).mpr ⟨by simp, fun c hc => by
          rw [List.mem_singleton.mp hc, e3]
          decide +kernel⟩
      · rw [if_neg e3]
        unfold piece
        rw [if_neg e1, if_neg (by simp [e2, e3])]
theorem dues_take {ps : List Str} {k : Nat} (hk : k < ps.length) : dues (ps.take (k + 1)) = dues (ps.take k) ++ dueP (cellAt' ps k) := by
  unfold dues
  rw [List.take_add_one, cellAt_get hk, List.flatMap_append]
  simp
theorem mk_due_le {ps : List Str} : ∀ (k : Nat), k ≤ ps.length → ∀ t, Mk ps k t → sle (dues (ps.take k)) t
  | 0, _, t, h => by
    have : t = [] := h
    subst this
    exact .inl (by simp [dues])
  | k + 1, hk, t, h => by
    obtain ⟨u, v, rfl, hu, hv⟩ := h
    rw [dues_take (by omega)]
    exact sle_app (mk_due_le k (by omega) u hu) (piece_due hv)
theorem mk_dues {ps : List Str} : ∀ (k : Nat), k ≤ ps.length → Mk ps k (dues (ps.take k))
  | 0, _ => by
    show dues (ps.take 0) = []
    simp [dues]
  | k + 1, hk => by
    refine ⟨dues (ps.take k), dueP (cellAt' ps k), dues_take (by omega), mk_dues k (by omega), due_piece⟩
theorem dues_any {ps : List Str} (hP : Parts ps) (h : dues ps = []) : ∀ p ∈ ps, p = anyP := fun p hp => by
  have h1 : dueP p = [] := by
    unfold dues at h
    exact List.flatMap_eq_nil_iff.mp h p hp
  unfold dueP at h1
  by_cases e1 : p = anyP
  · exact e1
  · rw [if_neg e1] at h1
    by_cases e2 : p = digP
    · rw [if_pos e2] at h1
      cases h1
    · rw [if_neg e2] at h1
      by_cases e3 : p = wordP
      · rw [if_pos e3] at h1
        cases h1
      · rw [if_neg e3] at h1
        rcases hP.each p hp with o | f
        · exfalso
          have : p = anyP ∨ p = digP ∨ p = wordP := by
            rw [← openL_eq] at o
            unfold openL at o
            simpa using o
          rcases this with z | z | z
          · exact e1 z
          · exact e2 z
          · exact e3 z
        · have l := f.2.1
          rw [str_len, h1] at l
          exact absurd l (by decide)
theorem any_all {ps : List Str} (hP : Parts ps) (h1 : 1 ≤ ps.length) (h : ∀ p ∈ ps, p = anyP) : ps = [anyP] := by
  match ps, h1 with
  | [a], _ => rw [h a List.mem_cons_self]
  | a :: b :: r, _ =>
    have e1 := h a List.mem_cons_self
    have e2 := h b (by simp)
    have := hP.one 0 1 (by simp [e1]) (by simp [e2])
    cases this
/-- the due line, of all lines that fit -/
theorem due_le {ps : List Str} (hG : GoodP ps) {w : List Nat} (hw : w ≠ []) (hs : ∀ c ∈ w, c ∈ signsS.cps.toList) (h : Mk ps ps.length w) : sle (dueC ps) w := by
  unfold dueC
  by_cases z : dues ps = []
  · rw [if_pos z]
    exact sle_one hw fun c hc => sign_ge c (hs c hc)
  · rw [if_neg z]
    have := mk_due_le ps.length (Nat.le_refl _) w h
    rw [List.take_length] at this
    exact this
theorem due_fits {ps : List Str} (hG : GoodP ps) : Mk ps ps.length (dueC ps) := by
  unfold dueC
  by_cases z : dues ps = []
  · rw [if_pos z]
    have := any_all hG.1 hG.2.1 (dues_any hG.1 z)
    subst this
    exact ⟨[], [32], rfl, rfl, piece_any⟩
  · rw [if_neg z]
    have := mk_dues (ps := ps) ps.length (Nat.le_refl _)
    rw [List.take_length] at this
    exact this
theorem due_ne (ps : List Str) : dueC ps ≠ [] := by
  unfold dueC
  by_cases z : dues ps = []
  · rw [if_pos z]
    simp
  · rw [if_neg z]
    exact z
theorem first_in {U : List Nat} {z : Str} {c : Nat} {r : List Nat} (h : z.cps.toList = c :: r) : c ∈ U ∨ c ∈ outC U z := by
  by_cases hc : c ∈ U
  · exact .inl hc
  · right
    unfold outC
    rw [h, List.filter_cons, if_pos (by simpa using hc)]
    exact List.mem_cons_self
theorem due_over {pss : List (List Str)} (hg : ∀ ps ∈ pss, GoodP ps) {ps : List Str} (hp : ps ∈ pss) : ∀ c ∈ dueC ps, c ∈ csM pss := fun c hc => by
  rw [csM_mem hg]
  have inU : ∀ c, c ∈ fxC pss → c ∈ sigC (fxC pss) := fun c h => by
    unfold sigC
    simp only [List.mem_append]
    exact .inl (.inl (.inl h))
  have d0 : (48 : Nat) ∈ sigC (fxC pss) := (first_in (U := fxC pss) (z := digS) (c := 48) (r := digS.cps.toList.tail) (by decide +kernel)).elim (inU _) fun h => by
    unfold sigC
    simp only [List.mem_append]
    exact .inl (.inl (.inr h))
  have dA : (65 : Nat) ∈ sigC (fxC pss) := (first_in (U := fxC pss) (z := letS) (c := 65) (r := letS.cps.toList.tail) (by decide +kernel)).elim (inU _) fun h => by
    unfold sigC
    simp only [List.mem_append]
    exact .inl (.inr h)
  have dB : (32 : Nat) ∈ sigC (fxC pss) := (first_in (U := fxC pss) (z := othS) (c := 32) (r := othS.cps.toList.tail) (by decide +kernel)).elim (inU _) fun h => by
    unfold sigC
    simp only [List.mem_append]
    exact .inr h
  unfold dueC at hc
  by_cases z : dues ps = []
  · rw [if_pos z] at hc
    rw [List.mem_singleton.mp hc]
    exact dB
  · rw [if_neg z] at hc
    unfold dues at hc
    obtain ⟨p, hpp, hcp⟩ := List.mem_flatMap.mp hc
    unfold dueP at hcp
    by_cases e1 : p = anyP
    · rw [if_pos e1] at hcp
      cases hcp
    · rw [if_neg e1] at hcp
      by_cases e2 : p = digP
      · rw [if_pos e2] at hcp
        rw [List.mem_singleton.mp hcp]
        exact d0
      · rw [if_neg e2] at hcp
        by_cases e3 : p = wordP
        · rw [if_pos e3] at hcp
          rw [List.mem_singleton.mp hcp]
          exact dA
        · rw [if_neg e3] at hcp
          have o : isOpen p = false := by
            rw [← openL_eq]
            unfold openL
            simp [e1, e2, e3]
          refine inU c (List.mem_flatMap.mpr ⟨ps, hp, ?_⟩)
          unfold fxC1
          exact List.mem_flatMap.mpr ⟨p, List.mem_filter.mpr ⟨hpp, by rw [o]; rfl⟩, hcp⟩
theorem done_mk {ps : List Str} (hP : Parts ps) (w : List Nat) : doneM w ps = true ↔ Mk ps ps.length w := by
  unfold doneM
  rw [decide_eq_true_eq]
  show (cellsM ps).length ∈ state (cellsM ps) w ↔ _
  rw [state_mem (signs_cells hP).1, ← mk_cells]
  exact ⟨fun h => h.2.elim id fun z => absurd z.1 (Nat.lt_irrefl _), fun h => ⟨Nat.le_refl _, .inl h⟩⟩
def EV : List Str := [anyP]
theorem good_ev : GoodP EV := by
  refine ⟨⟨fun p hp => .inl (by rw [List.mem_singleton.mp hp]; exact open_any), fun i p q h1 h2 => ?_, fun i j h1 h2 => ?_⟩, by decide, by decide⟩
  · have := (List.getElem?_eq_some_iff.mp h2).1
    have : i + 1 < 1 := this
    omega
  · have a1 := (List.getElem?_eq_some_iff.mp h1).1
    have a2 := (List.getElem?_eq_some_iff.mp h2).1
    have a3 : i < 1 := a1
    have a4 : j < 1 := a2
    omega
theorem done_ev (w : List Nat) : doneM w EV = true := (done_mk good_ev.1 w).mpr ⟨[], w, rfl, rfl, piece_any⟩

theorem least_due {tg : List Pt} {ps : List Str} {pss : List (List Str)} (hp : formsL (tg ++ []) = pss) (hg : ∀ qs ∈ pss, GoodP qs) (hin : ps ∈ pss) (hgoal : ∀ w, glM tg pss (pss.map (stM w)) = doneM w ps) : (¬ NoneY tg) ∧ ∀ y, LeastY tg y → y = dueC ps := by
  subst hp
  have hG := hg ps hin
  have g1 : glM tg (formsL (tg ++ [])) ((formsL (tg ++ [])).map (stM (dueC ps))) = true := by
    rw [hgoal]
    exact (done_mk hG.1 _).mpr (due_fits hG)
  refine ⟨fun h => h (dueC ps) (due_ne ps) (due_over hg hin) g1, fun y h => ?_⟩
  have g2 := h.goal
  rw [hgoal] at g2
  exact sle_anti (h.low _ (due_ne ps) (due_over hg hin) g1) (due_le hG h.ne (fun c hc => sig_in hg ((csM_mem hg c).mp (h.over c hc))) ((done_mk hG.1 y).mp g2))
theorem leastV_due {tg : List Pt} {ps : List Str} {v : V} (h : (¬ NoneY tg) ∧ ∀ y, LeastY tg y → y = dueC ps) (hv : LeastV tg v) : v = .str (tx (dueC ps)) := by
  rcases hv with ⟨y, rfl, hy⟩ | ⟨_, hn⟩
  · rw [h.2 y hy]
  · exact absurd hn h.1
theorem due_f {ps : List Str} (hG : GoodP ps) : (¬ NoneY [.f ps]) ∧ ∀ y, LeastY [.f ps] y → y = dueC ps :=
  least_due (pss := [ps]) rfl (fun qs h => by rw [List.mem_singleton.mp h]; exact hG) List.mem_cons_self fun w => by
    show (doneM w ps && true) = _
    rw [Bool.and_true]
theorem due_fe {ps : List Str} (hG : GoodP ps) : (¬ NoneY [.f ps, .f EV]) ∧ ∀ y, LeastY [.f ps, .f EV] y → y = dueC ps :=
  least_due (pss := [ps, EV]) rfl (fun qs h => by
    rcases List.mem_cons.mp h with z | z
    · rw [z]
      exact hG
    · rw [List.mem_singleton.mp z]
      exact good_ev) List.mem_cons_self fun w => by
    show (doneM w ps && (doneM w EV && true)) = _
    rw [done_ev, Bool.and_true, Bool.and_true]
theorem due_ef {ps : List Str} (hG : GoodP ps) : (¬ NoneY [.f EV, .f ps]) ∧ ∀ y, LeastY [.f EV, .f ps] y → y = dueC ps :=
  least_due (pss := [EV, ps]) rfl (fun qs h => by
    rcases List.mem_cons.mp h with z | z
    · rw [z]
      exact good_ev
    · rw [List.mem_singleton.mp z]
      exact hG) (by simp) fun w => by
    show (doneM w EV && (doneM w ps && true)) = _
    rw [done_ev, Bool.and_true, Bool.true_and]
theorem looks_due {ps : List Str} (hG : GoodP ps) {L : List (List Nat × List Nat)} (h : LooksR (.f ps) L) : L = [([], dueC ps)] := by
  rcases h with ⟨_, h⟩ | ⟨y, h1, h2⟩
  · exact absurd h (due_f hG).1
  · rw [h1, (due_f hG).2 y h2]
theorem cnt_1 {ps : List Str} (hG : GoodP ps) : cnt [ps] ≤ 2048 := by
  have h := cells_10 hG.1 hG.2.2
  have : cnt [ps] = 2 ^ ((cellsM ps).length + 1) * 1 := rfl
  rw [this, Nat.mul_one]
  have h2 : 2 ^ ((cellsM ps).length + 1) ≤ 2 ^ 11 := Nat.pow_le_pow_right (by decide) (by omega)
  have : (2 : Nat) ^ 11 = 2048 := by decide
  omega
theorem cnt_ev : cnt [EV] = 4 := by decide +kernel
theorem cnt_2 (a b : List Str) : cnt [a, b] = cnt [a] * cnt [b] := by
  show 2 ^ ((cellsM a).length + 1) * (2 ^ ((cellsM b).length + 1) * 1) = (2 ^ ((cellsM a).length + 1) * 1) * (2 ^ ((cellsM b).length + 1) * 1)
  rw [Nat.mul_one (2 ^ ((cellsM a).length + 1))]

/-! ### signs replaced -/
def repT (U : List Nat) (c d : Nat) (z : Str) : Nat := if (decide (c ∈ z.cps.toList) && !decide (c ∈ U)) = true then (z.cps.toList.filter fun x => !decide (x ∈ U)).headD 0 else d
def repM (U : List Nat) (c : Nat) : Nat := [digS, letS, othS].foldl (repT U c) c
theorem kinds : ∀ c ∈ signsS.cps.toList, c ∈ digS.cps.toList ∨ c ∈ letS.cps.toList ∨ c ∈ othS.cps.toList := by decide +kernel
theorem kinds_in : ∀ z ∈ [digS, letS, othS], ∀ c ∈ z.cps.toList, c ∈ signsS.cps.toList := by decide +kernel
theorem head_out {U : List Nat} {c : Nat} {z : Str} (h : c ∈ z.cps.toList) (hu : c ∉ U) : (z.cps.toList.filter fun x => !decide (x ∈ U)).headD 0 ∈ outC U z := by
  have hm : c ∈ z.cps.toList.filter fun x => !decide (x ∈ U) := List.mem_filter.mpr ⟨h, by simp [hu]⟩
  unfold outC
  cases hl : z.cps.toList.filter fun x => !decide (x ∈ U) with
  | nil =>
    rw [hl] at hm
    cases hm
  | cons x l => simp
theorem repT_no {U : List Nat} {c d : Nat} {z : Str} (h : c ∉ z.cps.toList) : repT U c d z = d := by
  unfold repT
  rw [if_neg]
  simp [h]
theorem repT_yes {U : List Nat} {c d : Nat} {z : Str} (h : c ∈ z.cps.toList) (hu : c ∉ U) : repT U c d z = (z.cps.toList.filter fun x => !decide (x ∈ U)).headD 0 := by
  unfold repT
  rw [if_pos]
  simp [h, hu]
theorem rep_used {U : List Nat} {c : Nat} (h : c ∈ U) : repM U c = c := by
  have e : ∀ d z, repT U c d z = d := fun d z => by
    unfold repT
    rw [if_neg]
    simp [h]
  unfold repM
  simp only [List.foldl_cons, List.foldl_nil, e]
theorem rep_new {U : List Nat} {c : Nat} (hs : c ∈ signsS.cps.toList) (hu : c ∉ U) : ∃ z ∈ [digS, letS, othS], c ∈ z.cps.toList ∧ repM U c ∈ outC U z := by
  unfold repM
  simp only [List.foldl_cons, List.foldl_nil]
  rcases kinds c hs with h | h | h
  · refine ⟨digS, by simp, h, ?_⟩
    rw [repT_no (apart_dl c h).2, repT_no (apart_dl c h).1, repT_yes h hu]
    exact head_out h hu
  · refine ⟨letS, by simp, h, ?_⟩
    rw [repT_no (apart_lo c h), repT_yes h hu]
    exact head_out h hu
  · refine ⟨othS, by simp, h, ?_⟩
    rw [repT_yes h hu]
    exact head_out h hu
theorem rep_in {U : List Nat} {c : Nat} (hs : c ∈ signsS.cps.toList) : repM U c ∈ signsS.cps.toList := by
  by_cases hu : c ∈ U
  · rw [rep_used hu]
    exact hs
  · obtain ⟨z, hz, _, h⟩ := rep_new hs hu
    exact kinds_in z hz _ (out_mem h).1
theorem rep_sig {U : List Nat} {c : Nat} (hs : c ∈ signsS.cps.toList) : repM U c ∈ sigC U := by
  unfold sigC
  simp only [List.mem_append]
  by_cases hu : c ∈ U
  · rw [rep_used hu]
    exact .inl (.inl (.inl hu))
  · obtain ⟨z, hz, _, h⟩ := rep_new hs hu
    simp only [List.mem_cons, List.not_mem_nil, or_false] at hz
    rcases hz with rfl | rfl | rfl
    · exact .inl (.inl (.inr h))
    · exact .inl (.inr h)
    · exact .inr h
theorem takes_same {pss : List (List Str)} (hG : ∀ ps ∈ pss, GoodP ps) {ps : List Str} (hp : ps ∈ pss) {cell : Str} (hc : cell ∈ cellsM ps) {c : Nat} (hs : c ∈ signsS.cps.toList) : takesM cell (repM (fxC pss) c) = takesM cell c := by
  by_cases hu : c ∈ fxC pss
  · rw [rep_used hu]
  · obtain ⟨z, hz, h1, h2⟩ := rep_new hs hu
    obtain ⟨h3, h4⟩ := out_mem h2
    have hP := (hG ps hp).1
    rcases (signs_cells hP).1 cell hc with o | ⟨x, rfl⟩
    · simp only [List.mem_cons, List.not_mem_nil, or_false] at hz
      rcases isOpen_iff.mp o with rfl | rfl | rfl
      · have e : ∀ d, takesM digP d = decide (d ∈ digS.cps.toList) := fun d => if_pos rfl
        rw [e, e]
        rcases hz with rfl | rfl | rfl
        · rw [decide_eq_true h1, decide_eq_true h3]
        · rw [decide_eq_false fun w => (apart_dl _ w).1 h1, decide_eq_false fun w => (apart_dl _ w).1 h3]
        · rw [decide_eq_false fun w => (apart_dl _ w).2 h1, decide_eq_false fun w => (apart_dl _ w).2 h3]
      · have e : ∀ d, takesM wordP d = decide (d ∈ letS.cps.toList) := fun d => by
          unfold takesM
          rw [if_neg (by decide +kernel), if_pos rfl]
        rw [e, e]
        rcases hz with rfl | rfl | rfl
        · rw [decide_eq_false fun w => (apart_dl _ h1).1 w, decide_eq_false fun w => (apart_dl _ h3).1 w]
        · rw [decide_eq_true h1, decide_eq_true h3]
        · rw [decide_eq_false fun w => apart_lo _ w h1, decide_eq_false fun w => apart_lo _ w h3]
      · rw [takes_any, takes_any]
    · have hx : x ∈ fxC pss := by
        have hf : sg x ∈ (cellsM ps).filter fun c => decide ((c.length : Int) = 1) := List.mem_filter.mpr ⟨hc, rfl⟩
        rw [fx_cells hP.each] at hf
        obtain ⟨y, hy, e⟩ := List.mem_map.mp hf
        rw [← sg_inj e]
        exact List.mem_flatMap.mpr ⟨ps, hp, hy⟩
      have n1 : ¬ x = repM (fxC pss) c := fun e => h4 (by rw [← e]; exact hx)
      have n2 : ¬ x = c := fun e => hu (by rw [← e]; exact hx)
      rw [takes_sign, takes_sign, decide_eq_false n1, decide_eq_false n2]
theorem moved_same {cells : List Str} {c d : Nat} (h : ∀ cell ∈ cells, takesM cell c = takesM cell d) (S : List Nat) : movedM cells S c = movedM cells S d := by
  have hk : ∀ k, takesM (cellAt' cells k) c = takesM (cellAt' cells k) d := fun k => by
    by_cases hk : k < cells.length
    · exact h _ (List.mem_of_getElem? (cellAt_get hk))
    · have e : cellAt' cells k = "" := by
        unfold cellAt'
        rw [List.getD_eq_getElem?_getD, List.getElem?_eq_none (by omega)]
        rfl
      have n : ∀ x, takesM "" x = false := fun x => by
        unfold takesM
        rw [if_neg (by decide +kernel), if_neg (by decide +kernel)]
        refine decide_eq_false fun w => ?_
        have := congrArg Str.length w
        have h2 : ("" : Str).length = 0 := by decide +kernel
        rw [h2] at this
        cases this
      rw [e, n, n]
  have hb : rawB cells c = rawB cells d := by
    funext acc k
    unfold rawB rawT rawA
    rw [hk, hk]
  unfold movedM rawM
  rw [hb]
theorem st_same {pss : List (List Str)} (hG : ∀ ps ∈ pss, GoodP ps) {ps : List Str} (hp : ps ∈ pss) {t : List Nat} (ht : ∀ c ∈ t, c ∈ signsS.cps.toList) : stM (t.map (repM (fxC pss))) ps = stM t ps := by
  have key : ∀ (t S : List Nat), (∀ c ∈ t, c ∈ signsS.cps.toList) → (t.map (repM (fxC pss))).foldl (movedM (cellsM ps)) S = t.foldl (movedM (cellsM ps)) S := by
    intro t
    induction t with
    | nil => intro S _; rfl
    | cons c t ih =>
      intro S h
      rw [List.map_cons, List.foldl_cons, List.foldl_cons, moved_same fun cell hc => takes_same hG hp hc (h c List.mem_cons_self)]
      exact ih _ fun d hd => h d (List.mem_cons_of_mem _ hd)
  exact key t _ ht

/-! ### the five signs of a round -/
theorem repl_one (c : Nat) : ∀ l : List Nat, PySem.StrLaws.replL [c] [] l = l.filter (fun x => !decide (x = c))
  | [] => PySem.StrLaws.replL_nil
  | a :: r => by
    have ih := repl_one c r
    by_cases h : a = c
    · have e := PySem.StrLaws.replL_hit (y := [c]) (z := []) (c := a) (r := r) (by simp) (by simp [h])
      rw [e, List.filter_cons, if_neg (by simp [h])]
      exact ih
    · have e := PySem.StrLaws.replL_miss (y := [c]) (z := []) (c := a) (r := r) (by simp [h])
      rw [e, List.filter_cons, if_pos (by simp [h]), ih]
def outS (c : Nat) (z : Str) : Str := Txt.replace z ⟨#[c]⟩ ""
theorem outS_cps (c : Nat) (z : Str) : (outS c z).cps.toList = z.cps.toList.filter (fun x => !decide (x = c)) := by
  unfold outS
  rw [PySem.StrLaws.replace_list (x := z) (y := ⟨#[c]⟩) (z := "") (Nat.le_refl 1)]
  exact repl_one c _
theorem outS_len (c : Nat) (z : Str) : (outS c z).length ≤ z.length := by
  rw [str_len, outS_cps, str_len]
  exact List.length_filter_le _ _
def allS0 : Str := (letS ++ othS) ++ digS
theorem all0_len : allS0.length = 68 := by decide +kernel
theorem all0_nodup : allS0.cps.toList.Nodup := by decide +kernel
theorem all0_in : ∀ c ∈ allS0.cps.toList, c ∈ signsS.cps.toList := by decide +kernel
theorem outS67 {c : Nat} (h : c ∈ allS0.cps.toList) : (outS c allS0).length = 67 := by
  have key : ∀ c ∈ allS0.cps.toList, (allS0.cps.toList.filter (fun x => !decide (x = c))).length = 67 := by decide +kernel
  rw [str_len, outS_cps]
  exact key c h
theorem sgn_in {z : Str} {d : Int} (h0 : 0 ≤ d) (h : d < (z.length : Int)) : sgn z d ∈ z.cps.toList := by
  have h3 := str_len z
  unfold sgn
  rw [List.getD_eq_getElem?_getD, List.getElem?_eq_getElem (by omega)]
  exact List.getElem_mem _
def xM (s : Int × Int) : Nat := sgn allS0 (take s 68).1
def yM (s : Int × Int) : Nat := sgn (outS (xM s) allS0) (take (take s 68).2 67).1
def rM (s : Int × Int) (z : Str) : Nat := sgn (outS (yM s) (outS (xM s) z)) 0
def five (s : Int × Int) : List Nat := [xM s, yM s, rM s letS, rM s othS, rM s digS]
def fiveS (s : Int × Int) : Int × Int := (take (take s 68).2 67).2
theorem x_in (s : Int × Int) : xM s ∈ allS0.cps.toList := by
  have t := take_lt (s := s) (n := 68) (by decide)
  exact sgn_in t.1 (by rw [all0_len]; exact t.2)
theorem y_in (s : Int × Int) : yM s ∈ allS0.cps.toList ∧ yM s ≠ xM s := by
  have t := take_lt (s := (take s 68).2) (n := 67) (by decide)
  have h : yM s ∈ (outS (xM s) allS0).cps.toList := sgn_in t.1 (by rw [outS67 (x_in s)]; exact t.2)
  rw [outS_cps] at h
  obtain ⟨h1, h2⟩ := List.mem_filter.mp h
  exact ⟨h1, by simpa using h2⟩
theorem r_cps (s : Int × Int) (z : Str) : (outS (yM s) (outS (xM s) z)).cps.toList = z.cps.toList.filter (fun x => !decide (x ∈ [xM s, yM s])) := by
  rw [outS_cps, outS_cps, List.filter_filter]
  refine List.filter_congr fun x _ => ?_
  by_cases h1 : x = xM s <;> by_cases h2 : x = yM s <;> simp [h1, h2]
theorem r_head (s : Int × Int) {z : Str} (h : z ∈ [letS, othS, digS]) : (z.cps.toList.filter (fun x => !decide (x ∈ [xM s, yM s]))).head? = some (rM s z) := by
  have key : ∀ z ∈ [letS, othS, digS], 3 ≤ z.cps.toList.length ∧ z.cps.toList.Nodup := by decide +kernel
  obtain ⟨k1, k2⟩ := key z h
  unfold rM sgn
  rw [← r_cps]
  have ne : (outS (yM s) (outS (xM s) z)).cps.toList ≠ [] := fun e => by
    rw [r_cps] at e
    have all : ∀ c ∈ z.cps.toList, c ∈ [xM s, yM s] := fun c hc => by
      have := List.filter_eq_nil_iff.mp e c hc
      simpa only [Bool.not_eq_true, Bool.not_eq_false', decide_eq_true_eq] using this
    cases hz : z.cps.toList with
    | nil =>
      rw [hz] at k1
      simp at k1
    | cons a r =>
      cases r with
      | nil =>
        rw [hz] at k1
        simp at k1
      | cons b r =>
        cases r with
        | nil =>
          rw [hz] at k1
          simp at k1
        | cons c r =>
          rw [hz] at k2 all
          have h1 := all a (by simp)
          have h2 := all b (by simp)
          have h3 := all c (by simp)
          simp only [List.nodup_cons, List.mem_cons, not_or, List.not_mem_nil, or_false] at k2 h1 h2 h3
          omega
  cases hl : (outS (yM s) (outS (xM s) z)).cps.toList with
  | nil => exact absurd hl ne
  | cons a r => rfl
theorem r_in (s : Int × Int) {z : Str} (h : z ∈ [letS, othS, digS]) : rM s z ∈ z.cps.toList ∧ rM s z ∉ [xM s, yM s] := by
  have := List.mem_of_mem_head? (r_head s h)
  obtain ⟨h1, h2⟩ := List.mem_filter.mp this
  exact ⟨h1, by simpa using h2⟩
theorem ev_rp {σ : L2.St} {G : Hp} {te : TE} {a b : Str} {i : Nat} (h : Ev te σ G (.str a)) (hi : σ[i]? = some (some (.str b))) (hb : (b == ("" : Str)) = false) (ha : a.length ≤ 100000) : Ev (tRp i te) σ G (.str (Txt.replace a b "")) :=
  fun H1 e Q q => h H1 e _ fun H2 e2 => ⟨a, b, rfl, hi, hb, ha, q H2 e2⟩
theorem sgn_ne (c : Nat) : ((⟨#[c]⟩ : Str) == ("" : Str)) = false := by
  refine beq_eq_false_iff_ne.mpr fun h => ?_
  have : (⟨#[c]⟩ : Str).length = ("" : Str).length := by rw [h]
  exact Nat.succ_ne_zero 0 this
theorem el_eq {σ : L2.St} {G : Hp} {te : TE} {xs ys : List V} (h : EvL te σ G xs) (e : xs = ys) : EvL te σ G ys := e ▸ h
theorem el_catNS {σ : L2.St} {H : Hp} {ta tb : TE} {b : Addr} {xs ys : List V} (ha : EvL ta σ H xs) (hb : Ev tb σ H (.ref b)) (hy : H b = some (.lst ys)) (hz : xs.length + ys.length ≤ 100000) : EvL (tOp rCat ta tb) σ H (xs ++ ys) := fun H1 e Q q =>
  ha H1 e _ fun a H2 ha2 e2 hx => hb H2 (e.trans e2) _ fun H3 e3 => ⟨a, b, xs, ys, rfl, rfl, e3 _ _ hx, e3 _ _ (e2 _ _ (e _ _ hy)), sz_of hz, fun l hl => q l _ (fresh_back (e2.trans e3) hl) ((e2.trans e3).trans (Ex.new hl)) upd_same⟩
def spSigns5 : Sp := fun vs H Q _ => ∃ (p : Addr) (s : Int × Int), vs = [.ref p] ∧ H p = some (pl s) ∧ Pk s ∧ RetPL p (fiveS s) ((five s).map fun c => V.str (sg c)) H Q
theorem ok__law_signs {f : Addr} {fd : FuncData} (F : Fun K "_law_signs" "_law_signs" s__law_signs f fd) (T : Txt K mg a_OPEN_PARTS C_Both C_Either C_Form) (D__law_take : Df P w K mg base "_law_take" ["pool", "many"] 1 spTake) : FnOk P w K mg base CX0 2 f fd ["pool"] spSigns5 := by
  refine F.ok sc__law_signs (fun vs H Q E h => ?_) (fun cdv A outer s0 H vs Q E hr h => ?_)
  · obtain ⟨p, s, rfl, _⟩ := h
    rfl
  · obtain ⟨p, s, rfl, hp, hk, q⟩ := h
    refine ⟨_, (pss_str (i := 1) sc__law_signs.nd rfl (Or.inl rfl)
      (psst_cons (PST.of (ps_set (i := 2) sc__law_signs.nd rfl (Or.inl rfl) pe_str))
      (psst_cons (PST.of (ps_set (i := 3) sc__law_signs.nd rfl (Or.inl rfl) pe_str))
      (psst_cons (PST.of (ps_set (i := 4) sc__law_signs.nd rfl (Or.inl rfl) (pe_op op_add_str (pe_op op_add_str (pv 1) (pv 2)) (pv 3))))
      (PSsX.toT (psx_ixs (i := 5) sc__law_signs.nd rfl rfl rfl (by decide) (pcv 4) (pec_df D__law_take (hr.mono (by decide)) (by rfl) (pac_cons (pcv 0) (pac_cons pec_int pac_nil))) (fun _ _ => rfl)
      (psx_set (i := 4) sc__law_signs.nd rfl rfl (by decide) (pek_repl (i := 5) (by simp) (Or.inl rfl) (PEk.of (pcv 4)))
      (psx_ixs (i := 6) sc__law_signs.nd rfl rfl rfl (by decide) (pcv 4) (pec_df D__law_take (hr.mono (by decide)) (by rfl) (pac_cons (pcv 0) (pac_cons pec_int pac_nil))) (fun _ _ => rfl)
      (psx_last (psk_setLc (i := 7) (own := [("part", 8)]) (g := gName 8) rfl sc__law_signs.nd rfl rfl (sw_true rfl rfl rfl (by decide +kernel)) (pic_list (pec_lst (pac_cons (pcv 1) (pac_cons (pcv 2) (pac_cons (pcv 3) pac_nil))))) (blkOk_by (own := [("part", 8)]) (N := ["pool", "letters", "odd", "digits", "some", "x", "y", "rest_of", "part"]) (sc := defScope s__law_signs) (by decide +kernel)) (by decide) (fun _ _ _ _ _ => pg_name (i := 8) sc__law_signs.nd rfl (Or.inl rfl)) (fun _ _ _ _ _ => (pek_ixs (pek_repl (i := 6) (by simp) (Or.inl rfl) (pek_repl (i := 5) (by simp) (Or.inl rfl) (PEk.of (pcv 8)))) pec_int (fun _ _ => rfl))))
      (pss_one (ps_ret (pe_op op_cat (pe_lst (pa_cons (pv 5) (pa_cons (pv 6) pa_nil))) (pv 7))))))))))))), ?_⟩
    have K0 := Kn.here hp
    have k1 : Pk (take s 68).2 := take_pk hk
    have t1 := take_lt (s := s) (n := 68) (by decide)
    have t2 := take_lt (s := (take s 68).2) (n := 67) (by decide)
    refine q_asg (v := .str letS) ev_c fun H1 e1 => q_asg (v := .str othS) ev_c fun H2 e2 => q_asg (v := .str digS) ev_c fun H3 e3 => ?_
    refine q_asg (v := .str allS0) (ev_op (ev_op (ev_var rfl) (ev_var rfl) (rv_cat (by decide +kernel))) (ev_var rfl) (rv_cat (by decide +kernel))) fun H4 e4 => ?_
    have K4 := (((K0.same e1).same e2).same e3).same e4
    refine qp_asg (v := .str ⟨#[xM s]⟩) K4 (evp_op (EvP.of (ev_var rfl)) (evp_take rfl hk (by decide) (by decide)) (rv_ixS (by decide +kernel) (sgn_ix t1.1 (by rw [all0_len]; exact t1.2)))) fun H5 K5 e5 => ?_
    refine q_asg (v := .str (outS (xM s) allS0)) (ev_rp (ev_var rfl) rfl (sgn_ne _) (by decide +kernel)) fun H6 e6 => ?_
    have K6 := K5.same e6
    have l67 := outS67 (x_in s)
    refine qp_asg (v := .str ⟨#[yM s]⟩) K6 (evp_op (EvP.of (ev_var rfl)) (evp_take rfl k1 (by decide) (by decide)) (rv_ixS (by omega) (sgn_ix t2.1 (by rw [l67]; exact t2.2)))) fun H7 K7 e7 => ?_
    have key : ∀ z ∈ [letS, othS, digS], z.length ≤ 60 := by decide +kernel
    refine q_asgL (xs := [rM s letS, rM s othS, rM s digS].map fun c => V.str (sg c)) (el_eq (el_lcNM (r := V.str) (xs := [letS, othS, digS]) ("" : Str) (fun _ => true) (fun z => V.str (sg (rM s z))) (el_lst (ea_cons (ev_var rfl) (ea_cons (ev_var rfl) (ea_cons (ev_var rfl) ea_nil))) (by simp)) (by simp) (fun _ => rfl) (fun _ _ _ _ => et_yes) (fun z H8 e8 hz _ => ?_)) (by
      rw [filter_yes]
      rfl)) fun l H8 hl e8 h8 => ?_
    · have h1 := key z hz
      have h2 := outS_len (xM s) z
      have h3 := outS_len (yM s) (outS (xM s) z)
      refine ev_op (ev_rp (ev_rp (ev_var rfl) rfl (sgn_ne _) (by omega)) rfl (sgn_ne _) (show (outS (xM s) z).length ≤ 100000 by omega)) ev_c (rv_ixS (show (outS (yM s) (outS (xM s) z)).length ≤ 100000 by omega) ?_)
      have h4 := r_head s hz
      rw [← r_cps] at h4
      show atI (outS (yM s) (outS (xM s) z)).cps.toList 0 = some (rM s z)
      cases hl : (outS (yM s) (outS (xM s) z)).cps.toList with
      | nil =>
        rw [hl] at h4
        cases h4
      | cons a r =>
        rw [hl] at h4
        cases h4
        exact atI_nat (j := 0) rfl
    · have K8 := K7.same e8
      refine s_retL (xs := (five s).map fun c => V.str (sg c)) (el_catNS (xs := [V.str (sg (xM s)), V.str (sg (yM s))]) (el_lst (ea_cons (ev_var rfl) (ea_cons (ev_var rfl) ea_nil)) (by simp)) (ev_var rfl) h8 (by simp)) fun r H9 hr9 e9 h9 => ?_
      have K9 := K8.same e9
      refine q r H9 ?_ K9.ex K9.at_ h9
      cases hq : H r with
      | none => rfl
      | some o =>
        by_cases hrp : r = p
        · rw [hrp, K8.at_] at hr9
          cases hr9
        · have z := K8.ex r o (by rw [hide_ne hrp]; exact hq)
          rw [z] at hr9
          cases hr9

/-! ### the menu, the pattern, the lines -/
def LstT (ps : List Str) (p : Addr) (H : Hp) : Prop := H p = some (.lst (ps.map V.str))
theorem upM9 : Up LstT := fun _ _ _ _ e h => e _ _ h
def menuM (x y : Nat) : List (List Str) := [[sg x], [sg y], [sg x ++ sg y], [sg x ++ sg x], [sg x, anyP], [sg y, anyP], [sg x ++ sg y, anyP], [anyP]] ++ [[digP], [wordP], [sg x, digP], [sg y, wordP]]
def EvRA {α : Type} (ta : TA) (σ : L2.St) (H : Hp) (R : α → Addr → Hp → Prop) (xs : List α) : Prop := ∀ H1, Ex H H1 → ∀ Q : List V → Hp → Prop, (∀ vs H2, Ex H1 H2 → Rs R H2 vs xs → Q vs H2) → ta σ H1 Q
section
variable {σ : L2.St} {H : Hp} {te tb : TE} {ta : TA} {xs ys : List (List Str)}
theorem era_nil : EvRA tNil σ H LstT [] := fun H1 e Q q => q [] H1 (Ex.refl _) .nil
theorem era_cons {x : List Str} (h : EvL te σ H (x.map V.str)) (hr : EvRA ta σ H LstT xs) : EvRA (tCons te ta) σ H LstT (x :: xs) := fun H1 e Q q =>
  h H1 e _ fun p H2 _ e2 h2 => hr H2 (e.trans e2) _ fun vs H3 e3 r3 => q (.ref p :: vs) H3 (e2.trans e3) (.cons (e3 _ _ h2) r3)
theorem ers_lstD (h : EvRA ta σ H LstT xs) (hl : xs.length ≤ 100000) : EvRs (tLst ta) σ H LstT xs := fun H1 e Q q =>
  h H1 e _ fun vs H2 e2 r2 => ⟨sz_of (by rw [r2.len]; exact hl), fun p hp => q p vs (upd H2 p (.lst vs)) (fresh_back e2 hp) (e2.trans (Ex.new hp)) upd_same (r2.ex upM9 (Ex.new hp))⟩
theorem ers_catD {a : Addr} {us : List V} (ha : Ev ta' σ H (.ref a)) (hx : H a = some (.lst us)) (rx : Rs LstT H us xs) (hb : EvRs tb σ H LstT ys) (hz : xs.length + ys.length ≤ 100000) : EvRs (tOp rCat ta' tb) σ H LstT (xs ++ ys) := fun H1 e Q q =>
  ha H1 e _ fun H2 e2 => hb H2 (e.trans e2) _ fun b vs H3 _ e3 hy ry => ⟨a, b, us, vs, rfl, rfl, e3 _ _ (e2 _ _ (e _ _ hx)), hy, sz_of (by rw [rx.len, ry.len]; exact hz), fun l hl => q l (us ++ vs) _ (fresh_back (e2.trans e3) hl) ((e2.trans e3).trans (Ex.new hl)) upd_same
    (((rx.ex upM9 (e.trans (e2.trans e3))).app' ry).ex upM9 (Ex.new hl))⟩
theorem q_par {i j : Nat} {D : Ends} {tz : TS} {v w : V} (h : EvA ta σ H [v, w]) (k : ∀ H1, Ex H H1 → tz D ((σ.set i (some v)).set j (some w)) H1) : tSeq (tPar i j ta) tz D σ H := h H (Ex.refl _) _ fun H1 e1 => ⟨v, w, rfl, k H1 e1⟩
theorem sp_retLst {G : Hp} {p : Addr} {s s1 : Int × Int} {D : Ends} {vs : List V} (k : Kn G p s H) (h : EvAP ta σ G p s vs s1) (hl : vs.length ≤ 100000) (nx : ∀ l H', H l = none → Kn G p s1 H' → H' l = some (.lst vs) → D.rt (.ref l) H') : tRet (tLst ta) D σ H :=
  h H k _ fun H1 e1 h1 => ⟨sz_of hl, fun l hl0 => nx l (upd H1 l (.lst vs)) (by
    cases hq : H l with
    | none => rfl
    | some o =>
      by_cases z : l = p
      · rw [z, h1] at hl0
        cases hl0
      · rw [e1 l o (by rw [hide_ne z]; exact hq)] at hl0
        cases hl0) ((k.next e1 h1).same (Ex.new hl0)) upd_same⟩
end
def spMenu (K : PySem.W.Frag) : Sp := fun vs H Q _ => ∃ (a : Addr) (x y : Nat) (r : List V) (n : Int), vs = [.ref a, .int n] ∧ SqL K H a (V.str (sg x) :: V.str (sg y) :: r) ∧ 0 ≤ n ∧ n < 12 ∧
  ∀ l H', Ex H H' → H' l = some (.lst (((menuM x y).getD n.toNat []).map V.str)) → Q (.ref l) H'
theorem ok__law_parts {f : Addr} {fd : FuncData} (F : Fun K "_law_parts" "_law_parts" s__law_parts f fd) (T : Txt K mg a_OPEN_PARTS C_Both C_Either C_Form) : FnOk P w K mg base CX0 1 f fd ["signs", "number"] (spMenu K) := by
  refine F.ok sc__law_parts (fun vs H Q E h => ?_) (fun cdv A outer s0 H vs Q E hr h => ?_)
  · obtain ⟨a, x, y, r, n, rfl, _⟩ := h
    rfl
  · obtain ⟨a, x, y, r, n, rfl, hA, n0, n1, q⟩ := h
    refine ⟨_, (pss_cons (ps_par (i := 2) (j := 3) rfl sc__law_parts.nd rfl rfl (by decide) rfl rfl (pa_cons (pe_ix ix_list (pv 0) pe_int (fun _ _ => rfl)) (pa_cons (pe_ix ix_list (pv 0) pe_int (fun _ _ => rfl)) pa_nil)) rfl)
      (pss_cons (ps_set (i := 4) sc__law_parts.nd rfl (Or.inl rfl) (pe_lst (pa_cons (pe_lst (pa_cons (pv 2) pa_nil)) (pa_cons (pe_lst (pa_cons (pv 3) pa_nil)) (pa_cons (pe_lst (pa_cons (pe_op op_add_str (pv 2) (pv 3)) pa_nil)) (pa_cons (pe_lst (pa_cons (pe_op op_add_str (pv 2) (pv 2)) pa_nil)) (pa_cons (pe_lst (pa_cons (pv 2) (pa_cons pe_str pa_nil))) (pa_cons (pe_lst (pa_cons (pv 3) (pa_cons pe_str pa_nil))) (pa_cons (pe_lst (pa_cons (pe_op op_add_str (pv 2) (pv 3)) (pa_cons pe_str pa_nil))) (pa_cons (pe_lst (pa_cons pe_str pa_nil)) pa_nil))))))))))
      (pss_cons (ps_set (i := 4) sc__law_parts.nd rfl (Or.inl rfl) (pe_op op_cat (pv 4) (pe_lst (pa_cons (pe_lst (pa_cons pe_str pa_nil)) (pa_cons (pe_lst (pa_cons pe_str pa_nil)) (pa_cons (pe_lst (pa_cons (pv 2) (pa_cons pe_str pa_nil))) (pa_cons (pe_lst (pa_cons (pv 3) (pa_cons pe_str pa_nil))) pa_nil)))))))
      (pss_one (ps_ret (pe_ix ix_list (pv 4) (pv 1) (fun _ _ => rfl))))))), ?_⟩
    refine q_par (v := .str (sg x)) (w := .str (sg y)) (ea_cons (ev_op (ev_var rfl) ev_c (rv_ixL hA (atI_nat (j := 0) rfl))) (ea_cons (ev_op (ev_var rfl) ev_c (rv_ixL hA (atI_nat (j := 1) rfl))) ea_nil)) fun H1 e1 => ?_
    have o1 : ∀ {te : TE} {σ : L2.St} {G : Hp} {z : Str}, Ev te σ G (.str z) → EvL (tLst (tCons te tNil)) σ G ([z].map V.str) := fun h => el_lst (ea_cons h ea_nil) (by simp)
    have o2 : ∀ {te te2 : TE} {σ : L2.St} {G : Hp} {z z2 : Str}, Ev te σ G (.str z) → Ev te2 σ G (.str z2) → EvL (tLst (tCons te (tCons te2 tNil))) σ G ([z, z2].map V.str) := fun h k => el_lst (ea_cons h (ea_cons k ea_nil)) (by simp)
    have one : ∀ c : Nat, (sg c).length = 1 := fun c => rfl
    refine q_asgRs (ers_lstD (era_cons (o1 (ev_var rfl)) (era_cons (o1 (ev_var rfl)) (era_cons (o1 (ev_op (ev_var rfl) (ev_var rfl) (rv_cat (by rw [one, one]; decide)))) (era_cons (o1 (ev_op (ev_var rfl) (ev_var rfl) (rv_cat (by rw [one]; decide))))
      (era_cons (o2 (ev_var rfl) ev_c) (era_cons (o2 (ev_var rfl) ev_c) (era_cons (o2 (ev_op (ev_var rfl) (ev_var rfl) (rv_cat (by rw [one, one]; decide))) ev_c) (era_cons (o1 ev_c) era_nil)))))))) (by simp)) fun l us H2 hl e2 h2 r2 => ?_
    refine q_asgRs (xs := menuM x y) (ers_catD (ev_var rfl) h2 r2 (ers_lstD (era_cons (o1 ev_c) (era_cons (o1 ev_c) (era_cons (o2 (ev_var rfl) ev_c) (era_cons (o2 (ev_var rfl) ev_c) era_nil)))) (by simp)) (by simp)) fun l3 us3 H3 hl3 e3 h3 r3 => ?_
    have len : (menuM x y).length = 12 := rfl
    obtain ⟨p, hp, lp⟩ := r3.at (i := n.toNat) (x := (menuM x y).getD n.toNat []) (by
      rw [List.getD_eq_getElem?_getD, List.getElem?_eq_getElem (by omega)]
      rfl)
    have hp' : atI us3 n = some (.ref p) := by
      have := atI_nat hp
      rwa [Int.toNat_of_nonneg n0] at this
    exact s_ret (v := .ref p) (ev_op (ev_var rfl) (ev_var rfl) (rv_ixL (sq_of h3) hp')) fun H4 e4 => q p H4 (((e1.trans e2).trans e3).trans e4) (e4 _ _ lp)

/-! ### the pattern drawn -/
def opM (n : Int) : Str := (["", "", "&", "|"] : List Str).getD n.toNat ""
def patM (s : Int × Int) : Str × Int × Int := (opM (take (take (take s 12).2 12).2 4).1, (take s 12).1, (take (take s 12).2 12).1)
def patS (s : Int × Int) : Int × Int := (take (take (take s 12).2 12).2 4).2
def patV (t : Str × Int × Int) : List V := [.str t.1, .int t.2.1, .int t.2.2]
def PatOk (t : Str × Int × Int) : Prop := (t.1 = "" ∨ t.1 = "&" ∨ t.1 = "|") ∧ (0 ≤ t.2.1 ∧ t.2.1 < 12) ∧ 0 ≤ t.2.2 ∧ t.2.2 < 12
theorem op_ok {n : Int} : opM n = "" ∨ opM n = "&" ∨ opM n = "|" := by
  unfold opM
  generalize n.toNat = k
  match k with
  | 0 => exact .inl rfl
  | 1 => exact .inl rfl
  | 2 => exact .inr (.inl rfl)
  | 3 => exact .inr (.inr rfl)
  | k + 4 => exact .inl rfl
theorem pat_ok (s : Int × Int) : PatOk (patM s) := ⟨op_ok, take_lt (by decide), take_lt (by decide)⟩
theorem evp_ixNew {σ : L2.St} {G : Hp} {p : Addr} {s s' : Int × Int} {tl tb : TE} {xs : List V} {n : Int} {v : V} (ha : EvL tl σ G xs) (hb : EvP tb σ G p s (.int n) s') (hx : atI xs n = some v) : EvP (tOp (rIxL K) tl tb) σ G p s v s' := fun H k Q q =>
  ha H k.ex _ fun l H1 hl e1 h1 => hb H1 (k.same e1) _ fun H2 e2 h2 => by
    have nlp : l ≠ p := fun z => by
      rw [z, k.at_] at hl
      cases hl
    have h3 : H2 l = some (.lst xs) := e2 _ _ (by rw [hide_ne nlp]; exact h1)
    exact rv_ixL (H := H2) (K := K) (sq_of h3) hx H2 (Ex.refl _) Q fun H3 e3 => q H3 (hx_trans (hx_trans (hx_of e1) e2) (hx_of e3)) (e3 _ _ h2)
def spPat : Sp := fun vs H Q _ => ∃ (p : Addr) (s : Int × Int), vs = [.ref p] ∧ H p = some (pl s) ∧ Pk s ∧ RetPL p (patS s) (patV (patM s)) H Q
theorem ok__law_pattern {f : Addr} {fd : FuncData} (F : Fun K "_law_pattern" "_law_pattern" s__law_pattern f fd) (T : Txt K mg a_OPEN_PARTS C_Both C_Either C_Form) (D__law_take : Df P w K mg base "_law_take" ["pool", "many"] 1 spTake) : FnOk P w K mg base CX0 2 f fd ["pool"] spPat := by
  refine F.ok sc__law_pattern (fun vs H Q E h => ?_) (fun cdv A outer s0 H vs Q E hr h => ?_)
  · obtain ⟨p, s, rfl, _⟩ := h
    rfl
  · obtain ⟨p, s, rfl, hp, hk, q⟩ := h
    refine ⟨_, (pss_cons (ps_set (i := 1) sc__law_pattern.nd rfl (Or.inl rfl) (pe_df D__law_take (hr.mono (by decide)) (by rfl) (pa_cons (pv 0) (pa_cons pe_int pa_nil))))
      (pss_cons (ps_set (i := 2) sc__law_pattern.nd rfl (Or.inl rfl) (pe_df D__law_take (hr.mono (by decide)) (by rfl) (pa_cons (pv 0) (pa_cons pe_int pa_nil))))
      (pss_one (ps_ret (pe_lst (pa_cons (pe_ix ix_list (pe_lst (pa_cons pe_str (pa_cons pe_str (pa_cons pe_str (pa_cons pe_str pa_nil))))) (pe_df D__law_take (hr.mono (by decide)) (by rfl) (pa_cons (pv 0) (pa_cons pe_int pa_nil))) (fun _ _ => rfl)) (pa_cons (pv 1) (pa_cons (pv 2) pa_nil)))))))), ?_⟩
    have K0 := Kn.here hp
    have k1 : Pk (take s 12).2 := take_pk hk
    have k2 : Pk (take (take s 12).2 12).2 := take_pk k1
    have t3 := take_lt (s := (take (take s 12).2 12).2) (n := 4) (by decide)
    refine qp_asg K0 (evp_take rfl hk (by decide) (by decide)) fun H1 K1 e1 => ?_
    refine qp_asg K1 (evp_take rfl k1 (by decide) (by decide)) fun H2 K2 e2 => ?_
    refine sp_retLst (vs := patV (patM s)) K2 (eap_cons (evp_ixNew (xs := [.str "", .str "", .str "&", .str "|"]) (v := .str (opM (take (take (take s 12).2 12).2 4).1)) (el_lst (ea_cons ev_c (ea_cons ev_c (ea_cons ev_c (ea_cons ev_c ea_nil)))) (by simp)) (evp_take rfl k2 (by decide) (by decide)) ?_) (EvAP.of (ea_cons (ev_var rfl) (ea_cons (ev_var rfl) ea_nil)))) (by simp [patV]) fun r H9 hr9 K9 h9 => ?_
    · unfold opM
      generalize (take (take (take s 12).2 12).2 4).1 = n at t3
      obtain ⟨m, rfl⟩ : ∃ m : Nat, n = (m : Int) := ⟨n.toNat, (Int.toNat_of_nonneg t3.1).symm⟩
      refine atI_nat ?_
      have hm : m < 4 := by omega
      match m, hm with
      | 0, _ => rfl
      | 1, _ => rfl
      | 2, _ => rfl
      | 3, _ => rfl
    · refine q r H9 ?_ K9.ex K9.at_ h9
      cases hq : H r with
      | none => rfl
      | some o =>
        by_cases hrp : r = p
        · rw [hrp, K2.at_] at hr9
          cases hr9
        · rw [K2.ex r o (by rw [hide_ne hrp]; exact hq)] at hr9
          cases hr9

/-! ### the lines of up to three signs -/
theorem tx_app (l : List Nat) (p : Str) : tx l ++ p = tx (l ++ p.cps.toList) := by
  show (⟨l.toArray ++ p.cps⟩ : Str) = ⟨(l ++ p.cps.toList).toArray⟩
  congr 1
  apply Array.ext'
  simp
def ascF (fs : List Nat) : List Nat := signsS.cps.toList.filter fun c => decide (c ∈ fs)
theorem ascF_up (fs : List Nat) : (ascF fs).Pairwise (· < ·) := signs_up.filter _
theorem ascF_mem {fs : List Nat} (h : ∀ c ∈ fs, c ∈ signsS.cps.toList) (c : Nat) : c ∈ ascF fs ↔ c ∈ fs := by
  unfold ascF
  rw [List.mem_filter]
  exact ⟨fun z => of_decide_eq_true z.2, fun z => ⟨h c z, decide_eq_true z⟩⟩
theorem ascF_perm {fs : List Nat} (h : ∀ c ∈ fs, c ∈ signsS.cps.toList) (hn : fs.Nodup) : (ascF fs).Perm fs :=
  (List.perm_ext_iff_of_nodup (signs_nodup.filter _) hn).mpr (ascF_mem h)
def lvl (ss : List Nat) : Nat → List (List Nat)
  | 0 => [[]]
  | n + 1 => (lvl ss n).flatMap fun w => ss.map fun c => w ++ [c]
theorem lvl_len (ss : List Nat) : ∀ n, (lvl ss n).length = ss.length ^ n
  | 0 => rfl
  | n + 1 => by
    show ((lvl ss n).flatMap fun w => ss.map fun c => w ++ [c]).length = _
    rw [List.length_flatMap]
    simp only [List.length_map, List.map_const', List.sum_replicate_nat, lvl_len ss n]
    rw [Nat.pow_succ]
def foundM (ss : List Nat) : Nat → List (List Nat)
  | 0 => []
  | n + 1 => foundM ss n ++ lvl ss (n + 1)
def wS (w : List Nat) : V := V.str (tx w)
theorem el_srtS {σ : L2.St} {G : Hp} {te : TE} {a : Addr} {fs : List Nat} (hs : ∀ c ∈ fs, c ∈ signsS.cps.toList) (hn : fs.Nodup) (h5 : fs.length ≤ 5) (h : Ev te σ G (.ref a)) (hx : SqL K G a (fs.map fun c => V.str (sg c))) :
    EvL (tCB (rSortedS K) (tCons te tNil)) σ G ((ascF fs).map fun c => V.str (sg c)) := fun H1 e Q q =>
  h H1 e _ fun H2 e2 => ⟨a, fs.map sg, rfl, by rw [List.map_map]; exact ex_l (e.trans e2) hx, by rw [List.length_map]; omega, fun ys p hp hsr hpn => by
    have hN : (fs.map sg).Nodup := by
      rw [List.nodup_iff_pairwise_ne, List.pairwise_map]
      exact (List.nodup_iff_pairwise_ne.mp hn).imp fun n e => n (sg_inj e)
    have hU : ((ascF fs).map sg).Nodup := by
      rw [List.nodup_iff_pairwise_ne, List.pairwise_map]
      exact (List.nodup_iff_pairwise_ne.mp (signs_nodup.filter _)).imp fun n e => n (sg_inj e)
    have e3 : ys = (ascF fs).map sg := sortedS_uniq (sortedS_pw hsr) (sgs_up.sublist (List.Sublist.map _ List.filter_sublist)) (hp.nodup_iff.mpr hN) hU fun k => by
      rw [hp.mem_iff]
      exact ((ascF_perm hs hn).map sg).mem_iff.symm
    subst e3
    exact q p _ (fresh_back e2 hpn) (e2.trans (Ex.new hpn)) (by rw [upd_same, List.map_map]; rfl)⟩
theorem el_catSS {σ : L2.St} {H : Hp} {ta tb : TE} {a b : Addr} {xs ys : List V} (ha : Ev ta σ H (.ref a)) (hx : H a = some (.lst xs)) (hb : Ev tb σ H (.ref b)) (hy : H b = some (.lst ys)) (hz : xs.length + ys.length ≤ 100000) : EvL (tOp rCat ta tb) σ H (xs ++ ys) := fun H1 e Q q =>
  ha H1 e _ fun H2 e2 => hb H2 (e.trans e2) _ fun H3 e3 => ⟨a, b, xs, ys, rfl, rfl, e3 _ _ (e2 _ _ (e _ _ hx)), e3 _ _ (e2 _ _ (e _ _ hy)), sz_of hz, fun l hl => q l _ (fresh_back (e2.trans e3) hl) ((e2.trans e3).trans (Ex.new hl)) upd_same⟩
theorem lvl_word (ss : List Nat) : ∀ n, ∀ w ∈ lvl ss n, w.length = n ∧ ∀ c ∈ w, c ∈ ss
  | 0, w, h => by
    rw [List.mem_singleton.mp (show w ∈ [[]] from h)]
    exact ⟨rfl, fun c hc => by cases hc⟩
  | n + 1, w, h => by
    obtain ⟨u, hu, hw⟩ := List.mem_flatMap.mp (show w ∈ (lvl ss n).flatMap _ from h)
    obtain ⟨c, hc, rfl⟩ := List.mem_map.mp hw
    obtain ⟨k1, k2⟩ := lvl_word ss n u hu
    refine ⟨by simp [k1], fun d hd => ?_⟩
    rcases List.mem_append.mp hd with z | z
    · exact k2 d z
    · rw [List.mem_singleton.mp z]
      exact hc
def spLines (K : PySem.W.Frag) : Sp := fun vs H Q _ => ∃ (a : Addr) (fs : List Nat), vs = [.ref a] ∧ SqL K H a (fs.map fun c => V.str (sg c)) ∧ (∀ c ∈ fs, c ∈ signsS.cps.toList) ∧ fs.Nodup ∧ fs.length ≤ 5 ∧
  ∀ l H', H l = none → Ex H H' → H' l = some (.lst ((foundM (ascF fs) 3).map wS)) → Q (.ref l) H'
theorem ok__law_lines {f : Addr} {fd : FuncData} (F : Fun K "_law_lines" "_law_lines" s__law_lines f fd) (T : Txt K mg a_OPEN_PARTS C_Both C_Either C_Form) : FnOk P w K mg base CX0 1 f fd ["signs"] (spLines K) := by
  refine F.ok sc__law_lines (fun vs H Q E h => ?_) (fun cdv A outer s0 H vs Q E hr h => ?_)
  · obtain ⟨a, fs, rfl, _⟩ := h
    rfl
  · obtain ⟨a, fs, rfl, hA, hs, hn, h5, q⟩ := h
    refine ⟨_, (pss_cons (ps_set (i := 1) sc__law_lines.nd rfl (Or.inl rfl) (pe_lst pa_nil))
      (pss_cons (ps_set (i := 2) sc__law_lines.nd rfl (Or.inl rfl) (pe_lst (pa_cons pe_str pa_nil)))
      (pss_cons (ps_for PassesOwn.never rfl (pi_range1 (by rfl) T.n_range (pa_cons pe_int pa_nil)) (pg_name (i := 3) sc__law_lines.nd rfl (Or.inl rfl))
      (pss_cons (ps_set (i := 4) sc__law_lines.nd rfl (Or.inl rfl) (pe_lst pa_nil))
      (pss_cons (ps_for PassesOwn.never rfl (pi_list (pv 2)) (pg_name (i := 5) sc__law_lines.nd rfl (Or.inr rfl))
      (pss_one (ps_set (i := 4) sc__law_lines.nd rfl (Or.inl rfl) (pe_op op_cat (pv 4) (pe_lc (own := [("sign", 6)]) (g := gName 6) rfl sc__law_lines.nd (pi_list (pe_callB cr_sortedS (by rfl) T.n_sorted (by decide +kernel) (pa_cons (pv 0) pa_nil))) (blkOk_by (own := [("sign", 6)]) (N := ["signs", "found", "level", "size", "longer", "line", "sign"]) (sc := defScope s__law_lines) (by decide +kernel)) (fun _ _ _ _ _ => pg_name (i := 6) sc__law_lines.nd rfl (Or.inl rfl)) (fun _ _ _ _ _ => pts_nil) (fun _ _ _ _ _ => (pe_op op_add_str (pv 5) (pv 6))))))))
      (pss_cons (ps_set (i := 2) sc__law_lines.nd rfl (Or.inl rfl) (pv 4))
      (pss_one (ps_set (i := 1) sc__law_lines.nd rfl (Or.inl rfl) (pe_op op_cat (pv 1) (pv 2))))))))
      (pss_one (ps_ret (pv 1)))))), ?_⟩
    have u5 : (ascF fs).length ≤ 5 := by rw [(ascF_perm hs hn).length_eq]; exact h5
    generalize hss : ascF fs = ss at u5
    have ln : ∀ n, n ≤ 3 → (lvl ss n).length ≤ 125 := fun n hn => by
      rw [lvl_len]
      exact Nat.le_trans (Nat.pow_le_pow_left u5 n) (Nat.le_trans (Nat.pow_le_pow_right (by decide) hn) (by decide))
    have lf : ∀ n, n ≤ 3 → (foundM ss n).length ≤ 125 * n := fun n => by
      induction n with
      | zero => exact fun _ => Nat.zero_le _
      | succ n ih =>
        intro h3
        have h1 := ih (by omega)
        have h2 := ln (n + 1) h3
        show (foundM ss n ++ lvl ss (n + 1)).length ≤ _
        rw [List.length_append]
        omega
    refine q_asgL (el_lst ea_nil (by simp)) fun l1 H1 hl1 e1 h1 => q_asgL (xs := [wS []]) (el_lst (ea_cons ev_c ea_nil) (by simp)) fun l2 H2 hl2 e2 h2 => ?_
    refine q_forR1 (ea_cons ev_c ea_nil) ⟨by decide, by decide⟩
      (fun i σ' H' => ∃ (b1 b2 : Addr) (y3 y4 y5 y6 : Option V), σ' = [some (.ref a), some (.ref b1), some (.ref b2), y3, y4, y5, y6] ∧ Ex H H' ∧ H b1 = none ∧ i ≤ 3 ∧ H' b1 = some (.lst ((foundM ss i).map wS)) ∧ H' b2 = some (.lst ((lvl ss i).map wS)))
      (fun H3 e3 => ⟨l1, l2, none, none, none, none, rfl, (e1.trans e2).trans e3, hl1, Nat.zero_le _, e3 _ _ (e2 _ _ h1), e3 _ _ h2⟩) ?_ ?_
    · rintro i σ' H3 hi ⟨b1, b2, y3, y4, y5, y6, rfl, e3, n1, i3, h13, h23⟩
      have hi : i < 3 := by omega
      have l3 := ln i (by omega)
      refine q_asgL (el_lst ea_nil (by simp)) fun l4 H4 hl4 e4 h4 => ?_
      refine q_forLn (xs := (lvl ss i).map wS) (ev_var rfl) (sq_of (e4 _ _ h23))
        (fun j σ' H' => ∃ (b4 : Addr) (y5 y6 : Option V), σ' = [some (.ref a), some (.ref b1), some (.ref b2), some (.int (i : Int)), some (.ref b4), y5, y6] ∧ Ex H3 H' ∧ H' b4 = some (.lst ((((lvl ss i).take j).flatMap fun w => ss.map fun c => w ++ [c]).map wS)))
        (fun H5 e5 => ⟨l4, y5, y6, rfl, e4.trans e5, e5 _ _ h4⟩) (fun j σ' H' _ ⟨b4, y5, y6, _, e5, _⟩ => sq_of (e5 _ _ h23)) ?_ ?_
      · rintro j x σ' H5 hx ⟨b4, y5, y6, rfl, e5, h5'⟩
        rw [List.getElem?_map] at hx
        cases hw : (lvl ss i)[j]? with
        | none =>
          rw [hw] at hx
          cases hx
        | some wd =>
          rw [hw] at hx
          cases hx
          have hj : j < (lvl ss i).length := (List.getElem?_eq_some_iff.mp hw).1
          have htk : (lvl ss i).take (j + 1) = (lvl ss i).take j ++ [wd] := by
            rw [List.take_succ, hw]
            rfl
          have hlen : (((lvl ss i).take j).flatMap fun w => ss.map fun c => w ++ [c]).length ≤ 625 := by
            rw [List.length_flatMap]
            simp only [List.length_map, List.map_const', List.sum_replicate_nat, List.length_take]
            exact Nat.le_trans (Nat.mul_le_mul (Nat.le_trans (Nat.min_le_right _ _) l3) u5) (by decide)
          have hA5 := ex_l (e3.trans e5) hA
          have hwl : wd.length ≤ 100 := by
            have := (lvl_word ss i wd (List.mem_of_getElem? hw)).1
            omega
          refine s_asgL (xs := ((((lvl ss i).take (j + 1)).flatMap fun w => ss.map fun c => w ++ [c]).map wS)) (el_eq (el_cat (ev_var rfl) h5' (el_lcNM (r := fun c => V.str (sg c)) (xs := ss) 0 (fun _ => true) (fun c => wS (wd ++ [c])) (hss ▸ el_srtS hs hn h5 (ev_var rfl) hA5) (by omega) (fun _ => rfl) (fun _ _ _ _ => et_yes) (fun c H6 e6 _ _ => ?_)) ?_) ?_) fun p H6 hp e6 h6 => ⟨p, _, _, rfl, e5.trans e6, h6⟩
          · refine ev_is (ev_op (ev_var rfl) (ev_var rfl) (rv_cat ?_)) (congrArg V.str (tx_app wd (sg c)))
            show wd.toArray.size + 1 ≤ 100000
            simp
            omega
          · rw [List.length_map, List.length_map, filter_yes]
            omega
          · rw [filter_yes, htk, List.flatMap_append, List.map_append]
            simp [List.map_map, Function.comp_def]
      · rintro σ' H5 ⟨b4, y5, y6, rfl, e5, h5'⟩
        rw [List.length_map, List.take_length] at h5'
        refine q_asg (v := .ref b4) (ev_var rfl) fun H6 e6 => ?_
        have h16 := e6 _ _ (e5 _ _ h13)
        have h46 : H6 b4 = some (.lst ((lvl ss (i + 1)).map wS)) := e6 _ _ h5'
        have z1 := lf i (by omega)
        have z2 := ln (i + 1) (by omega)
        refine s_asgL (xs := (foundM ss (i + 1)).map wS) (el_eq (el_catSS (ev_var rfl) h16 (ev_var rfl) h46 (by rw [List.length_map, List.length_map]; omega)) (by
          rw [← List.map_append]
          rfl)) fun p H7 hp e7 h7 => ⟨p, b4, _, _, _, _, rfl, ((e3.trans e5).trans e6).trans e7, ?_, by omega, h7, e7 _ _ h46⟩
        exact fresh_back ((e3.trans e5).trans e6) hp
    · rintro σ' H3 ⟨b1, b2, y3, y4, y5, y6, rfl, e3, n1, _, h13, _⟩
      exact s_ret (v := .ref b1) (ev_var rfl) fun H4 e4 => q b1 H4 n1 (e3.trans e4) (hss ▸ e4 _ _ h13)

/-! ### patterns made, lines that bear, what is due -/
def mn (x y : Nat) (n : Int) : List Str := (menuM x y).getD n.toNat []
theorem good_1 {p : Str} (h : isOpen p = true ∨ fixedP p) : GoodP [p] :=
  ⟨parts_nil.snoc h (.inr rfl) (fun _ z => by cases z), Nat.le_refl 1, by show 1 ≤ 4; decide⟩
theorem good_2 {p q : Str} (h : isOpen p = true ∨ fixedP p) (k : isOpen q = true) (n : q = anyP → p ≠ anyP) : GoodP [p, q] :=
  ⟨(good_1 h).1.snoc (.inl k) (.inl k) (fun e z => n e (List.mem_singleton.mp z).symm), by show 1 ≤ 2; decide, by show 2 ≤ 4; decide⟩
theorem fix_1 {x : Nat} (h : x ∈ signsS.cps.toList) : fixedP (sg x) := ⟨lny_1 h, Nat.le_refl 1, by show 1 ≤ 4; decide⟩
theorem fix_2 {x y : Nat} (h : x ∈ signsS.cps.toList) (k : y ∈ signsS.cps.toList) : fixedP (sg x ++ sg y) := ⟨lny_app (lny_1 h) (lny_1 k), by show 1 ≤ 2; decide, by show 2 ≤ 4; decide⟩
theorem fix_any {p : Str} (h : fixedP p) : p ≠ anyP := fun e => by
  have := h.2.2
  rw [e] at this
  exact absurd this (by decide +kernel)
theorem mn_ok {x y : Nat} (hx : x ∈ signsS.cps.toList) (hy : y ∈ signsS.cps.toList) {n : Int} (h0 : 0 ≤ n) (h1 : n < 12) : GoodP (mn x y n) ∧ (mn x y n).length ≤ 2 := by
  unfold mn
  have hk : n.toNat < 12 := by omega
  generalize n.toNat = k at hk
  have a := fix_1 hx
  have b := fix_1 hy
  have c := fix_2 hx hy
  have d := fix_2 hx hx
  match k, hk with
  | 0, _ => exact ⟨good_1 (.inr a), Nat.le_succ 1⟩
  | 1, _ => exact ⟨good_1 (.inr b), Nat.le_succ 1⟩
  | 2, _ => exact ⟨good_1 (.inr c), Nat.le_succ 1⟩
  | 3, _ => exact ⟨good_1 (.inr d), Nat.le_succ 1⟩
  | 4, _ => exact ⟨good_2 (.inr a) open_any fun _ => fix_any a, Nat.le_refl 2⟩
  | 5, _ => exact ⟨good_2 (.inr b) open_any fun _ => fix_any b, Nat.le_refl 2⟩
  | 6, _ => exact ⟨good_2 (.inr c) open_any fun _ => fix_any c, Nat.le_refl 2⟩
  | 7, _ => exact ⟨good_1 (.inl open_any), Nat.le_succ 1⟩
  | 8, _ => exact ⟨good_1 (.inl open_dig), Nat.le_succ 1⟩
  | 9, _ => exact ⟨good_1 (.inl open_word), Nat.le_succ 1⟩
  | 10, _ => exact ⟨good_2 (.inr a) open_dig fun _ => fix_any a, Nat.le_refl 2⟩
  | 11, _ => exact ⟨good_2 (.inr b) open_word fun _ => fix_any b, Nat.le_refl 2⟩
def ptM (x y : Nat) (t : Str × Int × Int) : Pt := if t.1 = "" then .f (mn x y t.2.1) else .n (decide (t.1 = "&")) (.f (mn x y t.2.1)) (.f (mn x y t.2.2))
def bearsM (x y : Nat) (t : Str × Int × Int) (z : Str) : Bool := if t.1 = "" then fitsM (mn x y t.2.1) z else if t.1 = "&" then fitsM (mn x y t.2.1) z && fitsM (mn x y t.2.2) z else fitsM (mn x y t.2.1) z || fitsM (mn x y t.2.2) z
/-- a list told, new or not -/
def EvL' (te : TE) (σ : L2.St) (H : Hp) (xs : List V) : Prop := ∀ H1, Ex H H1 → ∀ Q : VK, (∀ l H2, Ex H1 H2 → H2 l = some (.lst xs) → Q (.ref l) H2) → te σ H1 Q
theorem ev_menu {σ : L2.St} {G : Hp} {a b : Addr} {x y : Nat} {r : List V} {t : Str × Int × Int} {i j : Nat} {c n : Int} (hi : σ[i]? = some (some (.ref a))) (hj : σ[j]? = some (some (.ref b))) (hA : SqL K G a (V.str (sg x) :: V.str (sg y) :: r)) (hB : SqL K G b (patV t))
    (hc : atI (patV t) c = some (.int n)) (h0 : 0 ≤ n) (h1 : n < 12) : EvL' (tCall (spMenu K) [] E0 (tCons (tVar i) (tCons (tOp (rIxL K) (tVar j) (tC (.int c))) tNil))) σ G ((mn x y n).map V.str) := fun H1 e Q q => by
  refine ⟨_, hi, _, hj, ⟨b, patV t, c, _, rfl, rfl, ex_l e hB, hc, ?_⟩⟩
  exact ⟨a, x, y, r, n, rfl, ex_l e hA, h0, h1, q⟩

def PatR2 (CF CB CE : Addr) (t : Pt) (a : Addr) (H : Hp) : Prop := PatR CF CB CE 2 t a H
def spMade (K : PySem.W.Frag) (CF CB CE : Addr) : Sp := fun vs H Q _ => ∃ (a b : Addr) (x y : Nat) (r : List V) (t : Str × Int × Int), vs = [.ref a, .ref b] ∧ SqL K H a (V.str (sg x) :: V.str (sg y) :: r) ∧ SqL K H b (patV t) ∧ PatOk t ∧
  x ∈ signsS.cps.toList ∧ y ∈ signsS.cps.toList ∧ ∀ p H', Ex H H' → PatR CF CB CE 2 (ptM x y t) p H' → Q (.ref p) H'
theorem s_asgF {te : TE} {σ : L2.St} {H : Hp} {C : Addr} {ps : List Str} {D : Ends} {i : Nat} (h : EvF te σ H C ps) (k : ∀ a H1, H a = none → Ex H H1 → FormAt C H1 a ps → D.nx (σ.set i (some (.ref a))) H1) : tAsg te (gName i) D σ H := h H (Ex.refl H) _ k
theorem q_asgF {te : TE} {σ : L2.St} {H : Hp} {C : Addr} {ps : List Str} {D : Ends} {tz : TS} {i : Nat} (h : EvF te σ H C ps) (k : ∀ a H1, H a = none → Ex H H1 → FormAt C H1 a ps → tz D (σ.set i (some (.ref a))) H1) : tSeq (tAsg te (gName i)) tz D σ H := h H (Ex.refl H) _ k
theorem q_asgL' {te : TE} {σ : L2.St} {H : Hp} {xs : List V} {D : Ends} {tz : TS} {i : Nat} (h : EvL' te σ H xs) (k : ∀ a H1, Ex H H1 → H1 a = some (.lst xs) → tz D (σ.set i (some (.ref a))) H1) : tSeq (tAsg te (gName i)) tz D σ H := h H (Ex.refl H) _ k
theorem good_first {ps : List Str} (g : GoodP ps) : GoodP [cellAt' ps 0] := good_1 (g.1.each _ (List.mem_of_getElem? (cellAt_get (by have := g.2.1; omega))))
theorem len_test {K : PySem.W.Frag} {σ : L2.St} {G : Hp} {l : Addr} {ps : List Str} {i : Nat} (h : G l = some (.lst (ps.map V.str))) (i0 : σ[i]? = some (some (.ref l))) : EvT (tTest (tOp rEq (tCB (fun xs H Q => ∃ p ys, xs = [.ref p] ∧ (SqL K H p ys ∨ SqT K H p ys) ∧ Q (.int ys.length) H) (tCons (tVar i) tNil)) (tC (.int 2)))) σ G (decide ((ps.length : Int) = 2)) := by
  have := et_test (ev_op (ev_lenL (K := K) (ev_var i0) (sq_of h)) (ev_c (v := .int 2)) rv_eqI)
  rw [List.length_map] at this
  exact this
theorem ix_lst {K : PySem.W.Frag} {σ : L2.St} {G : Hp} {l : Addr} {ps : List Str} {i : Nat} (h : G l = some (.lst (ps.map V.str))) (i0 : σ[i]? = some (some (.ref l))) (k : Nat) (hk : k < ps.length) : Ev (tOp (rIxL K) (tVar i) (tC (.int (k : Int)))) σ G (.str (cellAt' ps k)) := ev_op (ev_var i0) ev_c (rv_ixL (sq_of h) (cell_at hk))
theorem q_formIf {K : PySem.W.Frag} {σ : L2.St} {H : Hp} {D : Ends} {tz : TS} {i j : Nat} {l f0 C : Addr} {ps : List Str} (hL : H l = some (.lst (ps.map V.str))) (hi : σ[i]? = some (some (.ref l))) (hj : σ.set j (some (.ref f0)) = σ) (hF : FormAt C H f0 [cellAt' ps 0]) (g : GoodP ps) (h2 : ps.length ≤ 2)
    (k : ∀ a H1, Ex H H1 → FormAt C H1 a ps → tz D (σ.set j (some (.ref a))) H1) :
    tSeq (tIfS (tTest (tOp rEq (tCB (fun xs H Q => ∃ p ys, xs = [.ref p] ∧ (SqL K H p ys ∨ SqT K H p ys) ∧ Q (.int ys.length) H) (tCons (tVar i) tNil)) (tC (.int 2)))) (tAsg (tMakeR C (spForm C) E0 (tCons (tOp (rIxL K) (tVar i) (tC (.int 0))) (tCons (tOp (rIxL K) (tVar i) (tC (.int 1))) tNil))) (gName j)) tNext) tz D σ H := by
  have g1 := g.2.1
  refine q_when (len_test hL hi) (fun hb H3 e3 => ?_) (fun hb H3 e3 => ?_)
  · have hn : ps.length = 2 := by have := of_decide_eq_true hb; omega
    have two : ps.map V.str = [V.str (cellAt' ps 0), V.str (cellAt' ps 1)] := by
      match ps, hn with
      | [u, v], _ => rfl
    have h3 := e3 _ _ hL
    refine s_asgF (evf_make (ps := ps) g.1 g.2.1 g.2.2 ?_) fun a H4 _ e4 hF4 => k a H4 (e3.trans e4) hF4
    rw [two]
    exact ea_cons (ix_lst h3 hi 0 (by omega)) (ea_cons (ix_lst h3 hi 1 (by omega)) ea_nil)
  · have hn : ps.length = 1 := by have := of_decide_eq_false hb; omega
    have one : ps = [cellAt' ps 0] := by
      match ps, hn with
      | [u], _ => rfl
    have := k f0 H3 e3 (by rw [one]; exact hF.ex e3)
    rw [hj] at this
    exact this
theorem ok__law_made {f : Addr} {fd : FuncData} (F : Fun K "_law_made" "_law_made" s__law_made f fd) (T : Txt K mg a_OPEN_PARTS C_Both C_Either C_Form) (D__law_parts : Df P w K mg base "_law_parts" ["signs", "number"] 1 (spMenu K)) (D_Form___init__ : DfS P w K mg base "Form" C_Form 3 (spForm C_Form))
    (D_Form___and__ : DfO P w K mg base "and" C_Form ["self", "other"] 7 (spJoin0 true C_Form C_Both C_Either)) (D_Form___or__ : DfO P w K mg base "or" C_Form ["self", "other"] 7 (spJoin0 false C_Form C_Both C_Either)) : FnOk P w K mg base CX0 8 f fd ["signs", "pattern"] (spMade K C_Form C_Both C_Either) := by
  refine F.ok sc__law_made (fun vs H Q E h => ?_) (fun cdv A outer s0 H vs Q E hr h => ?_)
  · obtain ⟨a, b, x, y, r, t, rfl, _⟩ := h
    rfl
  · obtain ⟨a, b, x, y, r, t, rfl, hA, hB, ⟨ho, ⟨a0, a1⟩, b0, b1⟩, hx, hy, q⟩ := h
    refine ⟨_, (pss_cons (ps_set (i := 2) sc__law_made.nd rfl (Or.inl rfl) (pe_df D__law_parts (hr.mono (by decide)) (by rfl) (pa_cons (pv 0) (pa_cons (pe_ix ix_list (pv 1) pe_int (fun _ _ => rfl)) pa_nil))))
      (pss_cons (ps_set (i := 3) sc__law_made.nd rfl (Or.inl rfl) (pe_mkS D_Form___init__ (hr.mono (by decide)) (by rfl) (pa_cons (pe_ix ix_list (pv 2) pe_int (fun _ _ => rfl)) pa_nil)))
      (pss_cons (ps_if (pt_cmpR op_eq (pe_callB call_len_seq (by rfl) T.n_len PySem.boot_len (pa_cons (pv 2) pa_nil)) pe_int (nomark _))
      (pss_one (ps_set (i := 3) sc__law_made.nd rfl (Or.inl rfl) (pe_mkS D_Form___init__ (hr.mono (by decide)) (by rfl) (pa_cons (pe_ix ix_list (pv 2) pe_int (fun _ _ => rfl)) (pa_cons (pe_ix ix_list (pv 2) pe_int (fun _ _ => rfl)) pa_nil)))))
      pss_nil)
      (pss_cons (ps_if (pt_cmpR op_eq (pe_ix ix_list (pv 1) pe_int (fun _ _ => rfl)) pe_str (nomark _))
      (pss_one (ps_ret (pv 3)))
      pss_nil)
      (pss_cons (ps_set (i := 4) sc__law_made.nd rfl (Or.inl rfl) (pe_df D__law_parts (hr.mono (by decide)) (by rfl) (pa_cons (pv 0) (pa_cons (pe_ix ix_list (pv 1) pe_int (fun _ _ => rfl)) pa_nil))))
      (pss_cons (ps_set (i := 5) sc__law_made.nd rfl (Or.inl rfl) (pe_mkS D_Form___init__ (hr.mono (by decide)) (by rfl) (pa_cons (pe_ix ix_list (pv 4) pe_int (fun _ _ => rfl)) pa_nil)))
      (pss_cons (ps_if (pt_cmpR op_eq (pe_callB call_len_seq (by rfl) T.n_len PySem.boot_len (pa_cons (pv 4) pa_nil)) pe_int (nomark _))
      (pss_one (ps_set (i := 5) sc__law_made.nd rfl (Or.inl rfl) (pe_mkS D_Form___init__ (hr.mono (by decide)) (by rfl) (pa_cons (pe_ix ix_list (pv 4) pe_int (fun _ _ => rfl)) (pa_cons (pe_ix ix_list (pv 4) pe_int (fun _ _ => rfl)) pa_nil)))))
      pss_nil)
      (pss_one (ps_ret (pe_ifExp (pt_cmpR op_eq (pe_ix ix_list (pv 1) pe_int (fun _ _ => rfl)) pe_str (nomark _)) (pe_op (op_dfO D_Form___and__ D_Form___and__ (.inl rfl) (hr.mono (by decide)) takes0) (pv 3) (pv 5)) (pe_op (op_dfO D_Form___or__ D_Form___or__ (.inl rfl) (hr.mono (by decide)) takes0) (pv 3) (pv 5)))))))))))), ?_⟩
    obtain ⟨g1, l1⟩ := mn_ok hx hy a0 a1
    obtain ⟨g2, l2⟩ := mn_ok hx hy b0 b1
    have tag : ∀ {H1 : Hp} {σ : L2.St} (_ : Ex H H1) (_ : σ[1]? = some (some (.ref b))) (z : Str), EvT (tTest (tOp rEq (tOp (rIxL K) (tVar 1) (tC (.int 0))) (tC (.str z)))) σ H1 (decide (t.1 = z)) := fun e i1 z => et_test (ev_op (ev_op (ev_var i1) ev_c (rv_ixL (ex_l e hB) rfl)) ev_c rv_eqS)
    refine q_asgL' (ev_menu (n := t.2.1) rfl rfl hA hB rfl a0 a1) fun lo H1 e1 h1 => ?_
    have p1 := g1.2.1
    have p2 := g2.2.1
    refine q_asgF (evf_make (good_first g1).1 (good_first g1).2.1 (good_first g1).2.2 (ea_cons (ix_lst h1 rfl 0 (by omega)) ea_nil)) fun f0 H2 hf0 e2 hF0 => ?_
    refine q_formIf (e2 _ _ h1) rfl rfl hF0 g1 l1 fun fm H3 e3 hF => ?_
    have e13 := (e1.trans e2).trans e3
    refine q_when (tag e13 rfl "") (fun hb H4 e4 => ?_) (fun hb H4 e4 => ?_)
    · have ht : t.1 = "" := of_decide_eq_true hb
      refine s_ret (v := .ref fm) (ev_var rfl) fun H5 e5 => q fm H5 ((e13.trans e4).trans e5) ?_
      rw [show ptM x y t = .f (mn x y t.2.1) from if_pos ht]
      exact ⟨.f ⟨hF.ex (e4.trans e5), g1⟩, Nat.zero_le _, by show 1 ≤ 3; decide⟩
    · have ht : ¬ t.1 = "" := of_decide_eq_false hb
      have pt : ptM x y t = .n (decide (t.1 = "&")) (.f (mn x y t.2.1)) (.f (mn x y t.2.2)) := if_neg ht
      have e14 := e13.trans e4
      refine q_asgL' (ev_menu (n := t.2.2) rfl rfl (ex_l e14 hA) (ex_l e14 hB) rfl b0 b1) fun lo2 H5 e5 h5 => ?_
      refine q_asgF (evf_make (good_first g2).1 (good_first g2).2.1 (good_first g2).2.2 (ea_cons (ix_lst h5 rfl 0 (by omega)) ea_nil)) fun f2 H6 hf2 e6 hF2 => ?_
      refine q_formIf (e6 _ _ h5) rfl rfl hF2 g2 l2 fun fn H7 e7 hG => ?_
      have e17 := ((e14.trans e5).trans e6).trans e7
      have e37 := ((e4.trans e5).trans e6).trans e7
      have join : ∀ (and : Bool) {H8 : Hp}, Ex H7 H8 → decide (t.1 = "&") = and → rBinOwn C_Form C_Form (spJoin0 and C_Form C_Both C_Either) E0 (.ref fm) (.ref fn) H8 Q := fun and H8 e8 ha => by
        have hF8 := hF.ex (e37.trans e8)
        have hG8 := hG.ex e8
        obtain ⟨dx, t1, c1, k1, _⟩ := id hF8
        obtain ⟨dy, t2, c2, k2, _⟩ := id hG8
        refine ⟨fm, fn, dx, dy, _, _, rfl, rfl, k1, k2, fm, fn, .f (mn x y t.2.1), .f (mn x y t.2.2), rfl, ⟨.f ⟨hF8, g1⟩, .f ⟨hG8, g2⟩, Nat.zero_le _, Nat.zero_le _, by show 1 ≤ 3; decide, by show 1 ≤ 3; decide⟩, by show 1 + 1 ≤ 3; decide, fun z H9 e9 hP => ⟨z, rfl, q z H9 ((e17.trans e8).trans e9) ?_⟩⟩
        rw [pt, ha]
        exact ⟨hP, by show max 0 0 + 1 ≤ 2; decide, by show 1 + 1 ≤ 3; decide⟩
      refine tag e17 rfl "&" H7 (Ex.refl _) _ fun H8 e8 => ?_
      cases hc : decide (t.1 = "&") with
      | true => exact ⟨_, rfl, _, rfl, join true e8 hc⟩
      | false => exact ⟨_, rfl, _, rfl, join false e8 hc⟩

/-! ### lines that bear; the line that is due -/
theorem ev_fitsL {σ : L2.St} {G : Hp} {te tz : TE} {ps : List Str} {z : Str} (h : EvL' te σ G (ps.map V.str)) (hz : Ev tz σ G (.str z)) (g : Parts ps) (l : z.length ≤ 1000) : Ev (tCall (spFits K) [] E0 (tCons te (tCons tz tNil))) σ G (.bl (fitsM ps z)) := fun H1 e Q q =>
  h H1 e _ fun a H2 e2 h2 => hz H2 (e.trans e2) _ fun H3 e3 => ⟨a, ps, z, rfl, sq_of (e3 _ _ h2), fun p hp => Nat.le_trans (g.len p hp) (by decide), l, fun H4 e4 => q H4 ((e2.trans e3).trans e4)⟩
def spBears (K : PySem.W.Frag) : Sp := fun vs H Q _ => ∃ (a b : Addr) (x y : Nat) (r : List V) (t : Str × Int × Int) (z : Str), vs = [.ref a, .ref b, .str z] ∧ SqL K H a (V.str (sg x) :: V.str (sg y) :: r) ∧ SqL K H b (patV t) ∧ PatOk t ∧
  x ∈ signsS.cps.toList ∧ y ∈ signsS.cps.toList ∧ z.length ≤ 1000 ∧ RetV (.bl (bearsM x y t z)) H Q
theorem ok__law_bears {f : Addr} {fd : FuncData} (F : Fun K "_law_bears" "_law_bears" s__law_bears f fd) (T : Txt K mg a_OPEN_PARTS C_Both C_Either C_Form) (D__law_parts : Df P w K mg base "_law_parts" ["signs", "number"] 1 (spMenu K)) (D__law_fits : Df P w K mg base "_law_fits" ["parts", "line"] 3 (spFits K)) :
    FnOk P w K mg base CX0 4 f fd ["signs", "pattern", "line"] (spBears K) := by
  refine F.ok sc__law_bears (fun vs H Q E h => ?_) (fun cdv A outer s0 H vs Q E hr h => ?_)
  · obtain ⟨a, b, x, y, r, t, z, rfl, _⟩ := h
    rfl
  · obtain ⟨a, b, x, y, r, t, z, rfl, hA, hB, ⟨ho, ⟨a0, a1⟩, b0, b1⟩, hx, hy, hz, q⟩ := h
    refine ⟨_, (pss_cons (ps_set (i := 3) sc__law_bears.nd rfl (Or.inl rfl) (pe_df D__law_fits (hr.mono (by decide)) (by rfl) (pa_cons (pe_df D__law_parts (hr.mono (by decide)) (by rfl) (pa_cons (pv 0) (pa_cons (pe_ix ix_list (pv 1) pe_int (fun _ _ => rfl)) pa_nil))) (pa_cons (pv 2) pa_nil))))
      (pss_cons (ps_if (pt_cmpR op_eq (pe_ix ix_list (pv 1) pe_int (fun _ _ => rfl)) pe_str (nomark _))
      (pss_one (ps_ret (pv 3)))
      pss_nil)
      (pss_cons (ps_set (i := 4) sc__law_bears.nd rfl (Or.inl rfl) (pe_df D__law_fits (hr.mono (by decide)) (by rfl) (pa_cons (pe_df D__law_parts (hr.mono (by decide)) (by rfl) (pa_cons (pv 0) (pa_cons (pe_ix ix_list (pv 1) pe_int (fun _ _ => rfl)) pa_nil))) (pa_cons (pv 2) pa_nil))))
      (pss_one (ps_ret (pe_ifExp (pt_cmpR op_eq (pe_ix ix_list (pv 1) pe_int (fun _ _ => rfl)) pe_str (nomark _)) (pe_and (pv 3) (pe_one (pv 4))) (pe_or (pv 3) (pe_one (pv 4))))))))), ?_⟩
    obtain ⟨g1, l1⟩ := mn_ok hx hy a0 a1
    obtain ⟨g2, l2⟩ := mn_ok hx hy b0 b1
    have tag : ∀ {H1 : Hp} {σ : L2.St} (_ : Ex H H1) (_ : σ[1]? = some (some (.ref b))) (z : Str), EvT (tTest (tOp rEq (tOp (rIxL K) (tVar 1) (tC (.int 0))) (tC (.str z)))) σ H1 (decide (t.1 = z)) := fun e i1 z => et_test (ev_op (ev_op (ev_var i1) ev_c (rv_ixL (ex_l e hB) rfl)) ev_c rv_eqS)
    refine q_asg (ev_fitsL (ev_menu (n := t.2.1) rfl rfl hA hB rfl a0 a1) (ev_var rfl) g1.1 hz) fun H1 e1 => ?_
    refine q_when (tag e1 rfl "") (fun hb H2 e2 => ?_) (fun hb H2 e2 => ?_)
    · refine s_ret (ev_var rfl) fun H3 e3 => ?_
      have := q H3 ((e1.trans e2).trans e3)
      rwa [show bearsM x y t z = fitsM (mn x y t.2.1) z from if_pos (of_decide_eq_true hb)] at this
    · have e12 := e1.trans e2
      have bm : bearsM x y t z = _ := if_neg (of_decide_eq_false hb)
      refine q_asg (ev_fitsL (ev_menu (n := t.2.2) rfl rfl (ex_l e12 hA) (ex_l e12 hB) rfl b0 b1) (ev_var rfl) g2.1 hz) fun H3 e3 => ?_
      refine s_ret (v := .bl (bearsM x y t z)) (ev_if (tag (e12.trans e3) rfl "&") (fun hc => ?_) (fun hc => ?_)) fun H4 e4 => q H4 ((e12.trans e3).trans e4)
      · rw [bm, if_pos (of_decide_eq_true hc)]
        exact ev_andV (ev_var rfl) fun _ => ev_var rfl
      · rw [bm, if_neg (of_decide_eq_false hc)]
        exact ev_orV (ev_var rfl) fun _ => ev_var rfl
theorem found_word (ss : List Nat) : ∀ n, ∀ w ∈ foundM ss n, w ≠ [] ∧ w.length ≤ n ∧ ∀ c ∈ w, c ∈ ss
  | 0, w, h => by cases h
  | n + 1, w, h => by
    rcases List.mem_append.mp (show w ∈ foundM ss n ++ lvl ss (n + 1) from h) with z | z
    · obtain ⟨h1, h2, h3⟩ := found_word ss n w z
      exact ⟨h1, by omega, h3⟩
    · obtain ⟨h1, h2⟩ := lvl_word ss (n + 1) w z
      exact ⟨fun e => (by rw [e] at h1; cases h1), by omega, h2⟩
def dueL (x y : Nat) (t : Str × Int × Int) (ss : List Nat) : List (List Nat) := (foundM ss 3).filter fun w => bearsM x y t (tx w)
def headV : List (List Nat) → V
  | [] => .non
  | w :: _ => wS w
/-! ### a word is not less than its replaced word (cut out of low18) -/
theorem up_d : digS.cps.toList.Pairwise (· < ·) := by decide +kernel
theorem up_l : letS.cps.toList.Pairwise (· < ·) := by decide +kernel
theorem up_o : othS.cps.toList.Pairwise (· < ·) := by decide +kernel
theorem rep_le {U : List Nat} {c : Nat} (hs : c ∈ signsS.cps.toList) : repM U c ≤ c := by
  by_cases hu : c ∈ U
  · rw [rep_used hu]
    exact Nat.le_refl _
  · obtain ⟨z, hz, h1, h2⟩ := rep_new hs hu
    have up : z.cps.toList.Pairwise (· < ·) := by
      simp only [List.mem_cons, List.not_mem_nil, or_false] at hz
      rcases hz with rfl | rfl | rfl
      · exact up_d
      · exact up_l
      · exact up_o
    have hc : c ∈ z.cps.toList.filter fun c => !decide (c ∈ U) := List.mem_filter.mpr ⟨h1, by simp [hu]⟩
    have up2 := up.filter fun c => !decide (c ∈ U)
    unfold outC at h2
    generalize (z.cps.toList.filter fun c => !decide (c ∈ U)) = L at hc up2 h2
    cases L with
    | nil => cases hc
    | cons y ys =>
      have e : repM U c = y := List.mem_singleton.mp (show repM U c ∈ [y] from h2)
      rw [e]
      rcases List.mem_cons.mp hc with z1 | z1
      · rw [z1]
        exact Nat.le_refl _
      · exact Nat.le_of_lt ((List.pairwise_cons.mp up2).1 c z1)
theorem lx_map {f : Nat → Nat} : ∀ {w : List Nat}, (∀ c ∈ w, f c ≤ c) → w.map f = w ∨ lx (w.map f) w
  | [], _ => .inl rfl
  | a :: w, h => by
    have h1 := h a List.mem_cons_self
    rcases Nat.lt_or_ge (f a) a with c | c
    · exact .inr (.inl c)
    · have e : f a = a := by omega
      rcases lx_map (w := w) fun c hc => h c (List.mem_cons_of_mem _ hc) with z | z
      · left
        rw [List.map_cons, e, z]
      · exact .inr (.inr ⟨e, z⟩)
theorem sle_map {f : Nat → Nat} {w : List Nat} (h : ∀ c ∈ w, f c ≤ c) : sle (w.map f) w := (lx_map h).elim .inl fun z => .inr (.inr ⟨List.length_map _, z⟩)

/-! ### the least line of a pattern is the first of the lines that bear -/
theorem gl_and9 (w : List Nat) (a b : List Str) : glM [.n true (.f a) (.f b)] [a, b] ([a, b].map (stM w)) = (doneM w a && doneM w b) := by
  show ((doneM w a && doneM w b) && true) = _
  rw [Bool.and_true]
theorem gl_or9 (w : List Nat) (a b : List Str) : glM [.n false (.f a) (.f b)] [a, b] ([a, b].map (stM w)) = (doneM w a || doneM w b) := by
  show ((doneM w a || doneM w b) && true) = _
  rw [Bool.and_true]
theorem done_fits {ps : List Str} (g : GoodP ps) {w : List Nat} (hw : w ≠ []) (hs : ∀ c ∈ w, c ∈ signsS.cps.toList) : doneM w ps = fitsM ps (tx w) := by
  have hz : Lny (tx w) := hs
  have hl : isLn (tx w) = true := by
    rw [lny_isLn hz]
    have : ¬ tx w = ("" : Str) := fun e => hw (by
      have := congrArg (fun z : Str => z.cps.toList) e
      have h2 : w = ("" : Str).cps.toList := by simpa [tx] using this
      exact h2.trans (by decide +kernel))
    simp [this]
  rw [← inForm_fits g.1 hz]
  unfold inForm
  rw [hl, Bool.true_and]
  rfl
def fm9 (x y : Nat) (t : Str × Int × Int) : List (List Str) := formsL ([ptM x y t] ++ [])
section
variable {x y : Nat} {t : Str × Int × Int} (ho : PatOk t) (hx : x ∈ signsS.cps.toList) (hy : y ∈ signsS.cps.toList)
include ho hx hy
theorem fm9_mem : ∀ ps ∈ fm9 x y t, ps = mn x y t.2.1 ∨ ps = mn x y t.2.2 := fun ps h => by
  unfold fm9 ptM at h
  by_cases e : t.1 = ""
  · rw [if_pos e] at h
    exact .inl (List.mem_singleton.mp (show ps ∈ [mn x y t.2.1] from h))
  · rw [if_neg e] at h
    have h : ps ∈ [mn x y t.2.1, mn x y t.2.2] := h
    simpa using h
theorem fm9_good : ∀ ps ∈ fm9 x y t, GoodP ps := fun ps h => by
  rcases fm9_mem ho hx hy ps h with rfl | rfl
  · exact (mn_ok hx hy ho.2.1.1 ho.2.1.2).1
  · exact (mn_ok hx hy ho.2.2.1 ho.2.2.2).1
theorem gl9 {w : List Nat} (hw : w ≠ []) (hs : ∀ c ∈ w, c ∈ signsS.cps.toList) : glM [ptM x y t] (fm9 x y t) ((fm9 x y t).map (stM w)) = bearsM x y t (tx w) := by
  have g1 := (mn_ok hx hy ho.2.1.1 ho.2.1.2).1
  have g2 := (mn_ok hx hy ho.2.2.1 ho.2.2.2).1
  unfold fm9 ptM bearsM
  rcases ho.1 with e | e | e
  · rw [if_pos e, if_pos e]
    show (doneM w (mn x y t.2.1) && true) = _
    rw [Bool.and_true, done_fits g1 hw hs]
  · have n : ¬ t.1 = "" := by rw [e]; decide +kernel
    rw [if_neg n, if_neg n, if_pos e, decide_eq_true e]
    show glM _ [mn x y t.2.1, mn x y t.2.2] ([mn x y t.2.1, mn x y t.2.2].map _) = _
    rw [gl_and9, done_fits g1 hw hs, done_fits g2 hw hs]
  · have n : ¬ t.1 = "" := by rw [e]; decide +kernel
    have n2 : ¬ t.1 = "&" := by rw [e]; decide +kernel
    rw [if_neg n, if_neg n, if_neg n2, decide_eq_false n2]
    show glM _ [mn x y t.2.1, mn x y t.2.2] ([mn x y t.2.1, mn x y t.2.2].map _) = _
    rw [gl_or9, done_fits g1 hw hs, done_fits g2 hw hs]
/-- a word that bears: its replaced word does, over the signs that are tried, and is not more -/
theorem rep9 {w : List Nat} (hw : w ≠ []) (hs : ∀ c ∈ w, c ∈ signsS.cps.toList) (hb : bearsM x y t (tx w) = true) :
    ∃ u : List Nat, u ≠ [] ∧ (∀ c ∈ u, c ∈ csM (fm9 x y t)) ∧ glM [ptM x y t] (fm9 x y t) ((fm9 x y t).map (stM u)) = true ∧ sle u w := by
  have hG := fm9_good ho hx hy
  have g := gl9 ho hx hy hw hs
  rw [hb] at g
  refine ⟨w.map (repM (fxC (fm9 x y t))), fun k => hw (List.map_eq_nil_iff.mp k), fun c hc => ?_, ?_, sle_map fun c hc => rep_le (hs c hc)⟩
  · obtain ⟨d, hd, rfl⟩ := List.mem_map.mp hc
    exact (csM_mem hG _).mpr (rep_sig (hs d hd))
  · rw [List.map_congr_left fun ps hp => st_same hG hp hs]
    exact g
end
/-! how long -/
def MenuF (ps : List Str) : Prop := (∃ p : Str, ps = [p] ∧ isOpen p = false ∧ p.length ≤ 2) ∨ (∃ p, ps = [p] ∧ isOpen p = true) ∨ ∃ p q : Str, ps = [p, q] ∧ isOpen p = false ∧ p.length ≤ 2 ∧ isOpen q = true
theorem sg_shut (x : Nat) : isOpen (sg x) = false := by
  cases h : isOpen (sg x) with
  | false => rfl
  | true =>
    have l : (sg x).length = 1 := rfl
    rcases isOpen_iff.mp h with e | e | e <;> rw [e] at l <;> exact absurd l (by decide +kernel)
theorem sg_shut2 (x y : Nat) : isOpen (sg x ++ sg y) = false := by
  cases h : isOpen (sg x ++ sg y) with
  | false => rfl
  | true =>
    have l : (sg x ++ sg y).length = 2 := rfl
    rcases isOpen_iff.mp h with e | e | e <;> rw [e] at l <;> exact absurd l (by decide +kernel)
theorem mn_menu (x y : Nat) {n : Int} (h0 : 0 ≤ n) (h1 : n < 12) : MenuF (mn x y n) := by
  unfold mn
  have hk : n.toNat < 12 := by omega
  generalize n.toNat = k at hk
  match k, hk with
  | 0, _ => exact .inl ⟨_, rfl, sg_shut x, Nat.le_succ 1⟩
  | 1, _ => exact .inl ⟨_, rfl, sg_shut y, Nat.le_succ 1⟩
  | 2, _ => exact .inl ⟨_, rfl, sg_shut2 x y, Nat.le_refl 2⟩
  | 3, _ => exact .inl ⟨_, rfl, sg_shut2 x x, Nat.le_refl 2⟩
  | 4, _ => exact .inr (.inr ⟨_, _, rfl, sg_shut x, Nat.le_succ 1, open_any⟩)
  | 5, _ => exact .inr (.inr ⟨_, _, rfl, sg_shut y, Nat.le_succ 1, open_any⟩)
  | 6, _ => exact .inr (.inr ⟨_, _, rfl, sg_shut2 x y, Nat.le_refl 2, open_any⟩)
  | 7, _ => exact .inr (.inl ⟨_, rfl, open_any⟩)
  | 8, _ => exact .inr (.inl ⟨_, rfl, open_dig⟩)
  | 9, _ => exact .inr (.inl ⟨_, rfl, open_word⟩)
  | 10, _ => exact .inr (.inr ⟨_, _, rfl, sg_shut x, Nat.le_succ 1, open_dig⟩)
  | 11, _ => exact .inr (.inr ⟨_, _, rfl, sg_shut y, Nat.le_succ 1, open_word⟩)
theorem piece_shut {p : Str} {v : List Nat} (h : isOpen p = false) (hp : piece p v) : v = p.cps.toList := by
  unfold piece at hp
  have n1 : p ≠ anyP := fun e => by rw [e, open_any] at h; cases h
  have n2 : ¬ (p = digP ∨ p = wordP) := fun e => by
    rcases e with e | e
    · rw [e, open_dig] at h; cases h
    · rw [e, open_word] at h; cases h
  rwa [if_neg n1, if_neg n2] at hp
theorem piece_take {p : Str} {v : List Nat} (h : isOpen p = true) (hp : piece p v) {n : Nat} (hn : 1 ≤ n) : piece p (v.take n) := by
  rcases isOpen_iff.mp h with e | e | e
  · obtain ⟨h1, h2⟩ := (piece_rep (.inl e)).mp hp
    refine (piece_rep (.inl e)).mpr ⟨fun z => ?_, fun c hc => h2 c (List.mem_of_mem_take hc)⟩
    rcases List.take_eq_nil_iff.mp z with z | z
    · omega
    · exact h1 z
  · obtain ⟨h1, h2⟩ := (piece_rep (.inr e)).mp hp
    refine (piece_rep (.inr e)).mpr ⟨fun z => ?_, fun c hc => h2 c (List.mem_of_mem_take hc)⟩
    rcases List.take_eq_nil_iff.mp z with z | z
    · omega
    · exact h1 z
  · rw [e]
    exact piece_any
theorem done_take {ps : List Str} (g : GoodP ps) (m : MenuF ps) {w : List Nat} (hw : 3 < w.length) (h : doneM w ps = true) : doneM (w.take 3) ps = true := by
  rw [done_mk g.1] at h ⊢
  rcases m with ⟨p, rfl, hp, hl⟩ | ⟨p, rfl, hp⟩ | ⟨p, q, rfl, hp, hl, hq⟩
  · have := piece_shut hp (mk_one.mp h)
    rw [this, ← str_len] at hw
    omega
  · exact mk_one.mpr (piece_take hp (mk_one.mp h) (by decide))
  · obtain ⟨u, v, rfl, h1, h2⟩ := (mk_app (xs := [p]) (ys := [q]) 1 w).mp h
    have hu := piece_shut hp (mk_one.mp h1)
    have hv := mk_one.mp h2
    have lu : u.length ≤ 2 := by rw [hu, ← str_len]; exact hl
    refine (mk_app (xs := [p]) (ys := [q]) 1 _).mpr ⟨u, v.take (3 - u.length), ?_, h1, mk_one.mpr (piece_take hq hv (by omega))⟩
    rw [List.take_append, List.take_of_length_le (by omega)]

theorem bears_take {x y : Nat} {t : Str × Int × Int} (ho : PatOk t) (hx : x ∈ signsS.cps.toList) (hy : y ∈ signsS.cps.toList) {w : List Nat} (hs : ∀ c ∈ w, c ∈ signsS.cps.toList) (hw : 3 < w.length) (h : bearsM x y t (tx w) = true) : bearsM x y t (tx (w.take 3)) = true := by
  have n1 : w ≠ [] := fun e => by rw [e] at hw; cases hw
  have n2 : w.take 3 ≠ [] := fun e => by
    have := congrArg List.length e
    rw [List.length_take, List.length_nil] at this
    omega
  have hs2 : ∀ c ∈ w.take 3, c ∈ signsS.cps.toList := fun c hc => hs c (List.mem_of_mem_take hc)
  have g1 := (mn_ok hx hy ho.2.1.1 ho.2.1.2).1
  have g2 := (mn_ok hx hy ho.2.2.1 ho.2.2.2).1
  have k1 : fitsM (mn x y t.2.1) (tx w) = true → fitsM (mn x y t.2.1) (tx (w.take 3)) = true := fun z => by
    rw [← done_fits g1 n2 hs2]
    exact done_take g1 (mn_menu x y ho.2.1.1 ho.2.1.2) hw (by rw [done_fits g1 n1 hs]; exact z)
  have k2 : fitsM (mn x y t.2.2) (tx w) = true → fitsM (mn x y t.2.2) (tx (w.take 3)) = true := fun z => by
    rw [← done_fits g2 n2 hs2]
    exact done_take g2 (mn_menu x y ho.2.2.1 ho.2.2.2) hw (by rw [done_fits g2 n1 hs]; exact z)
  unfold bearsM at h ⊢
  by_cases e : t.1 = ""
  · rw [if_pos e] at h ⊢
    exact k1 h
  · rw [if_neg e] at h ⊢
    by_cases e2 : t.1 = "&"
    · rw [if_pos e2] at h ⊢
      rw [Bool.and_eq_true] at h ⊢
      exact ⟨k1 h.1, k2 h.2⟩
    · rw [if_neg e2] at h ⊢
      rw [Bool.or_eq_true] at h ⊢
      exact h.imp k1 k2
theorem least_3 {x y : Nat} {t : Str × Int × Int} (ho : PatOk t) (hx : x ∈ signsS.cps.toList) (hy : y ∈ signsS.cps.toList) {z : List Nat} (h : LeastY [ptM x y t] z) : (∀ c ∈ z, c ∈ signsS.cps.toList) ∧ bearsM x y t (tx z) = true ∧ z.length ≤ 3 ∧
    ∀ w : List Nat, w ≠ [] → (∀ c ∈ w, c ∈ signsS.cps.toList) → bearsM x y t (tx w) = true → sle z w := by
  have hs : ∀ c ∈ z, c ∈ signsS.cps.toList := fun c hc => (List.mem_filter.mp (h.over c hc)).1
  have hb : bearsM x y t (tx z) = true := by
    rw [← gl9 ho hx hy h.ne hs]
    exact h.goal
  have low : ∀ w : List Nat, w ≠ [] → (∀ c ∈ w, c ∈ signsS.cps.toList) → bearsM x y t (tx w) = true → sle z w := fun w hw hws hwb => by
    obtain ⟨u, h1, h2, h3, h4⟩ := rep9 ho hx hy hw hws hwb
    exact sle_trans (h.low u h1 h2 h3) h4
  refine ⟨hs, hb, ?_, low⟩
  by_cases c : z.length ≤ 3
  · exact c
  · have hw : 3 < z.length := by omega
    have l3 : (z.take 3).length = 3 := by rw [List.length_take]; omega
    have := sle_len (low (z.take 3) (fun e => by rw [e] at l3; cases l3) (fun c hc => hs c (List.mem_of_mem_take hc)) (bears_take ho hx hy hs hw hb))
    omega
theorem none_3 {x y : Nat} {t : Str × Int × Int} (ho : PatOk t) (hx : x ∈ signsS.cps.toList) (hy : y ∈ signsS.cps.toList) (h : NoneY [ptM x y t]) {w : List Nat} (hw : w ≠ []) (hs : ∀ c ∈ w, c ∈ signsS.cps.toList) : bearsM x y t (tx w) = false := by
  cases hb : bearsM x y t (tx w) with
  | false => rfl
  | true =>
    obtain ⟨u, h1, h2, h3, _⟩ := rep9 ho hx hy hw hs hb
    exact absurd h3 (h u h1 h2)
/-! the signs that are tried are among the five -/
theorem fx9 {x y : Nat} {t : Str × Int × Int} (ho : PatOk t) (hx : x ∈ signsS.cps.toList) (hy : y ∈ signsS.cps.toList) : ∀ c ∈ fxC (fm9 x y t), c ∈ [x, y] := fun c hc => by
  obtain ⟨ps, hp, hc⟩ := List.mem_flatMap.mp hc
  obtain ⟨p, hp2, hc⟩ := List.mem_flatMap.mp hc
  obtain ⟨hp2, hsh⟩ := List.mem_filter.mp hp2
  have hsh : isOpen p = false := by simpa using hsh
  have key : ∀ {n : Int}, 0 ≤ n → n < 12 → p ∈ mn x y n → c ∈ [x, y] := fun {n} h0 h1 h => by
    unfold mn at h
    have hk : n.toNat < 12 := by omega
    generalize n.toNat = k at hk h
    have s1 : ∀ {a : Nat}, a ∈ [x, y] → p = sg a → c ∈ [x, y] := fun {a} ha e => by
      rw [e] at hc
      rw [List.mem_singleton.mp (show c ∈ [a] from hc)]
      exact ha
    have s2 : ∀ {a b : Nat}, a ∈ [x, y] → b ∈ [x, y] → p = sg a ++ sg b → c ∈ [x, y] := fun {a b} ha hb e => by
      rw [e] at hc
      rcases List.mem_cons.mp (show c ∈ [a, b] from hc) with z | z
      · rw [z]; exact ha
      · rw [List.mem_singleton.mp z]; exact hb
    have op : ∀ {q : Str}, isOpen q = true → p = q → c ∈ [x, y] := fun {q} hq e => by
      rw [e, hq] at hsh
      cases hsh
    have ax : x ∈ [x, y] := by simp
    have ay : y ∈ [x, y] := by simp
    match k, hk with
    | 0, _ => exact s1 ax (List.mem_singleton.mp h)
    | 1, _ => exact s1 ay (List.mem_singleton.mp h)
    | 2, _ => exact s2 ax ay (List.mem_singleton.mp h)
    | 3, _ => exact s2 ax ax (List.mem_singleton.mp h)
    | 4, _ => exact (List.mem_cons.mp h).elim (s1 ax) fun z => op open_any (List.mem_singleton.mp z)
    | 5, _ => exact (List.mem_cons.mp h).elim (s1 ay) fun z => op open_any (List.mem_singleton.mp z)
    | 6, _ => exact (List.mem_cons.mp h).elim (s2 ax ay) fun z => op open_any (List.mem_singleton.mp z)
    | 7, _ => exact op open_any (List.mem_singleton.mp h)
    | 8, _ => exact op open_dig (List.mem_singleton.mp h)
    | 9, _ => exact op open_word (List.mem_singleton.mp h)
    | 10, _ => exact (List.mem_cons.mp h).elim (s1 ax) fun z => op open_dig (List.mem_singleton.mp z)
    | 11, _ => exact (List.mem_cons.mp h).elim (s1 ay) fun z => op open_word (List.mem_singleton.mp z)
  rcases fm9_mem ho hx hy ps hp with rfl | rfl
  · exact key ho.2.1.1 ho.2.1.2 hp2
  · exact key ho.2.2.1 ho.2.2.2 hp2
theorem first_sub {U V l : List Nat} (h : ∀ c ∈ U, c ∈ V) {c : Nat} (hc : c ∈ (l.filter fun x => !decide (x ∈ U)).take 1) : c ∈ V ∨ (l.filter fun x => !decide (x ∈ V)).head? = some c := by
  induction l with
  | nil => cases hc
  | cons a l ih =>
    by_cases ha : a ∈ U
    · rw [List.filter_cons, if_neg (by simp [ha])] at hc
      rw [List.filter_cons, if_neg (by simp [h a ha])]
      exact ih hc
    · rw [List.filter_cons, if_pos (by simp [ha])] at hc
      have e : c = a := List.mem_singleton.mp hc
      subst e
      by_cases hv : c ∈ V
      · exact .inl hv
      · right
        rw [List.filter_cons, if_pos (by simp [hv])]
        rfl
theorem cs_five {s : Int × Int} {t : Str × Int × Int} (ho : PatOk t) (hx : xM s ∈ signsS.cps.toList) (hy : yM s ∈ signsS.cps.toList) : ∀ c ∈ csM (fm9 (xM s) (yM s) t), c ∈ five s := fun c hc => by
  have hc := (csM_mem (fm9_good ho hx hy) c).mp hc
  have hf := fx9 ho hx hy
  have out : ∀ z ∈ [letS, othS, digS], c ∈ outC (fxC (fm9 (xM s) (yM s) t)) z → c ∈ five s := fun z hz h => by
    rcases first_sub hf h with k | k
    · unfold five
      simp only [List.mem_cons, List.not_mem_nil, or_false] at k ⊢
      rcases k with k | k <;> simp [k]
    · rw [r_head s hz] at k
      cases k
      unfold five
      simp only [List.mem_cons, List.not_mem_nil, or_false] at hz
      rcases hz with rfl | rfl | rfl <;> simp
  unfold sigC at hc
  simp only [List.mem_append] at hc
  rcases hc with ((h | h) | h) | h
  · have := hf c h
    unfold five
    simp only [List.mem_cons, List.not_mem_nil, or_false] at this ⊢
    rcases this with k | k <;> simp [k]
  · exact out _ (by simp) h
  · exact out _ (by simp) h
  · exact out _ (by simp) h
/-! the lines stand in their order -/
theorem lvl_up {ss : List Nat} (h : ss.Pairwise (· < ·)) : ∀ n, (lvl ss n).Pairwise lx
  | 0 => List.pairwise_singleton _ _
  | n + 1 => by
    show ((lvl ss n).flatMap fun w => ss.map fun c => w ++ [c]).Pairwise lx
    rw [List.pairwise_flatMap]
    refine ⟨fun w _ => ?_, (lvl_up h n).imp fun {u v} huv p hp q hq => ?_⟩
    · rw [List.pairwise_map]
      exact h.imp fun hab => lx_last hab w
    · obtain ⟨c, _, rfl⟩ := List.mem_map.mp hp
      obtain ⟨d, _, rfl⟩ := List.mem_map.mp hq
      exact lx_snoc huv
theorem found_up {ss : List Nat} (h : ss.Pairwise (· < ·)) : ∀ n, (foundM ss n).Pairwise sl
  | 0 => List.Pairwise.nil
  | n + 1 => by
    show (foundM ss n ++ lvl ss (n + 1)).Pairwise sl
    rw [List.pairwise_append]
    refine ⟨found_up h n, ?_, fun u hu v hv => .inl ?_⟩
    · have := lvl_word ss (n + 1)
      exact (List.Pairwise.and_mem.mp (lvl_up h (n + 1))).imp fun {u v} hz => .inr ⟨(this u hz.1).1.trans (this v hz.2.1).1.symm, hz.2.2⟩
    · have h1 := (found_word ss n u hu).2.1
      have h2 := (lvl_word ss (n + 1) v hv).1
      omega
theorem lvl_all {ss : List Nat} : ∀ (n : Nat) (w : List Nat), w.length = n → (∀ c ∈ w, c ∈ ss) → w ∈ lvl ss n
  | 0, w, h, _ => by
    rw [List.length_eq_zero_iff.mp h]
    exact List.mem_singleton.mpr rfl
  | n + 1, w, h, hs => by
    have ne : w ≠ [] := fun e => by rw [e] at h; cases h
    have e := List.dropLast_concat_getLast ne
    refine List.mem_flatMap.mpr ⟨w.dropLast, lvl_all n _ (by rw [List.length_dropLast]; omega) fun c hc => hs c (List.dropLast_subset _ hc), List.mem_map.mpr ⟨w.getLast ne, hs _ (List.getLast_mem ne), e⟩⟩
theorem found_all {ss : List Nat} : ∀ (n : Nat) (w : List Nat), w ≠ [] → w.length ≤ n → (∀ c ∈ w, c ∈ ss) → w ∈ foundM ss n
  | 0, w, h, h0, _ => absurd (List.length_eq_zero_iff.mp (Nat.le_zero.mp h0)) h
  | n + 1, w, h, hn, hs => by
    refine List.mem_append.mpr ?_
    by_cases c : w.length = n + 1
    · exact .inr (lvl_all _ w c hs)
    · exact .inl (found_all n w h (by omega) hs)
theorem head_least {L : List (List Nat)} (h : L.Pairwise sl) {z : List Nat} (hz : z ∈ L) (hl : ∀ w ∈ L, sle z w) : headV L = wS z := by
  cases L with
  | nil => cases hz
  | cons u L =>
    rcases List.mem_cons.mp hz with e | e
    · rw [e]
      rfl
    · have := (List.pairwise_cons.mp h).1 z e
      have e2 := sle_anti (.inr this) (hl u List.mem_cons_self)
      rw [← e2]
      rfl
theorem five_signs (s : Int × Int) : (∀ c ∈ five s, c ∈ signsS.cps.toList) ∧ (five s).Nodup := by
  have k1 : ∀ c ∈ letS.cps.toList, c ∈ signsS.cps.toList ∧ c ∉ othS.cps.toList ∧ c ∉ digS.cps.toList := by decide +kernel
  have k2 : ∀ c ∈ othS.cps.toList, c ∈ signsS.cps.toList ∧ c ∉ digS.cps.toList := by decide +kernel
  have k3 : ∀ c ∈ digS.cps.toList, c ∈ signsS.cps.toList := by decide +kernel
  have r1 := r_in s (z := letS) (by simp)
  have r2 := r_in s (z := othS) (by simp)
  have r3 := r_in s (z := digS) (by simp)
  have hy := y_in s
  have a := k1 _ r1.1
  have b := k2 _ r2.1
  have n1 : rM s letS ≠ rM s othS := fun e => a.2.1 (e ▸ r2.1)
  have n2 : rM s letS ≠ rM s digS := fun e => a.2.2 (e ▸ r3.1)
  have n3 : rM s othS ≠ rM s digS := fun e => b.2 (e ▸ r3.1)
  have p1 := r1.2
  have p2 := r2.2
  have p3 := r3.2
  simp only [List.mem_cons, List.not_mem_nil, or_false, not_or] at p1 p2 p3
  refine ⟨fun c hc => ?_, ?_⟩
  · unfold five at hc
    simp only [List.mem_cons, List.not_mem_nil, or_false] at hc
    rcases hc with rfl | rfl | rfl | rfl | rfl
    · exact all0_in _ (x_in s)
    · exact all0_in _ hy.1
    · exact a.1
    · exact b.1
    · exact k3 _ r3.1
  · unfold five
    simp only [List.nodup_cons, List.mem_cons, List.not_mem_nil, or_false, not_or, not_false_eq_true, List.nodup_nil, and_true]
    exact ⟨⟨fun e => hy.2 e.symm, fun e => p1.1 e.symm, fun e => p2.1 e.symm, fun e => p3.1 e.symm⟩, ⟨fun e => p1.2 e.symm, fun e => p2.2 e.symm, fun e => p3.2 e.symm⟩, ⟨n1, n2⟩, n3⟩
theorem due_least {s : Int × Int} {t : Str × Int × Int} (ho : PatOk t) {v : V} (h : LeastV [ptM (xM s) (yM s) t] v) : v = headV (dueL (xM s) (yM s) t (ascF (five s))) := by
  have hs := five_signs s
  have hx : xM s ∈ signsS.cps.toList := hs.1 _ (by unfold five; simp)
  have hy : yM s ∈ signsS.cps.toList := hs.1 _ (by unfold five; simp)
  have am := ascF_mem hs.1
  rcases h with ⟨z, rfl, hz⟩ | ⟨rfl, hz⟩
  · obtain ⟨h1, h2, h3, h4⟩ := least_3 ho hx hy hz
    refine (head_least (z := z) ((found_up (ascF_up _) 3).filter _) (List.mem_filter.mpr ⟨found_all 3 z hz.ne h3 fun c hc => (am c).mpr (cs_five ho hx hy c (hz.over c hc)), h2⟩) fun w hw => ?_).symm
    obtain ⟨hw1, hw2⟩ := List.mem_filter.mp hw
    obtain ⟨w1, _, w3⟩ := found_word _ 3 w hw1
    exact h4 w w1 (fun c hc => hs.1 c ((am c).mp (w3 c hc))) hw2
  · have : dueL (xM s) (yM s) t (ascF (five s)) = [] := List.filter_eq_nil_iff.mpr fun w hw => by
      obtain ⟨w1, _, w3⟩ := found_word _ 3 w hw
      rw [none_3 ho hx hy hz w1 fun c hc => hs.1 c ((am c).mp (w3 c hc))]
      decide
    rw [this]
    rfl

/-! ### the law -/
theorem cells_two : ∀ {ps : List Str}, (∀ p ∈ ps, isOpen p = true ∨ p.length ≤ 2) → (cellsM ps).length ≤ 2 * ps.length
  | [], _ => Nat.le_refl _
  | p :: ps, h => by
    have ih := cells_two fun q hq => h q (List.mem_cons_of_mem _ hq)
    show (cellOf1 p ++ cellsM ps).length ≤ 2 * (ps.length + 1)
    rw [List.length_append]
    have : (cellOf1 p).length ≤ 2 := by
      unfold cellOf1
      rcases h p List.mem_cons_self with z | z
      · rw [if_pos z]
        show 1 ≤ 2
        decide
      · by_cases o : isOpen p = true
        · rw [if_pos o]
          show 1 ≤ 2
          decide
        · rw [if_neg o]
          unfold signsOf
          rw [List.length_map, ← str_len]
          exact z
    omega
theorem cnt_mn {x y : Nat} {n : Int} (h0 : 0 ≤ n) (h1 : n < 12) : cnt [mn x y n] ≤ 32 := by
  have key : ∀ {ps : List Str}, MenuF ps → (cellsM ps).length ≤ 4 := fun {ps} m => by
    have c : ∀ p ∈ ps, isOpen p = true ∨ p.length ≤ 2 := by
      rcases m with ⟨p, rfl, hp, hl⟩ | ⟨p, rfl, hp⟩ | ⟨p, q, rfl, hp, hl, hq⟩
      · exact fun r hr => .inr (by rw [List.mem_singleton.mp hr]; exact hl)
      · exact fun r hr => .inl (by rw [List.mem_singleton.mp hr]; exact hp)
      · exact fun r hr => (List.mem_cons.mp hr).elim (fun e => .inr (by rw [e]; exact hl)) fun e => .inl (by rw [List.mem_singleton.mp e]; exact hq)
    have l : ps.length ≤ 2 := by
      rcases m with ⟨p, rfl, _⟩ | ⟨p, rfl, _⟩ | ⟨p, q, rfl, _⟩
      · exact Nat.le_succ 1
      · exact Nat.le_succ 1
      · exact Nat.le_refl 2
    have := cells_two c
    omega
  have h := key (mn_menu x y h0 h1)
  have : cnt [mn x y n] = 2 ^ ((cellsM (mn x y n)).length + 1) * 1 := rfl
  rw [this, Nat.mul_one]
  exact Nat.le_trans (Nat.pow_le_pow_right (by decide) (show (cellsM (mn x y n)).length + 1 ≤ 5 by omega)) (by decide)
theorem cnt9 {x y : Nat} {t : Str × Int × Int} (ho : PatOk t) : cnt (formsL ([ptM x y t] ++ [])) ≤ 90000 := by
  have a := cnt_mn (x := x) (y := y) ho.2.1.1 ho.2.1.2
  have b := cnt_mn (x := x) (y := y) ho.2.2.1 ho.2.2.2
  unfold ptM
  by_cases e : t.1 = ""
  · rw [if_pos e]
    exact Nat.le_trans a (by decide)
  · rw [if_neg e]
    show cnt [mn x y t.2.1, mn x y t.2.2] ≤ 90000
    rw [cnt_2]
    exact Nat.le_trans (Nat.mul_le_mul a b) (by decide)
theorem pt_in {x y : Nat} {t : Str × Int × Int} (ho : PatOk t) (hx : x ∈ signsS.cps.toList) (hy : y ∈ signsS.cps.toList) {w : List Nat} (hs : ∀ c ∈ w, c ∈ signsS.cps.toList) : (ptM x y t).in_ (tx w) = bearsM x y t (tx w) := by
  have g1 := (mn_ok hx hy ho.2.1.1 ho.2.1.2).1
  have g2 := (mn_ok hx hy ho.2.2.1 ho.2.2.2).1
  have f1 := inForm_fits g1.1 (z := tx w) hs
  have f2 := inForm_fits g2.1 (z := tx w) hs
  unfold ptM bearsM
  rcases ho.1 with e | e | e
  · rw [if_pos e, if_pos e]
    exact f1
  · have n : ¬ t.1 = "" := by rw [e]; decide +kernel
    rw [if_neg n, if_neg n, if_pos e, decide_eq_true e]
    show (inForm _ _ && inForm _ _) = _
    rw [f1, f2]
  · have n : ¬ t.1 = "" := by rw [e]; decide +kernel
    have n2 : ¬ t.1 = "&" := by rw [e]; decide +kernel
    rw [if_neg n, if_neg n, if_neg n2, decide_eq_false n2]
    show (inForm _ _ || inForm _ _) = _
    rw [f1, f2]
/-! ### two patterns at once -/
def fm10 (x y : Nat) (t u : Str × Int × Int) : List (List Str) := formsL ([ptM x y t, ptM x y u] ++ [])
theorem fm9_eq (x y : Nat) (t : Str × Int × Int) : fm9 x y t = (ptM x y t).forms := by
  show (ptM x y t).forms ++ [] = _
  rw [List.append_nil]
theorem fm10_eq (x y : Nat) (t u : Str × Int × Int) : fm10 x y t u = fm9 x y t ++ fm9 x y u := by
  rw [fm9_eq, fm9_eq]
  show (ptM x y t).forms ++ ((ptM x y u).forms ++ []) = _
  rw [List.append_nil]
section
variable {x y : Nat} {t u : Str × Int × Int} (ho : PatOk t) (hu : PatOk u) (hx : x ∈ signsS.cps.toList) (hy : y ∈ signsS.cps.toList)
include hx hy
theorem holds9 {t : Str × Int × Int} (ho : PatOk t) {w : List Nat} (hw : w ≠ []) (hs : ∀ c ∈ w, c ∈ signsS.cps.toList) : (ptM x y t).holds ((ptM x y t).forms.map (doneM w)) = bearsM x y t (tx w) := by
  have g := gl9 ho hx hy hw hs
  unfold glM at g
  rw [dnM_map, fm9_eq] at g
  rw [← g]
  show _ = (((ptM x y t).holds (((ptM x y t).forms.map (doneM w)).take (ptM x y t).leaves)) && true)
  rw [Bool.and_true, List.take_of_length_le (by rw [List.length_map, Pt.forms_len]; exact Nat.le_refl _)]
include ho hu
theorem gl10 {w : List Nat} (hw : w ≠ []) (hs : ∀ c ∈ w, c ∈ signsS.cps.toList) : glM [ptM x y t, ptM x y u] (fm10 x y t u) ((fm10 x y t u).map (stM w)) = (bearsM x y t (tx w) && bearsM x y u (tx w)) := by
  have h1 := holds9 hx hy ho hw hs
  have h2 := holds9 hx hy hu hw hs
  unfold glM
  rw [dnM_map, fm10_eq, fm9_eq, fm9_eq, List.map_append]
  have l1 : ((ptM x y t).forms.map (doneM w)).length = (ptM x y t).leaves := by rw [List.length_map, Pt.forms_len]
  have l2 : ((ptM x y u).forms.map (doneM w)).length = (ptM x y u).leaves := by rw [List.length_map, Pt.forms_len]
  generalize (ptM x y t).forms.map (doneM w) = a at h1 l1
  generalize (ptM x y u).forms.map (doneM w) = b at h2 l2
  show ((ptM x y t).holds ((a ++ b).take (ptM x y t).leaves) && ((ptM x y u).holds (((a ++ b).drop (ptM x y t).leaves).take (ptM x y u).leaves) && true)) = _
  rw [← l1, List.take_left, List.drop_left, ← l2, List.take_length, h1, h2, Bool.and_true]
theorem fm10_good : ∀ ps ∈ fm10 x y t u, GoodP ps := fun ps h => by
  rw [fm10_eq] at h
  exact (List.mem_append.mp h).elim (fm9_good ho hx hy ps) (fm9_good hu hx hy ps)
theorem rep10 {w : List Nat} (hw : w ≠ []) (hs : ∀ c ∈ w, c ∈ signsS.cps.toList) (hb : (bearsM x y t (tx w) && bearsM x y u (tx w)) = true) :
    ∃ v : List Nat, v ≠ [] ∧ (∀ c ∈ v, c ∈ csM (fm10 x y t u)) ∧ glM [ptM x y t, ptM x y u] (fm10 x y t u) ((fm10 x y t u).map (stM v)) = true ∧ sle v w := by
  have hG := fm10_good ho hu hx hy
  have g := gl10 ho hu hx hy hw hs
  rw [hb] at g
  refine ⟨w.map (repM (fxC (fm10 x y t u))), fun k => hw (List.map_eq_nil_iff.mp k), fun c hc => ?_, ?_, sle_map fun c hc => rep_le (hs c hc)⟩
  · obtain ⟨d, hd, rfl⟩ := List.mem_map.mp hc
    exact (csM_mem hG _).mpr (rep_sig (hs d hd))
  · rw [List.map_congr_left fun ps hp => st_same hG hp hs]
    exact g
theorem least10_3 {z : List Nat} (h : LeastY [ptM x y t, ptM x y u] z) : (∀ c ∈ z, c ∈ signsS.cps.toList) ∧ (bearsM x y t (tx z) && bearsM x y u (tx z)) = true ∧ z.length ≤ 3 ∧
    ∀ w : List Nat, w ≠ [] → (∀ c ∈ w, c ∈ signsS.cps.toList) → (bearsM x y t (tx w) && bearsM x y u (tx w)) = true → sle z w := by
  have hs : ∀ c ∈ z, c ∈ signsS.cps.toList := fun c hc => (List.mem_filter.mp (h.over c hc)).1
  have hb : (bearsM x y t (tx z) && bearsM x y u (tx z)) = true := by
    rw [← gl10 ho hu hx hy h.ne hs]
    exact h.goal
  have low : ∀ w : List Nat, w ≠ [] → (∀ c ∈ w, c ∈ signsS.cps.toList) → (bearsM x y t (tx w) && bearsM x y u (tx w)) = true → sle z w := fun w hw hws hwb => by
    obtain ⟨v, h1, h2, h3, h4⟩ := rep10 ho hu hx hy hw hws hwb
    exact sle_trans (h.low v h1 h2 h3) h4
  refine ⟨hs, hb, ?_, low⟩
  by_cases c : z.length ≤ 3
  · exact c
  · have hw : 3 < z.length := by omega
    have l3 : (z.take 3).length = 3 := by rw [List.length_take]; omega
    rw [Bool.and_eq_true] at hb
    have := sle_len (low (z.take 3) (fun e => by rw [e] at l3; cases l3) (fun c hc => hs c (List.mem_of_mem_take hc)) (by rw [bears_take ho hx hy hs hw hb.1, bears_take hu hx hy hs hw hb.2]; rfl))
    omega
theorem none10_3 (h : NoneY [ptM x y t, ptM x y u]) {w : List Nat} (hw : w ≠ []) (hs : ∀ c ∈ w, c ∈ signsS.cps.toList) : (bearsM x y t (tx w) && bearsM x y u (tx w)) = false := by
  cases hb : (bearsM x y t (tx w) && bearsM x y u (tx w)) with
  | false => rfl
  | true =>
    obtain ⟨v, h1, h2, h3, _⟩ := rep10 ho hu hx hy hw hs hb
    exact absurd h3 (h v h1 h2)
theorem fx10 : ∀ c ∈ fxC (fm10 x y t u), c ∈ [x, y] := fun c hc => by
  rw [fm10_eq] at hc
  unfold fxC at hc
  rw [List.flatMap_append] at hc
  exact (List.mem_append.mp hc).elim (fx9 ho hx hy c) (fx9 hu hx hy c)
end
theorem cs_of {s : Int × Int} {pss : List (List Str)} (hG : ∀ ps ∈ pss, GoodP ps) (hf : ∀ c ∈ fxC pss, c ∈ [xM s, yM s]) : ∀ c ∈ csM pss, c ∈ five s := fun c hc => by
  have hc := (csM_mem hG c).mp hc
  have out : ∀ z ∈ [letS, othS, digS], c ∈ outC (fxC pss) z → c ∈ five s := fun z hz h => by
    rcases first_sub hf h with k | k
    · unfold five
      simp only [List.mem_cons, List.not_mem_nil, or_false] at k ⊢
      rcases k with k | k <;> simp [k]
    · rw [r_head s hz] at k
      cases k
      unfold five
      simp only [List.mem_cons, List.not_mem_nil, or_false] at hz
      rcases hz with rfl | rfl | rfl <;> simp
  unfold sigC at hc
  simp only [List.mem_append] at hc
  rcases hc with ((h | h) | h) | h
  · have := hf c h
    unfold five
    simp only [List.mem_cons, List.not_mem_nil, or_false] at this ⊢
    rcases this with k | k <;> simp [k]
  · exact out _ (by simp) h
  · exact out _ (by simp) h
  · exact out _ (by simp) h
def dueL2 (x y : Nat) (t u : Str × Int × Int) (ss : List Nat) : List (List Nat) := (foundM ss 3).filter fun w => bearsM x y t (tx w) && bearsM x y u (tx w)
theorem due_least2 {s : Int × Int} {t u : Str × Int × Int} (ho : PatOk t) (hu : PatOk u) {v : V} (h : LeastV [ptM (xM s) (yM s) t, ptM (xM s) (yM s) u] v) : v = headV (dueL2 (xM s) (yM s) t u (ascF (five s))) := by
  have hs := five_signs s
  have hx : xM s ∈ signsS.cps.toList := hs.1 _ (by unfold five; simp)
  have hy : yM s ∈ signsS.cps.toList := hs.1 _ (by unfold five; simp)
  have am := ascF_mem hs.1
  rcases h with ⟨z, rfl, hz⟩ | ⟨rfl, hz⟩
  · obtain ⟨h1, h2, h3, h4⟩ := least10_3 ho hu hx hy hz
    refine (head_least (z := z) ((found_up (ascF_up _) 3).filter _) (List.mem_filter.mpr ⟨found_all 3 z hz.ne h3 fun c hc => (am c).mpr (cs_of (fm10_good ho hu hx hy) (fx10 ho hu hx hy) c (hz.over c hc)), h2⟩) fun w hw => ?_).symm
    obtain ⟨hw1, hw2⟩ := List.mem_filter.mp hw
    obtain ⟨w1, _, w3⟩ := found_word _ 3 w hw1
    exact h4 w w1 (fun c hc => hs.1 c ((am c).mp (w3 c hc))) hw2
  · have : dueL2 (xM s) (yM s) t u (ascF (five s)) = [] := List.filter_eq_nil_iff.mpr fun w hw => by
      obtain ⟨w1, _, w3⟩ := found_word _ 3 w hw
      rw [none10_3 ho hu hx hy hz w1 fun c hc => hs.1 c ((am c).mp (w3 c hc))]
      decide
    rw [this]
    rfl
theorem due2_comm (x y : Nat) (t u : Str × Int × Int) (ss : List Nat) : dueL2 x y t u ss = dueL2 x y u t ss := by
  unfold dueL2
  congr 1
  funext w
  exact Bool.and_comm _ _
theorem due2_self (x y : Nat) (t : Str × Int × Int) (ss : List Nat) : dueL2 x y t t ss = dueL x y t ss := by
  unfold dueL2 dueL
  congr 1
  funext w
  exact Bool.and_self _
/-! few signs, few states -/
theorem fx_menu {ps : List Str} (m : MenuF ps) : (fxC1 ps).length ≤ 2 := by
  rcases m with ⟨p, rfl, hp, hl⟩ | ⟨p, rfl, hp⟩ | ⟨p, q, rfl, hp, hl, hq⟩
  · unfold fxC1
    rw [str_len] at hl
    simpa [hp] using hl
  · unfold fxC1
    simp [hp]
  · unfold fxC1
    rw [str_len] at hl
    simpa [hp, hq] using hl
theorem cell_few {p : Str} (h : isOpen p = true ∨ p.length ≤ 2) : (cellOf1 p).length ≤ if isOpen p = true then 1 else 2 := by
  unfold cellOf1
  by_cases o : isOpen p = true
  · rw [if_pos o, if_pos o]
    exact Nat.le_refl 1
  · rw [if_neg o, if_neg o]
    unfold signsOf
    rw [List.length_map, ← str_len]
    exact h.resolve_left o
theorem cells_menu {ps : List Str} (m : MenuF ps) : (cellsM ps).length ≤ 3 := by
  rcases m with ⟨p, rfl, hp, hl⟩ | ⟨p, rfl, hp⟩ | ⟨p, q, rfl, hp, hl, hq⟩
  · have a := cell_few (p := p) (.inr hl)
    rw [if_neg (by rw [hp]; decide)] at a
    show (cellOf1 p ++ []).length ≤ 3
    rw [List.append_nil]
    omega
  · have a := cell_few (p := p) (.inl hp)
    rw [if_pos hp] at a
    show (cellOf1 p ++ []).length ≤ 3
    rw [List.append_nil]
    omega
  · have a := cell_few (p := p) (.inr hl)
    have b := cell_few (p := q) (.inl hq)
    rw [if_neg (by rw [hp]; decide)] at a
    rw [if_pos hq] at b
    show (cellOf1 p ++ (cellOf1 q ++ [])).length ≤ 3
    rw [List.append_nil, List.length_append]
    omega
theorem cnt_app : ∀ a b : List (List Str), cnt (a ++ b) = cnt a * cnt b
  | [], b => by
    show cnt b = 1 * cnt b
    rw [Nat.one_mul]
  | p :: a, b => by
    show 2 ^ ((cellsM p).length + 1) * cnt (a ++ b) = 2 ^ ((cellsM p).length + 1) * cnt a * cnt b
    rw [cnt_app a b, Nat.mul_assoc]
theorem few9 {x y : Nat} {t : Str × Int × Int} (ho : PatOk t) : cnt (fm9 x y t) ≤ 256 ∧ (fxC (fm9 x y t)).length ≤ 4 := by
  have m1 := mn_menu x y ho.2.1.1 ho.2.1.2
  have m2 := mn_menu x y ho.2.2.1 ho.2.2.2
  have c : ∀ {ps : List Str}, MenuF ps → 2 ^ ((cellsM ps).length + 1) ≤ 16 := fun m => Nat.le_trans (Nat.pow_le_pow_right (by decide) (Nat.succ_le_succ (cells_menu m))) (by decide)
  rw [fm9_eq]
  unfold ptM
  by_cases e : t.1 = ""
  · rw [if_pos e]
    refine ⟨?_, ?_⟩
    · show 2 ^ ((cellsM (mn x y t.2.1)).length + 1) * 1 ≤ 256
      have := c m1
      omega
    · show (fxC1 (mn x y t.2.1) ++ []).length ≤ 4
      rw [List.append_nil]
      have := fx_menu m1
      omega
  · rw [if_neg e]
    refine ⟨?_, ?_⟩
    · show 2 ^ ((cellsM (mn x y t.2.1)).length + 1) * (2 ^ ((cellsM (mn x y t.2.2)).length + 1) * 1) ≤ 256
      rw [Nat.mul_one]
      exact Nat.le_trans (Nat.mul_le_mul (c m1) (c m2)) (by decide)
    · show (fxC1 (mn x y t.2.1) ++ (fxC1 (mn x y t.2.2) ++ [])).length ≤ 4
      rw [List.append_nil, List.length_append]
      have := fx_menu m1
      have := fx_menu m2
      omega
theorem few10 {x y : Nat} {t u : Str × Int × Int} (ho : PatOk t) (hu : PatOk u) : cnt (fm10 x y t u) ≤ 90000 ∧ (fxC (fm10 x y t u)).length ≤ 48 := by
  obtain ⟨a, b⟩ := few9 (x := x) (y := y) ho
  obtain ⟨c, d⟩ := few9 (x := x) (y := y) hu
  rw [fm10_eq, cnt_app]
  refine ⟨Nat.le_trans (Nat.mul_le_mul a c) (by decide), ?_⟩
  unfold fxC at *
  rw [List.flatMap_append, List.length_append]
  omega

/-! ### a comprehension over a list, of objects new or not -/
/-- a pattern stands without what is no part of patterns -/
theorem pat_hide {CF CB CE : Addr} {t : Pt} {a D : Addr} {G : Hp} (n1 : ∀ C dx fs, G D ≠ some (.ins C dx fs)) (n2 : ∀ xs, G D ≠ some (.tup xs)) (n3 : ∀ s xs, G D ≠ some (.lst (.str s :: xs))) (h : PatAt CF CB CE G t a) : PatAt CF CB CE (hide D G) t a := by
  have fz : ∀ {x : Addr} {o : HO}, G x = some o → G D ≠ some o → hide D G x = some o := fun hx hn => by
    rw [hide_ne (fun z => hn (by rw [← z]; exact hx))]
    exact hx
  induction h with
  | f h =>
    obtain ⟨⟨dx, t, c, h1, h2, h3⟩, g⟩ := h
    obtain ⟨x, xs, hc⟩ := cells_ne g.1 g.2.1
    refine .f ⟨⟨dx, t, c, fz h1 (n1 _ _ _), fz h2 (n2 _), fz h3 ?_⟩, g⟩
    rw [hc]
    exact n3 _ _
  | @n and l r a dx p q h _ _ ih1 ih2 => exact .n (fz h (n1 _ _ _)) ih1 ih2
theorem offPt {CF CB CE : Addr} {d : Nat} (t : Pt) (p : Addr) (H : Hp) (D : Addr) (acc : List V) (h : PatR CF CB CE d t p H) (hD : H D = some (.lst acc)) (refs : ∀ v ∈ acc, ∃ r : Addr, v = .ref r) : PatR CF CB CE d t p (hide D H) := by
  refine ⟨pat_hide (fun _ _ _ z => ?_) (fun _ z => ?_) (fun c xs z => ?_) h.1, h.2⟩
  · rw [hD] at z
    cases z
  · rw [hD] at z
    cases z
  · rw [hD] at z
    obtain ⟨r, hr⟩ := refs (.str c) (by rw [HO.lst.inj (Option.some.inj z)]; exact List.mem_cons_self)
    cases hr
theorem ers_lstO {α : Type} {R : α → Addr → Hp → Prop} {xs : List α} {σ : L2.St} {H : Hp} {te tl : TE} {a : Addr} {us : List V} {j : Nat} {ws : List Nat} (up : Up R) (off : ∀ x p H D acc, R x p H → H D = some (.lst acc) → (∀ v ∈ acc, ∃ r : Addr, v = .ref r) → R x p (hide D H)) (h : Ev tl σ H (.ref a)) (hx : SqL K H a us) (hn : us.length ≤ 40000) (hl : xs.length = us.length)
    (hw : ∀ x, wipe ((wipe σ ws).set j (some x)) ws = wipe σ ws)
    (he : ∀ (i : Nat) (u : V) (y : α) (H1 : Hp), Ex H H1 → us[i]? = some u → xs[i]? = some y → ∀ Q : VK, (∀ p H2, Ex H1 H2 → R y p H2 → Q (.ref p) H2) → te ((wipe σ ws).set j (some u)) H1 Q) : EvRs (tLc (iList K tl) (gName j) tYes te ws) σ H R xs := fun H0 e Q q => h H0 e _ fun H1 e1 => ⟨a, rfl, ⟨us, ex_l (e.trans e1) hx⟩, fun D hD => by
  refine lc_it (walk_list (K := K) (a := a) (xs := us)) (fun i H => ∃ vs, H D = some (.lst vs) ∧ Ex H1 (hide D H) ∧ Rs R (hide D H) vs (xs.take i)) ⟨[], upd_same, ?_, ?_⟩ (fun i H2 _ ⟨vs, hv, e2, r⟩ => ex_l ((e.trans e1).trans (e2.trans hide_le)) hx) ?_ ?_
  · rw [hide_upd, hide_none hD]
    exact Ex.refl _
  · exact .nil
  · rintro i x H2 H3 hi ⟨vs, hv, e2, r⟩ yy
    obtain ⟨rfl, hu⟩ := yy
    obtain ⟨z, hz⟩ : ∃ z, xs[i]? = some z := ⟨xs[i]'(by have := (List.getElem?_eq_some_iff.mp hu).1; omega), List.getElem?_eq_getElem _⟩
    refine ⟨hw _, he i x z _ ((e.trans e1).trans (e2.trans hide_le)) hu hz _ fun p H4 e4 rp => ?_⟩
    have hv4 := e4 _ _ hv
    have el : vs.length = (xs.take i).length := r.len
    rw [List.length_take] at el
    refine ⟨vs, hv4, sz_lt (by omega), vs ++ [.ref p], upd_same, ?_, ?_⟩
    · rw [hide_upd]
      exact e2.trans (ex_hide e4)
    · rw [hide_upd, List.take_add_one, hz]
      exact (r.ex up (ex_hide e4)).snoc (off z p H4 D vs rp hv4 r.refs)
  · rintro H2 ⟨vs, hv, e2, r⟩
    rw [← hl, List.take_length] at r
    exact q D vs H2 (fresh_back e1 hD) (e1.trans (e2.trans hide_le)) hv (r.ex up hide_le)⟩

/-! ### the line that two patterns share -/
theorem head_first {f : List Nat → Bool} : ∀ {L : List (List Nat)} {i : Nat} {w : List Nat}, L[i]? = some w → f w = true → (∀ j v, j < i → L[j]? = some v → f v = false) → headV (L.filter f) = wS w
  | [], i, w, h, _, _ => by simp at h
  | a :: L, 0, w, h, hf, _ => by
    have e : a = w := by simpa using h
    rw [e, List.filter_cons, if_pos hf]
    rfl
  | a :: L, i + 1, w, h, hf, hn => by
    have h0 := hn 0 a (Nat.succ_pos i) rfl
    rw [List.filter_cons, if_neg (by rw [h0]; decide)]
    exact head_first (by simpa using h) hf fun j v hj hv => hn (j + 1) v (Nat.succ_lt_succ hj) (by simpa using hv)
def spDue10 (K : PySem.W.Frag) : Sp := fun vs H Q _ => ∃ (a b c : Addr) (x y : Nat) (r : List Nat) (t u : Str × Int × Int), vs = [.ref a, .ref b, .ref c] ∧ SqL K H a ((x :: y :: r).map fun c => V.str (sg c)) ∧ SqL K H b (patV t) ∧ SqL K H c (patV u) ∧ PatOk t ∧ PatOk u ∧
  (∀ c ∈ x :: y :: r, c ∈ signsS.cps.toList) ∧ (x :: y :: r).Nodup ∧ (x :: y :: r).length ≤ 5 ∧ RetV (headV (dueL2 x y t u (ascF (x :: y :: r)))) H Q
theorem ok__law_due {f : Addr} {fd : FuncData} (F : Fun K "_law_due" "_law_due" s__law_due f fd) (T : Txt K mg a_OPEN_PARTS C_Both C_Either C_Form) (D__law_lines : Df P w K mg base "_law_lines" ["signs"] 1 (spLines K)) (D__law_bears : Df P w K mg base "_law_bears" ["signs", "pattern", "line"] 4 (spBears K)) :
    FnOk P w K mg base CX0 5 f fd ["signs", "one", "other"] (spDue10 K) := by
  refine F.ok sc__law_due (fun vs H Q E h => ?_) (fun cdv A outer s0 H vs Q E hr h => ?_)
  · obtain ⟨a, b, c, x, y, r, t, u, rfl, _⟩ := h
    rfl
  · obtain ⟨a, b, c, x, y, r, t, u, rfl, hA, hB, hC, ho, hu, hs, hn, h5, q⟩ := h
    refine ⟨_, (pss_cons (ps_for PassesOwn.never rfl (pi_list (pe_df D__law_lines (hr.mono (by decide)) (by rfl) (pa_cons (pv 0) pa_nil))) (pg_name (i := 3) sc__law_due.nd rfl (Or.inl rfl))
      (pss_one (ps_if (PW.pt (pw_and (pt_val (pe_df D__law_bears (hr.mono (by decide)) (by rfl) (pa_cons (pv 0) (pa_cons (pv 1) (pa_cons (pv 3) pa_nil))))) (pw_and1 (pt_val (pe_df D__law_bears (hr.mono (by decide)) (by rfl) (pa_cons (pv 0) (pa_cons (pv 2) (pa_cons (pv 3) pa_nil))))))))
      (pss_one (ps_ret (pv 3)))
      pss_nil)))
      (pss_one (ps_ret pe_non))), ?_⟩
    have hm := ascF_mem hs
    have ok : ∀ w ∈ foundM (ascF (x :: y :: r)) 3, (tx w).length ≤ 3 := fun w hw => by
      obtain ⟨_, h2, h3⟩ := found_word _ 3 w hw
      show w.toArray.size ≤ 3
      simpa using h2
    refine q_forNLn (xs := (foundM (ascF (x :: y :: r)) 3).map wS) (j := 3) (fun H1 e Q k => ⟨_, rfl, a, x :: y :: r, rfl, ex_l e hA, hs, hn, h5, fun l H2 hl e2 h2 => k l H2 hl e2 h2⟩)
      (fun p i σ' H' => ∃ y3 : Option V, σ' = [some (.ref a), some (.ref b), some (.ref c), y3] ∧ Ex H H' ∧ H' p = some (.lst ((foundM (ascF (x :: y :: r)) 3).map wS)) ∧ ∀ j v, j < i → (foundM (ascF (x :: y :: r)) 3)[j]? = some v → (bearsM x y t (tx v) && bearsM x y u (tx v)) = false)
      (fun p H1 _ e1 h1 => ⟨_, rfl, e1, h1, fun j v hj => absurd hj (Nat.not_lt_zero j)⟩) (fun p i σ' H' _ ⟨_, _, _, h1, _⟩ => sq_of h1) ?_ ?_
    · rintro p i v σ' H1 hv ⟨y3, rfl, e1, h1, hno⟩
      rw [List.getElem?_map] at hv
      cases hw : (foundM (ascF (x :: y :: r)) 3)[i]? with
      | none =>
        rw [hw] at hv
        cases hv
      | some wd =>
        rw [hw] at hv
        cases hv
        have lw := ok wd (List.mem_of_getElem? hw)
        have call : ∀ {t : Str × Int × Int} {b : Addr} {i : Nat} {σ : L2.St} {H2 : Hp}, PatOk t → SqL K H b (patV t) → Ex H H2 → σ[0]? = some (some (.ref a)) → σ[i]? = some (some (.ref b)) → σ[3]? = some (some (wS wd)) → Ev (tCall (spBears K) [] E0 (tCons (tVar 0) (tCons (tVar i) (tCons (tVar 3) tNil)))) σ H2 (.bl (bearsM x y t (tx wd))) := fun {t b i σ H2} ho hB e i0 i1 i3 H3 e3 Q k =>
          ⟨_, i0, _, i1, _, i3, a, b, x, y, r.map fun c => V.str (sg c), t, tx wd, rfl, ex_l (e.trans e3) hA, ex_l (e.trans e3) hB, ho, hs x (by simp), hs y (by simp), Nat.le_trans lw (by decide), fun H4 e4 => k H4 e4⟩
        refine s_when (et_and (et_B (call ho hB e1 rfl rfl rfl)) (fun _ => et_B (call hu hC e1 rfl rfl rfl))) (fun hb H2 e2 => ?_) (fun hb H2 e2 => ⟨_, rfl, e1.trans e2, e2 _ _ h1, fun j v hj hjv => ?_⟩)
        · refine s_ret (v := wS wd) (ev_var rfl) fun H3 e3 => ?_
          have := q H3 ((e1.trans e2).trans e3)
          unfold dueL2 at this
          rwa [head_first (f := fun w => bearsM x y t (tx w) && bearsM x y u (tx w)) hw hb hno] at this
        · rcases Nat.lt_succ_iff_lt_or_eq.mp hj with z | z
          · exact hno j v z hjv
          · rw [z, hw] at hjv
            cases hjv
            exact hb
    · rintro p σ' H1 ⟨y3, rfl, e1, h1, hno⟩
      refine s_ret ev_c fun H2 e2 => ?_
      have := q H2 (e1.trans e2)
      have nil : dueL2 x y t u (ascF (x :: y :: r)) = [] := List.filter_eq_nil_iff.mpr fun v hv => by
        obtain ⟨j, hj⟩ := List.mem_iff_getElem?.mp hv
        have hlt := (List.getElem?_eq_some_iff.mp hj).1
        rw [hno j v (by rw [List.length_map]; exact hlt) hj]
        decide
      rw [nil] at this
      exact this

/-! ### the law -/
theorem leaves9 (x y : Nat) (t : Str × Int × Int) : (ptM x y t).leaves ≤ 2 := by
  unfold ptM
  by_cases e : t.1 = ""
  · rw [if_pos e]
    show 1 ≤ 2
    decide
  · rw [if_neg e]
    show 1 + 1 ≤ 2
    decide
def PatL (t : Str × Int × Int) (l : Addr) (H : Hp) : Prop := H l = some (.lst (patV t))
theorem upPL : Up PatL := fun _ _ _ _ e h => e _ _ h
def patD (s : Int × Int) : (Str × Int × Int) × (Int × Int) := (patM s, patS s)
theorem patD_pk (s : Int × Int) (h : Pk s) : Pk (patD s).2 := take_pk (take_pk (take_pk h))
theorem head_word {L : List (List Nat)} : headV L = .non ∨ ∃ u ∈ L, headV L = wS u := by
  cases L with
  | nil => exact .inl rfl
  | cons u L => exact .inr ⟨u, List.mem_cons_self, rfl⟩
theorem ne_head {σ : L2.St} {G : Hp} {te tr : TE} {L : List (List Nat)} (h : Ev te σ G (headV L)) (k : Ev tr σ G (headV L)) : EvT (tTest (tOp rNe te tr)) σ G false := et_is (et_test (ev_op h k (rv_ne (by
  rcases head_word (L := L) with e | ⟨u, _, e⟩ <;> rw [e] <;> rfl)))) (by simp)
section
variable {σ : L2.St} {G : Hp} {ta tb : TE} {p r : Addr} {CF CB CE : Addr} {s : Int × Int} {t u : Str × Int × Int}
theorem ev_sh (ho : PatOk t) (hu : PatOk u) (ha : Ev ta σ G (.ref p)) (hb : Ev tb σ G (.ref r)) (hP : PatR CF CB CE 2 (ptM (xM s) (yM s) t) p G) (hR : PatR CF CB CE 2 (ptM (xM s) (yM s) u) r G) :
    Ev (tCall (spShared CF CB CE 2) [] E0 (tCons ta (tCons tb tNil))) σ G (headV (dueL2 (xM s) (yM s) t u (ascF (five s)))) := fun H1 e Q q =>
  ha H1 e _ fun H2 e2 => hb H2 (e.trans e2) _ fun H3 e3 => ⟨p, r, _, _, rfl, upP _ _ _ _ ((e.trans e2).trans e3) hP, upP _ _ _ _ ((e.trans e2).trans e3) hR, (few10 ho hu).2, by
    have := leaves9 (xM s) (yM s) t
    have := leaves9 (xM s) (yM s) u
    omega, (few10 ho hu).1, fun v H4 hv e4 => by
    rw [due_least2 ho hu hv]
    exact q H4 ((e2.trans e3).trans e4)⟩
theorem ev_ll10 (ho : PatOk t) (ha : Ev ta σ G (.ref p)) (hP : PatR CF CB CE 2 (ptM (xM s) (yM s) t) p G) : Ev (tCall (spLL CF CB CE 2) [] E0 (tCons ta tNil)) σ G (headV (dueL (xM s) (yM s) t (ascF (five s)))) := fun H1 e Q q =>
  ha H1 e _ fun H2 e2 => ⟨p, _, rfl, upP _ _ _ _ (e.trans e2) hP, by
    have := (few9 (x := xM s) (y := yM s) ho).2
    exact Nat.le_trans this (by decide), Nat.le_trans (few9 ho).1 (by decide), fun v H4 hv e4 => by
    rw [due_least ho hv]
    exact q H4 (e2.trans e4)⟩
theorem ev_due10 {l b c : Addr} {tl : TE} (ho : PatOk t) (hu : PatOk u) (hl : Ev tl σ G (.ref l)) (ha : Ev ta σ G (.ref b)) (hb : Ev tb σ G (.ref c)) (hA : G l = some (.lst ((five s).map fun c => V.str (sg c)))) (hB : PatL t b G) (hC : PatL u c G) :
    Ev (tCall (spDue10 K) [] E0 (tCons tl (tCons ta (tCons tb tNil)))) σ G (headV (dueL2 (xM s) (yM s) t u (ascF (five s)))) := fun H1 e Q q =>
  hl H1 e _ fun H2 e2 => ha H2 (e.trans e2) _ fun H3 e3 => hb H3 ((e.trans e2).trans e3) _ fun H4 e4 => by
    have g := ((e.trans e2).trans e3).trans e4
    exact ⟨l, b, c, xM s, yM s, [rM s letS, rM s othS, rM s digS], t, u, rfl, sq_of (g _ _ hA), sq_of (g _ _ hB), sq_of (g _ _ hC), ho, hu, (five_signs s).1, (five_signs s).2, Nat.le_refl 5, fun H5 e5 => q H5 (((e2.trans e3).trans e4).trans e5)⟩
end
def spLaw (K : PySem.W.Frag) : Sp := fun vs H Q _ => ∃ (a : Addr) (ns : List Int), vs = [.ref a] ∧ SqL K H a (ns.map V.int) ∧ ns.length ≤ 63 ∧ ∀ H', Q (.bl true) H'
theorem ok_law {f : Addr} {fd : FuncData} (F : Fun K "law" "law" s_law f fd) (T : Txt K mg a_OPEN_PARTS C_Both C_Either C_Form) (D__law_pool : Df P w K mg base "_law_pool" ["script", "k"] 1 (spPool K)) (D__law_signs : Df P w K mg base "_law_signs" ["pool"] 2 spSigns5) (D__law_pattern : Df P w K mg base "_law_pattern" ["pool"] 2 spPat)
    (D__law_made : Df P w K mg base "_law_made" ["signs", "pattern"] 8 (spMade K C_Form C_Both C_Either)) (D_least_line : Df P w K mg base "least_line" ["pattern"] 8 (spLL C_Form C_Both C_Either 2)) (D_shared_line : Df P w K mg base "shared_line" ["one", "other"] 8 (spShared C_Form C_Both C_Either 2)) (D__law_due : Df P w K mg base "_law_due" ["signs", "one", "other"] 5 (spDue10 K)) :
    FnOk P w K mg base CX0 9 f fd ["script"] (spLaw K) := by
  refine F.ok sc_law (fun vs H Q E h => ?_) (fun cdv A outer s0 H vs Q E hr h => ?_)
  · obtain ⟨a, ns, rfl, _⟩ := h
    rfl
  · obtain ⟨a, ns, rfl, hS, hl, q⟩ := h
    refine ⟨_, (pss_cons (ps_for PassesOwn.never rfl (pi_range1 (by rfl) T.n_range (pa_cons (pe_callB (call_max2 rfl) (by rfl) T.n_max (by decide +kernel) (pa_cons pe_int (pa_cons (pe_callB (call_min2 rfl) (by rfl) T.n_min (by decide +kernel) (pa_cons pe_int (pa_cons (pe_callB call_len_seq (by rfl) T.n_len PySem.boot_len (pa_cons (pv 0) pa_nil)) pa_nil))) pa_nil))) pa_nil)) (pg_name (i := 1) sc_law.nd rfl (Or.inl rfl))
      (pss_cons (ps_set (i := 2) sc_law.nd rfl (Or.inr rfl) (pe_df D__law_pool (hr.mono (by decide)) (by rfl) (pa_cons (pv 0) (pa_cons (pv 1) pa_nil))))
      (pss_cons (ps_set (i := 3) sc_law.nd rfl (Or.inr rfl) (pe_df D__law_signs (hr.mono (by decide)) (by rfl) (pa_cons (pv 2) pa_nil)))
      (pss_cons (ps_setLc (i := 4) (own := [("at", 6)]) (g := gName 6) rfl sc_law.nd rfl rfl (sw_true rfl rfl rfl (by decide +kernel)) (pi_range1 (by rfl) T.n_range (pa_cons pe_int pa_nil)) (blkOk_by (own := [("at", 6)]) (N := ["script", "k", "pool", "signs", "some", "built", "at", "there", "due", "one"]) (sc := defScope s_law) (by decide +kernel)) (fun _ _ _ _ _ => pg_name (i := 6) sc_law.nd rfl (Or.inl rfl)) (fun _ _ _ _ _ => pts_nil) (fun _ _ _ _ _ => (pe_df (k := 2) D__law_pattern (hr.mono (j := 2) (by decide)) (by rfl) (pa_cons (pv 2) pa_nil))))
      (pss_cons (ps_setLc (i := 5) (own := [("one", 9)]) (g := gName 9) rfl sc_law.nd rfl rfl (sw_true rfl rfl rfl (by decide +kernel)) (pi_list (pv 4)) (blkOk_by (own := [("one", 9)]) (N := ["script", "k", "pool", "signs", "some", "built", "at", "there", "due", "one"]) (sc := defScope s_law) (by decide +kernel)) (fun _ _ _ _ _ => pg_name (i := 9) sc_law.nd rfl (Or.inl rfl)) (fun _ _ _ _ _ => pts_nil) (fun _ _ _ _ _ => (pe_df (k := 8) D__law_made (hr.mono (j := 8) (by decide)) (by rfl) (pa_cons (pv 3) (pa_cons (pv 9) pa_nil)))))
      (pss_one (ps_for PassesOwn.never rfl (pi_range1 (by rfl) T.n_range (pa_cons pe_int pa_nil)) (pg_name (i := 6) sc_law.nd rfl (Or.inl rfl))
      (pss_cons (ps_set (i := 7) sc_law.nd rfl (Or.inl rfl) (pe_op op_mod (pe_op op_add (pv 6) pe_int) pe_int))
      (pss_cons (ps_set (i := 8) sc_law.nd rfl (Or.inl rfl) (pe_df D__law_due (hr.mono (by decide)) (by rfl) (pa_cons (pv 3) (pa_cons (pe_ix ix_list (pv 4) (pv 6) (fun _ _ => rfl)) (pa_cons (pe_ix ix_list (pv 4) (pv 7) (fun _ _ => rfl)) pa_nil)))))
      (pss_cons (ps_if (PW.pt (pw_or (pt_cmpR op_ne (pe_df D_shared_line (hr.mono (by decide)) (by rfl) (pa_cons (pe_ix ix_list (pv 5) (pv 6) (fun _ _ => rfl)) (pa_cons (pe_ix ix_list (pv 5) (pv 7) (fun _ _ => rfl)) pa_nil))) (pv 8) (nomark _)) (pw_or1 (pt_cmpR op_ne (pe_df D_shared_line (hr.mono (by decide)) (by rfl) (pa_cons (pe_ix ix_list (pv 5) (pv 7) (fun _ _ => rfl)) (pa_cons (pe_ix ix_list (pv 5) (pv 6) (fun _ _ => rfl)) pa_nil))) (pv 8) (nomark _)))))
      (pss_one (ps_ret pe_bl))
      pss_nil)
      (pss_one (ps_if (pt_cmpR op_ne (pe_df D_shared_line (hr.mono (by decide)) (by rfl) (pa_cons (pe_ix ix_list (pv 5) (pv 6) (fun _ _ => rfl)) (pa_cons (pe_ix ix_list (pv 5) (pv 6) (fun _ _ => rfl)) pa_nil))) (pe_df D_least_line (hr.mono (by decide)) (by rfl) (pa_cons (pe_ix ix_list (pv 5) (pv 6) (fun _ _ => rfl)) pa_nil)) (nomark _))
      (pss_one (ps_ret pe_bl))
      pss_nil))))))))))))
      (pss_one (ps_ret pe_bl))), ?_⟩
    refine q_forR1 (ea_cons (ev_max ev_c (ev_min2 ev_c (ev_lenL (ev_var rfl) hS))) ea_nil) (by rw [List.length_map]; split <;> split <;> omega)
      (fun i σ' H' => ∃ y1 y2 y3 y4 y5 y6 y7 y8 y9 : Option V, σ' = [some (.ref a), y1, y2, y3, y4, y5, y6, y7, y8, y9] ∧ Ex H H') (fun H1 e1 => ⟨_, _, _, _, _, _, _, _, _, rfl, e1⟩) ?_ ?_
    · rintro i σ' H1 hi ⟨y1, y2, y3, y4, y5, y6, y7, y8, y9, rfl, e1⟩
      have hi2 : (i : Int) ≤ 1000 := by
        rw [List.length_map] at hi
        split at hi <;> split at hi <;> omega
      have hS1 := ex_l e1 hS
      refine ⟨_, rfl, _, rfl, a, ns, (i : Int), rfl, hS1, hl, by omega, by omega, fun p H2 hp2 e2 h2 => ?_⟩
      have hk0 := pool0_pk ns (i : Int)
      generalize pool0 ns (i : Int) = s at h2 hk0
      refine ⟨_, rfl, p, s, rfl, h2, hk0, fun l H3 hl3 e3 h3p h3l => ?_⟩
      have hp0 : H p = none := fresh_back e1 hp2
      have eH3 : Ex H H3 := e1.trans (ex_fresh hp2 e2 e3)
      have nlp : l ≠ p := fun z => by
        rw [z, h2] at hl3
        cases hl3
      have hs5 := five_signs s
      have hx : xM s ∈ signsS.cps.toList := hs5.1 _ (by unfold five; simp)
      have hy : yM s ∈ signsS.cps.toList := hs5.1 _ (by unfold five; simp)
      have k5 : Pk (fiveS s) := take_pk (take_pk hk0)
      refine qp_asgDrawN (R := PatL) upPL (f := patD) patD_pk (Kn.here h3p) (EvAP.of (ea_cons ev_c ea_nil)) k5 ⟨by decide, by decide⟩ wipe1 (fun j H4 s4 hs4 hp4 ex Q' q' => ⟨_, rfl, p, s4, rfl, hp4, hs4, fun b H5 hb e5 h5p h5b => q' b H5 hb e5 h5p fun G hG => hG _ _ hb h5b⟩) fun l4 vs4 H4 n4 _ e4 h4p h4 r4 => ?_
      have e04 : Ex H H4 := ex_fresh hp0 eH3 e4
      have h4l := e4 _ _ (by rw [hide_ne nlp]; exact h3l)
      have okt : ∀ t ∈ (drawN patD 3 (fiveS s)).1, PatOk t := drawN_all (G := PatOk) (fun s h => ⟨patD_pk s h, pat_ok s⟩) k5 3
      have len3 := drawN_len patD (fiveS s) 3
      have r4' : Rs PatL H4 vs4 (drawN patD 3 (fiveS s)).1 := r4.ex upPL (hide_le.trans hide_le)
      generalize (drawN patD 3 (fiveS s)).1 = ts at okt len3 r4'
      have lv : vs4.length = 3 := r4'.len.trans len3
      refine q_asgRs (R := PatR C_Form C_Both C_Either 2) (xs := ts.map (ptM (xM s) (yM s))) (ers_lstO upP (fun t p H D acc => offPt t p H D acc) (ev_var rfl) (sq_of h4) (by omega) (by rw [List.length_map, len3, lv]) wipe1 (fun j v z H5 e5 hv hz Q' q' => ?_)) fun l5 vs5 H5 hl5 e5 h5 r5 => ?_
      · rw [List.getElem?_map] at hz
        cases ht : ts[j]? with
        | none =>
          rw [ht] at hz
          cases hz
        | some t =>
          rw [ht] at hz
          cases hz
          obtain ⟨b, hb, lb⟩ := r4'.at ht
          rw [hb] at hv
          cases hv
          exact ⟨_, rfl, _, rfl, l, b, xM s, yM s, [V.str (sg (rM s letS)), V.str (sg (rM s othS)), V.str (sg (rM s digS))], t, rfl, sq_of (e5 _ _ h4l), sq_of (e5 _ _ lb), okt t (List.mem_of_getElem? ht), hx, hy, fun g H6 e6 hP => q' g H6 e6 hP⟩
      have e05 := e04.trans e5
      refine s_forR1 (ea_cons ev_c ea_nil) ⟨by decide, by decide⟩
        (fun j σ' H' => ∃ y6 y7 y8 y9 : Option V, σ' = [some (.ref a), some (.int (i : Int)), some (.ref p), some (.ref l), some (.ref l4), some (.ref l5), y6, y7, y8, y9] ∧ Ex H5 H')
        (fun H6 e6 => ⟨_, _, _, _, rfl, e6⟩) ?_ ?_
      · rintro j σ' H6 hj ⟨y6, y7, y8, y9, rfl, e6⟩
        have hj3 : j < 3 := by omega
        have hm3 : (j + 1) % 3 < 3 := Nat.mod_lt _ (by decide)
        obtain ⟨t, ht⟩ : ∃ t, ts[j]? = some t := ⟨ts[j]'(by omega), List.getElem?_eq_getElem _⟩
        obtain ⟨u, hu⟩ : ∃ u, ts[(j + 1) % 3]? = some u := ⟨ts[(j + 1) % 3]'(by omega), List.getElem?_eq_getElem _⟩
        have ot := okt t (List.mem_of_getElem? ht)
        have ou := okt u (List.mem_of_getElem? hu)
        obtain ⟨b, hb, lb⟩ := r4'.at ht
        obtain ⟨c, hc, lc⟩ := r4'.at hu
        obtain ⟨g, hg, pg⟩ := r5.at (i := j) (x := ptM (xM s) (yM s) t) (by rw [List.getElem?_map, ht]; rfl)
        obtain ⟨g2, hg2, pg2⟩ := r5.at (i := (j + 1) % 3) (x := ptM (xM s) (yM s) u) (by rw [List.getElem?_map, hu]; rfl)
        refine q_asg (v := .int (((j + 1) % 3 : Nat) : Int)) (ev_is (ev_op (ev_op (ev_var rfl) ev_c rv_add) ev_c (rv_mod (by decide))) (congrArg V.int (by omega))) fun H7 e7 => ?_
        have e57 := e6.trans e7
        have ix4 : ∀ {σ : L2.St} {G : Hp} {k m : Nat} {v : V}, Ex H5 G → σ[4]? = some (some (.ref l4)) → σ[k]? = some (some (.int (m : Int))) → vs4[m]? = some v → Ev (tOp (rIxL K) (tVar 4) (tVar k)) σ G v := fun e i4 ik hv => ev_op (ev_var i4) (ev_var ik) (rv_ixL (sq_of (e _ _ (e5 _ _ h4))) (atI_nat hv))
        have ix5 : ∀ {σ : L2.St} {G : Hp} {k m : Nat} {v : V}, Ex H5 G → σ[5]? = some (some (.ref l5)) → σ[k]? = some (some (.int (m : Int))) → vs5[m]? = some v → Ev (tOp (rIxL K) (tVar 5) (tVar k)) σ G v := fun e i5 ik hv => ev_op (ev_var i5) (ev_var ik) (rv_ixL (sq_of (e _ _ h5)) (atI_nat hv))
        refine q_asg (ev_due10 (s := s) ot ou (ev_var rfl) (ix4 e57 rfl rfl hb) (ix4 e57 rfl rfl hc) (e57 _ _ (e5 _ _ h4l)) (e57 _ _ (e5 _ _ lb)) (e57 _ _ (e5 _ _ lc))) fun H8 e8 => ?_
        have e58 := e57.trans e8
        refine q_when (b := false) (et_is (et_or (ne_head (ev_sh ot ou (ix5 e58 rfl rfl hg) (ix5 e58 rfl rfl hg2) (upP _ _ _ _ e58 pg) (upP _ _ _ _ e58 pg2)) (ev_var rfl)) (fun _ => ne_head (ev_is (ev_sh ou ot (ix5 e58 rfl rfl hg2) (ix5 e58 rfl rfl hg) (upP _ _ _ _ e58 pg2) (upP _ _ _ _ e58 pg)) (by rw [due2_comm])) (ev_var rfl))) rfl) (fun z => by cases z) (fun _ H9 e9 => ?_)
        have e59 := e58.trans e9
        exact s_when (b := false) (ne_head (ev_is (ev_sh ot ot (ix5 e59 rfl rfl hg) (ix5 e59 rfl rfl hg) (upP _ _ _ _ e59 pg) (upP _ _ _ _ e59 pg)) (by rw [due2_self])) (ev_ll10 ot (ix5 e59 rfl rfl hg) (upP _ _ _ _ e59 pg))) (fun z => by cases z) (fun _ H10 e10 => ⟨_, _, _, _, rfl, e59.trans e10⟩)
      · rintro σ' H6 ⟨y6, y7, y8, y9, rfl, e6⟩
        exact ⟨_, _, _, _, _, _, _, _, _, rfl, e05.trans e6⟩
    · rintro σ' H1 ⟨y1, y2, y3, y4, y5, y6, y7, y8, y9, rfl, e1⟩
      exact s_ret ev_c fun H2 e2 => q H2

end
theorem all_mk {l : PySem.W.OpenLaw} {w : World} {K : PySem.W.Frag} {h : Heap} {mg : Str → Option Value} {fa : Addr} (X : K.In h) (G : h.Ns mainGlobals mg) (hfa : mg "law" = some (.ref fa))
    {C_Both : Addr}
    {C_Either : Addr}
    {C_Form : Addr}
    {f0 : Addr} {od0 an0 : Option Addr} {sl0 : Array (Option Value)} {oc0 kV0 dc0 pm0 cd0 ct0 : Value}
    {f1 : Addr} {od1 an1 : Option Addr} {sl1 : Array (Option Value)} {oc1 kV1 dc1 pm1 cd1 ct1 : Value}
    {f2 : Addr} {od2 an2 : Option Addr} {sl2 : Array (Option Value)} {oc2 kV2 dc2 pm2 cd2 ct2 : Value}
    {f3 : Addr} {od3 an3 : Option Addr} {sl3 : Array (Option Value)} {oc3 kV3 dc3 pm3 cd3 ct3 : Value}
    {f4 : Addr} {od4 an4 : Option Addr} {sl4 : Array (Option Value)} {oc4 kV4 dc4 pm4 cd4 ct4 : Value}
    {f5 : Addr} {od5 an5 : Option Addr} {sl5 : Array (Option Value)} {oc5 kV5 dc5 pm5 cd5 ct5 : Value}
    {f6 : Addr} {od6 an6 : Option Addr} {sl6 : Array (Option Value)} {oc6 kV6 dc6 pm6 cd6 ct6 : Value}
    {f7 : Addr} {od7 an7 : Option Addr} {sl7 : Array (Option Value)} {oc7 kV7 dc7 pm7 cd7 ct7 : Value}
    {f8 : Addr} {od8 an8 : Option Addr} {sl8 : Array (Option Value)} {oc8 kV8 dc8 pm8 cd8 ct8 : Value}
    {f9 : Addr} {od9 an9 : Option Addr} {sl9 : Array (Option Value)} {oc9 kV9 dc9 pm9 cd9 ct9 : Value}
    {f10 : Addr} {od10 an10 : Option Addr} {sl10 : Array (Option Value)} {oc10 kV10 dc10 pm10 cd10 ct10 : Value}
    {f11 : Addr} {od11 an11 : Option Addr} {sl11 : Array (Option Value)} {oc11 kV11 dc11 pm11 cd11 ct11 : Value}
    {f12 : Addr} {od12 an12 : Option Addr} {sl12 : Array (Option Value)} {oc12 kV12 dc12 pm12 cd12 ct12 : Value}
    {f13 : Addr} {od13 an13 : Option Addr} {sl13 : Array (Option Value)} {oc13 kV13 dc13 pm13 cd13 ct13 : Value}
    {f14 : Addr} {od14 an14 : Option Addr} {sl14 : Array (Option Value)} {oc14 kV14 dc14 pm14 cd14 ct14 : Value}
    {f15 : Addr} {od15 an15 : Option Addr} {sl15 : Array (Option Value)} {oc15 kV15 dc15 pm15 cd15 ct15 : Value}
    {f16 : Addr} {od16 an16 : Option Addr} {sl16 : Array (Option Value)} {oc16 kV16 dc16 pm16 cd16 ct16 : Value}
    {f17 : Addr} {od17 an17 : Option Addr} {sl17 : Array (Option Value)} {oc17 kV17 dc17 pm17 cd17 ct17 : Value}
    {f18 : Addr} {od18 an18 : Option Addr} {sl18 : Array (Option Value)} {oc18 kV18 dc18 pm18 cd18 ct18 : Value}
    {f19 : Addr} {od19 an19 : Option Addr} {sl19 : Array (Option Value)} {oc19 kV19 dc19 pm19 cd19 ct19 : Value}
    {f20 : Addr} {od20 an20 : Option Addr} {sl20 : Array (Option Value)} {oc20 kV20 dc20 pm20 cd20 ct20 : Value}
    {f21 : Addr} {od21 an21 : Option Addr} {sl21 : Array (Option Value)} {oc21 kV21 dc21 pm21 cd21 ct21 : Value}
    {f22 : Addr} {od22 an22 : Option Addr} {sl22 : Array (Option Value)} {oc22 kV22 dc22 pm22 cd22 ct22 : Value}
    {f23 : Addr} {od23 an23 : Option Addr} {sl23 : Array (Option Value)} {oc23 kV23 dc23 pm23 cd23 ct23 : Value}
    {f24 : Addr} {od24 an24 : Option Addr} {sl24 : Array (Option Value)} {oc24 kV24 dc24 pm24 cd24 ct24 : Value}
    {f25 : Addr} {od25 an25 : Option Addr} {sl25 : Array (Option Value)} {oc25 kV25 dc25 pm25 cd25 ct25 : Value}
    {f26 : Addr} {od26 an26 : Option Addr} {sl26 : Array (Option Value)} {oc26 kV26 dc26 pm26 cd26 ct26 : Value}
    {f27 : Addr} {od27 an27 : Option Addr} {sl27 : Array (Option Value)} {oc27 kV27 dc27 pm27 cd27 ct27 : Value}
    {f28 : Addr} {od28 an28 : Option Addr} {sl28 : Array (Option Value)} {oc28 kV28 dc28 pm28 cd28 ct28 : Value}
    {f29 : Addr} {od29 an29 : Option Addr} {sl29 : Array (Option Value)} {oc29 kV29 dc29 pm29 cd29 ct29 : Value}
    {f30 : Addr} {od30 an30 : Option Addr} {sl30 : Array (Option Value)} {oc30 kV30 dc30 pm30 cd30 ct30 : Value}
    {f31 : Addr} {od31 an31 : Option Addr} {sl31 : Array (Option Value)} {oc31 kV31 dc31 pm31 cd31 ct31 : Value}
    {f32 : Addr} {od32 an32 : Option Addr} {sl32 : Array (Option Value)} {oc32 kV32 dc32 pm32 cd32 ct32 : Value}
    {f33 : Addr} {od33 an33 : Option Addr} {sl33 : Array (Option Value)} {oc33 kV33 dc33 pm33 cd33 ct33 : Value}
    {f34 : Addr} {od34 an34 : Option Addr} {sl34 : Array (Option Value)} {oc34 kV34 dc34 pm34 cd34 ct34 : Value}
    {f35 : Addr} {od35 an35 : Option Addr} {sl35 : Array (Option Value)} {oc35 kV35 dc35 pm35 cd35 ct35 : Value}
    {f36 : Addr} {od36 an36 : Option Addr} {sl36 : Array (Option Value)} {oc36 kV36 dc36 pm36 cd36 ct36 : Value}
    {f37 : Addr} {od37 an37 : Option Addr} {sl37 : Array (Option Value)} {oc37 kV37 dc37 pm37 cd37 ct37 : Value}
    {f38 : Addr} {od38 an38 : Option Addr} {sl38 : Array (Option Value)} {oc38 kV38 dc38 pm38 cd38 ct38 : Value}
    {f39 : Addr} {od39 an39 : Option Addr} {sl39 : Array (Option Value)} {oc39 kV39 dc39 pm39 cd39 ct39 : Value}
    {f40 : Addr} {od40 an40 : Option Addr} {sl40 : Array (Option Value)} {oc40 kV40 dc40 pm40 cd40 ct40 : Value}
    {f41 : Addr} {od41 an41 : Option Addr} {sl41 : Array (Option Value)} {oc41 kV41 dc41 pm41 cd41 ct41 : Value}
    {f42 : Addr} {od42 an42 : Option Addr} {sl42 : Array (Option Value)} {oc42 kV42 dc42 pm42 cd42 ct42 : Value}
    {f43 : Addr} {od43 an43 : Option Addr} {sl43 : Array (Option Value)} {oc43 kV43 dc43 pm43 cd43 ct43 : Value}
    {f44 : Addr} {od44 an44 : Option Addr} {sl44 : Array (Option Value)} {oc44 kV44 dc44 pm44 cd44 ct44 : Value}
    {f45 : Addr} {od45 an45 : Option Addr} {sl45 : Array (Option Value)} {oc45 kV45 dc45 pm45 cd45 ct45 : Value}
    {f46 : Addr} {od46 an46 : Option Addr} {sl46 : Array (Option Value)} {oc46 kV46 dc46 pm46 cd46 ct46 : Value}
    {f47 : Addr} {od47 an47 : Option Addr} {sl47 : Array (Option Value)} {oc47 kV47 dc47 pm47 cd47 ct47 : Value}
    {f48 : Addr} {od48 an48 : Option Addr} {sl48 : Array (Option Value)} {oc48 kV48 dc48 pm48 cd48 ct48 : Value}
    {f49 : Addr} {od49 an49 : Option Addr} {sl49 : Array (Option Value)} {oc49 kV49 dc49 pm49 cd49 ct49 : Value}
    {f50 : Addr} {od50 an50 : Option Addr} {sl50 : Array (Option Value)} {oc50 kV50 dc50 pm50 cd50 ct50 : Value}
    {t_ANY_SIGNS : Tok}
    {t_DIGIT_SIGNS : Tok}
    {t_LETTER_SIGNS : Tok}
    {t_MOST_FORMS : Tok}
    {t_MOST_PARTS : Tok}
    {t_MOST_SIGNS : Tok}
    {a_OPEN_PARTS : Addr} {td_OPEN_PARTS : Option Addr} {tn_OPEN_PARTS : Nat} {tl_OPEN_PARTS : Array (Option Value)} {t_OPEN_PARTS_0 t_OPEN_PARTS_1 t_OPEN_PARTS_2 : Tok}
    {t_SIGNS : Tok}
    {t_SOME_DIGITS : Tok}
    {t_SOME_LETTERS : Tok}
    (a0 : PySem.W.nsIn K mainGlobals "_law_take" = some (some (.ref f0)))
    (l0 : K.lookup f0 = some ⟨oc0, od0, .func (PySem.W.fnOf "_law_take" "_law_take" (defArgs s__law_take) (defBody s__law_take) (defScope s__law_take) .none kV0 dc0 pm0 an0 cd0 ct0), sl0⟩)
    (c0 : PySem.W.codeIn K cd0 "_law_take" = true)
    (k0 : PySem.W.keepIn K (.ref f0) = true)
    (a1 : PySem.W.nsIn K mainGlobals "_law_pool" = some (some (.ref f1)))
    (l1 : K.lookup f1 = some ⟨oc1, od1, .func (PySem.W.fnOf "_law_pool" "_law_pool" (defArgs s__law_pool) (defBody s__law_pool) (defScope s__law_pool) .none kV1 dc1 pm1 an1 cd1 ct1), sl1⟩)
    (c1 : PySem.W.codeIn K cd1 "_law_pool" = true)
    (k1 : PySem.W.keepIn K (.ref f1) = true)
    (a2 : PySem.W.nsIn K mainGlobals "is_line" = some (some (.ref f2)))
    (l2 : K.lookup f2 = some ⟨oc2, od2, .func (PySem.W.fnOf "is_line" "is_line" (defArgs s_is_line) (defBody s_is_line) (defScope s_is_line) .none kV2 dc2 pm2 an2 cd2 ct2), sl2⟩)
    (c2 : PySem.W.codeIn K cd2 "is_line" = true)
    (k2 : PySem.W.keepIn K (.ref f2) = true)
    (a3 : PySem.W.nsIn K mainGlobals "_takes" = some (some (.ref f3)))
    (l3 : K.lookup f3 = some ⟨oc3, od3, .func (PySem.W.fnOf "_takes" "_takes" (defArgs s__takes) (defBody s__takes) (defScope s__takes) .none kV3 dc3 pm3 an3 cd3 ct3), sl3⟩)
    (c3 : PySem.W.codeIn K cd3 "_takes" = true)
    (k3 : PySem.W.keepIn K (.ref f3) = true)
    (a4 : PySem.W.nsIn K mainGlobals "_closed" = some (some (.ref f4)))
    (l4 : K.lookup f4 = some ⟨oc4, od4, .func (PySem.W.fnOf "_closed" "_closed" (defArgs s__closed) (defBody s__closed) (defScope s__closed) .none kV4 dc4 pm4 an4 cd4 ct4), sl4⟩)
    (c4 : PySem.W.codeIn K cd4 "_closed" = true)
    (k4 : PySem.W.keepIn K (.ref f4) = true)
    (a5 : PySem.W.nsIn K mainGlobals "started" = some (some (.ref f5)))
    (l5 : K.lookup f5 = some ⟨oc5, od5, .func (PySem.W.fnOf "started" "started" (defArgs s_started) (defBody s_started) (defScope s_started) .none kV5 dc5 pm5 an5 cd5 ct5), sl5⟩)
    (c5 : PySem.W.codeIn K cd5 "started" = true)
    (k5 : PySem.W.keepIn K (.ref f5) = true)
    (a6 : PySem.W.nsIn K mainGlobals "moved" = some (some (.ref f6)))
    (l6 : K.lookup f6 = some ⟨oc6, od6, .func (PySem.W.fnOf "moved" "moved" (defArgs s_moved) (defBody s_moved) (defScope s_moved) .none kV6 dc6 pm6 an6 cd6 ct6), sl6⟩)
    (c6 : PySem.W.codeIn K cd6 "moved" = true)
    (k6 : PySem.W.keepIn K (.ref f6) = true)
    (a7 : PySem.W.nsIn K mainGlobals "is_done" = some (some (.ref f7)))
    (l7 : K.lookup f7 = some ⟨oc7, od7, .func (PySem.W.fnOf "is_done" "is_done" (defArgs s_is_done) (defBody s_is_done) (defScope s_is_done) .none kV7 dc7 pm7 an7 cd7 ct7), sl7⟩)
    (c7 : PySem.W.codeIn K cd7 "is_done" = true)
    (k7 : PySem.W.keepIn K (.ref f7) = true)
    (a8 : PySem.W.nsIn K mainGlobals "cells_of" = some (some (.ref f8)))
    (l8 : K.lookup f8 = some ⟨oc8, od8, .func (PySem.W.fnOf "cells_of" "cells_of" (defArgs s_cells_of) (defBody s_cells_of) (defScope s_cells_of) .none kV8 dc8 pm8 an8 cd8 ct8), sl8⟩)
    (c8 : PySem.W.codeIn K cd8 "cells_of" = true)
    (k8 : PySem.W.keepIn K (.ref f8) = true)
    (a9 : PySem.W.nsIn K mainGlobals "_law_takes" = some (some (.ref f9)))
    (l9 : K.lookup f9 = some ⟨oc9, od9, .func (PySem.W.fnOf "_law_takes" "_law_takes" (defArgs s__law_takes) (defBody s__law_takes) (defScope s__law_takes) .none kV9 dc9 pm9 an9 cd9 ct9), sl9⟩)
    (c9 : PySem.W.codeIn K cd9 "_law_takes" = true)
    (k9 : PySem.W.keepIn K (.ref f9) = true)
    (a10 : PySem.W.nsIn K mainGlobals "_law_ends" = some (some (.ref f10)))
    (l10 : K.lookup f10 = some ⟨oc10, od10, .func (PySem.W.fnOf "_law_ends" "_law_ends" (defArgs s__law_ends) (defBody s__law_ends) (defScope s__law_ends) .none kV10 dc10 pm10 an10 cd10 ct10), sl10⟩)
    (c10 : PySem.W.codeIn K cd10 "_law_ends" = true)
    (k10 : PySem.W.keepIn K (.ref f10) = true)
    (a11 : PySem.W.nsIn K mainGlobals "_law_fits" = some (some (.ref f11)))
    (l11 : K.lookup f11 = some ⟨oc11, od11, .func (PySem.W.fnOf "_law_fits" "_law_fits" (defArgs s__law_fits) (defBody s__law_fits) (defScope s__law_fits) .none kV11 dc11 pm11 an11 cd11 ct11), sl11⟩)
    (c11 : PySem.W.codeIn K cd11 "_law_fits" = true)
    (k11 : PySem.W.keepIn K (.ref f11) = true)
    (a12 : PySem.W.nsIn K mainGlobals "_is_allowed" = some (some (.ref f12)))
    (l12 : K.lookup f12 = some ⟨oc12, od12, .func (PySem.W.fnOf "_is_allowed" "_is_allowed" (defArgs s__is_allowed) (defBody s__is_allowed) (defScope s__is_allowed) .none kV12 dc12 pm12 an12 cd12 ct12), sl12⟩)
    (c12 : PySem.W.codeIn K cd12 "_is_allowed" = true)
    (k12 : PySem.W.keepIn K (.ref f12) = true)
    (a13 : PySem.W.findIn K (.ref C_Form) "__init__" = some (some (.ref f13)))
    (l13 : K.lookup f13 = some ⟨oc13, od13, .func (PySem.W.fnOf "__init__" "Form.__init__" (defArgs s_Form___init__) (defBody s_Form___init__) (defScope s_Form___init__) .none kV13 dc13 pm13 an13 cd13 ct13), sl13⟩)
    (c13 : PySem.W.codeIn K cd13 "Form.__init__" = true)
    (k13 : PySem.W.keepIn K (.ref f13) = true)
    (i13 : PySem.W.isFn K (.ref f13) = true)
    (j13 : PySem.W.typeIn K (.ref f13) = some (.type "function"))
    (a14 : PySem.W.findIn K (.ref C_Form) "parts" = some (some (.ref f14)))
    (l14 : K.lookup f14 = some ⟨oc14, od14, .func (PySem.W.fnOf "parts" "Form.parts" (defArgs s_Form_parts) (defBody s_Form_parts) (defScope s_Form_parts) .none kV14 dc14 pm14 an14 cd14 ct14), sl14⟩)
    (c14 : PySem.W.codeIn K cd14 "Form.parts" = true)
    (k14 : PySem.W.keepIn K (.ref f14) = true)
    (i14 : PySem.W.isFn K (.ref f14) = true)
    (j14 : PySem.W.typeIn K (.ref f14) = some (.type "function"))
    (a15 : PySem.W.findIn K (.ref C_Form) "__contains__" = some (some (.ref f15)))
    (l15 : K.lookup f15 = some ⟨oc15, od15, .func (PySem.W.fnOf "__contains__" "Form.__contains__" (defArgs s_Form___contains__) (defBody s_Form___contains__) (defScope s_Form___contains__) .none kV15 dc15 pm15 an15 cd15 ct15), sl15⟩)
    (c15 : PySem.W.codeIn K cd15 "Form.__contains__" = true)
    (k15 : PySem.W.keepIn K (.ref f15) = true)
    (i15 : PySem.W.isFn K (.ref f15) = true)
    (j15 : PySem.W.typeIn K (.ref f15) = some (.type "function"))
    (a16 : PySem.W.nsIn K mainGlobals "signs_for" = some (some (.ref f16)))
    (l16 : K.lookup f16 = some ⟨oc16, od16, .func (PySem.W.fnOf "signs_for" "signs_for" (defArgs s_signs_for) (defBody s_signs_for) (defScope s_signs_for) .none kV16 dc16 pm16 an16 cd16 ct16), sl16⟩)
    (c16 : PySem.W.codeIn K cd16 "signs_for" = true)
    (k16 : PySem.W.keepIn K (.ref f16) = true)
    (a17 : PySem.W.nsIn K mainGlobals "numbered" = some (some (.ref f17)))
    (l17 : K.lookup f17 = some ⟨oc17, od17, .func (PySem.W.fnOf "numbered" "numbered" (defArgs s_numbered) (defBody s_numbered) (defScope s_numbered) .none kV17 dc17 pm17 an17 cd17 ct17), sl17⟩)
    (c17 : PySem.W.codeIn K cd17 "numbered" = true)
    (k17 : PySem.W.keepIn K (.ref f17) = true)
    (a18 : PySem.W.findIn K (.ref C_Form) "forms" = some (some (.ref f18)))
    (l18 : K.lookup f18 = some ⟨oc18, od18, .func (PySem.W.fnOf "forms" "Form.forms" (defArgs s_Form_forms) (defBody s_Form_forms) (defScope s_Form_forms) .none kV18 dc18 pm18 an18 cd18 ct18), sl18⟩)
    (c18 : PySem.W.codeIn K cd18 "Form.forms" = true)
    (k18 : PySem.W.keepIn K (.ref f18) = true)
    (i18 : PySem.W.isFn K (.ref f18) = true)
    (j18 : PySem.W.typeIn K (.ref f18) = some (.type "function"))
    (a19 : PySem.W.findIn K (.ref C_Form) "holds" = some (some (.ref f19)))
    (l19 : K.lookup f19 = some ⟨oc19, od19, .func (PySem.W.fnOf "holds" "Form.holds" (defArgs s_Form_holds) (defBody s_Form_holds) (defScope s_Form_holds) .none kV19 dc19 pm19 an19 cd19 ct19), sl19⟩)
    (c19 : PySem.W.codeIn K cd19 "Form.holds" = true)
    (k19 : PySem.W.keepIn K (.ref f19) = true)
    (i19 : PySem.W.isFn K (.ref f19) = true)
    (j19 : PySem.W.typeIn K (.ref f19) = some (.type "function"))
    (a20 : PySem.W.findIn K (.ref C_Form) "__str__" = some (some (.ref f20)))
    (l20 : K.lookup f20 = some ⟨oc20, od20, .func (PySem.W.fnOf "__str__" "Form.__str__" (defArgs s_Form___str__) (defBody s_Form___str__) (defScope s_Form___str__) .none kV20 dc20 pm20 an20 cd20 ct20), sl20⟩)
    (c20 : PySem.W.codeIn K cd20 "Form.__str__" = true)
    (k20 : PySem.W.keepIn K (.ref f20) = true)
    (i20 : PySem.W.isFn K (.ref f20) = true)
    (j20 : PySem.W.typeIn K (.ref f20) = some (.type "function"))
    (fm_Form : PySem.W.findIn K (.ref C_Form) "__format__" = some (some (.builtin "object.__format__"))) (ob_Form : PySem.W.mroIn K C_Form (.type "object") = some true)
    (a21 : PySem.W.findIn K (.ref C_Both) "forms" = some (some (.ref f21)))
    (l21 : K.lookup f21 = some ⟨oc21, od21, .func (PySem.W.fnOf "forms" "Both.forms" (defArgs s_Both_forms) (defBody s_Both_forms) (defScope s_Both_forms) .none kV21 dc21 pm21 an21 cd21 ct21), sl21⟩)
    (c21 : PySem.W.codeIn K cd21 "Both.forms" = true)
    (k21 : PySem.W.keepIn K (.ref f21) = true)
    (i21 : PySem.W.isFn K (.ref f21) = true)
    (j21 : PySem.W.typeIn K (.ref f21) = some (.type "function"))
    (a22 : PySem.W.findIn K (.ref C_Both) "holds" = some (some (.ref f22)))
    (l22 : K.lookup f22 = some ⟨oc22, od22, .func (PySem.W.fnOf "holds" "Both.holds" (defArgs s_Both_holds) (defBody s_Both_holds) (defScope s_Both_holds) .none kV22 dc22 pm22 an22 cd22 ct22), sl22⟩)
    (c22 : PySem.W.codeIn K cd22 "Both.holds" = true)
    (k22 : PySem.W.keepIn K (.ref f22) = true)
    (i22 : PySem.W.isFn K (.ref f22) = true)
    (j22 : PySem.W.typeIn K (.ref f22) = some (.type "function"))
    (a23 : PySem.W.findIn K (.ref C_Both) "__contains__" = some (some (.ref f23)))
    (l23 : K.lookup f23 = some ⟨oc23, od23, .func (PySem.W.fnOf "__contains__" "Both.__contains__" (defArgs s_Both___contains__) (defBody s_Both___contains__) (defScope s_Both___contains__) .none kV23 dc23 pm23 an23 cd23 ct23), sl23⟩)
    (c23 : PySem.W.codeIn K cd23 "Both.__contains__" = true)
    (k23 : PySem.W.keepIn K (.ref f23) = true)
    (i23 : PySem.W.isFn K (.ref f23) = true)
    (j23 : PySem.W.typeIn K (.ref f23) = some (.type "function"))
    (a24 : PySem.W.findIn K (.ref C_Both) "__str__" = some (some (.ref f24)))
    (l24 : K.lookup f24 = some ⟨oc24, od24, .func (PySem.W.fnOf "__str__" "Both.__str__" (defArgs s_Both___str__) (defBody s_Both___str__) (defScope s_Both___str__) .none kV24 dc24 pm24 an24 cd24 ct24), sl24⟩)
    (c24 : PySem.W.codeIn K cd24 "Both.__str__" = true)
    (k24 : PySem.W.keepIn K (.ref f24) = true)
    (i24 : PySem.W.isFn K (.ref f24) = true)
    (j24 : PySem.W.typeIn K (.ref f24) = some (.type "function"))
    (fm_Both : PySem.W.findIn K (.ref C_Both) "__format__" = some (some (.builtin "object.__format__"))) (ob_Both : PySem.W.mroIn K C_Both (.type "object") = some true)
    (a25 : PySem.W.findIn K (.ref C_Either) "forms" = some (some (.ref f25)))
    (l25 : K.lookup f25 = some ⟨oc25, od25, .func (PySem.W.fnOf "forms" "Either.forms" (defArgs s_Either_forms) (defBody s_Either_forms) (defScope s_Either_forms) .none kV25 dc25 pm25 an25 cd25 ct25), sl25⟩)
    (c25 : PySem.W.codeIn K cd25 "Either.forms" = true)
    (k25 : PySem.W.keepIn K (.ref f25) = true)
    (i25 : PySem.W.isFn K (.ref f25) = true)
    (j25 : PySem.W.typeIn K (.ref f25) = some (.type "function"))
    (a26 : PySem.W.findIn K (.ref C_Either) "holds" = some (some (.ref f26)))
    (l26 : K.lookup f26 = some ⟨oc26, od26, .func (PySem.W.fnOf "holds" "Either.holds" (defArgs s_Either_holds) (defBody s_Either_holds) (defScope s_Either_holds) .none kV26 dc26 pm26 an26 cd26 ct26), sl26⟩)
    (c26 : PySem.W.codeIn K cd26 "Either.holds" = true)
    (k26 : PySem.W.keepIn K (.ref f26) = true)
    (i26 : PySem.W.isFn K (.ref f26) = true)
    (j26 : PySem.W.typeIn K (.ref f26) = some (.type "function"))
    (a27 : PySem.W.findIn K (.ref C_Either) "__contains__" = some (some (.ref f27)))
    (l27 : K.lookup f27 = some ⟨oc27, od27, .func (PySem.W.fnOf "__contains__" "Either.__contains__" (defArgs s_Either___contains__) (defBody s_Either___contains__) (defScope s_Either___contains__) .none kV27 dc27 pm27 an27 cd27 ct27), sl27⟩)
    (c27 : PySem.W.codeIn K cd27 "Either.__contains__" = true)
    (k27 : PySem.W.keepIn K (.ref f27) = true)
    (i27 : PySem.W.isFn K (.ref f27) = true)
    (j27 : PySem.W.typeIn K (.ref f27) = some (.type "function"))
    (a28 : PySem.W.findIn K (.ref C_Either) "__str__" = some (some (.ref f28)))
    (l28 : K.lookup f28 = some ⟨oc28, od28, .func (PySem.W.fnOf "__str__" "Either.__str__" (defArgs s_Either___str__) (defBody s_Either___str__) (defScope s_Either___str__) .none kV28 dc28 pm28 an28 cd28 ct28), sl28⟩)
    (c28 : PySem.W.codeIn K cd28 "Either.__str__" = true)
    (k28 : PySem.W.keepIn K (.ref f28) = true)
    (i28 : PySem.W.isFn K (.ref f28) = true)
    (j28 : PySem.W.typeIn K (.ref f28) = some (.type "function"))
    (fm_Either : PySem.W.findIn K (.ref C_Either) "__format__" = some (some (.builtin "object.__format__"))) (ob_Either : PySem.W.mroIn K C_Either (.type "object") = some true)
    (a29 : PySem.W.nsIn K mainGlobals "_held" = some (some (.ref f29)))
    (l29 : K.lookup f29 = some ⟨oc29, od29, .func (PySem.W.fnOf "_held" "_held" (defArgs s__held) (defBody s__held) (defScope s__held) .none kV29 dc29 pm29 an29 cd29 ct29), sl29⟩)
    (c29 : PySem.W.codeIn K cd29 "_held" = true)
    (k29 : PySem.W.keepIn K (.ref f29) = true)
    (a30 : PySem.W.nsIn K mainGlobals "truths" = some (some (.ref f30)))
    (l30 : K.lookup f30 = some ⟨oc30, od30, .func (PySem.W.fnOf "truths" "truths" (defArgs s_truths) (defBody s_truths) (defScope s_truths) .none kV30 dc30 pm30 an30 cd30 ct30), sl30⟩)
    (c30 : PySem.W.codeIn K cd30 "truths" = true)
    (k30 : PySem.W.keepIn K (.ref f30) = true)
    (a31 : PySem.W.nsIn K mainGlobals "_may_hold" = some (some (.ref f31)))
    (l31 : K.lookup f31 = some ⟨oc31, od31, .func (PySem.W.fnOf "_may_hold" "_may_hold" (defArgs s__may_hold) (defBody s__may_hold) (defScope s__may_hold) .none kV31 dc31 pm31 an31 cd31 ct31), sl31⟩)
    (c31 : PySem.W.codeIn K cd31 "_may_hold" = true)
    (k31 : PySem.W.keepIn K (.ref f31) = true)
    (a32 : PySem.W.nsIn K mainGlobals "_fitting" = some (some (.ref f32)))
    (l32 : K.lookup f32 = some ⟨oc32, od32, .func (PySem.W.fnOf "_fitting" "_fitting" (defArgs s__fitting) (defBody s__fitting) (defScope s__fitting) .none kV32 dc32 pm32 an32 cd32 ct32), sl32⟩)
    (c32 : PySem.W.codeIn K cd32 "_fitting" = true)
    (k32 : PySem.W.keepIn K (.ref f32) = true)
    (a33 : PySem.W.nsIn K mainGlobals "_least" = some (some (.ref f33)))
    (l33 : K.lookup f33 = some ⟨oc33, od33, .func (PySem.W.fnOf "_least" "_least" (defArgs s__least) (defBody s__least) (defScope s__least) .none kV33 dc33 pm33 an33 cd33 ct33), sl33⟩)
    (c33 : PySem.W.codeIn K cd33 "_least" = true)
    (k33 : PySem.W.keepIn K (.ref f33) = true)
    (a34 : PySem.W.nsIn K mainGlobals "least_line" = some (some (.ref f34)))
    (l34 : K.lookup f34 = some ⟨oc34, od34, .func (PySem.W.fnOf "least_line" "least_line" (defArgs s_least_line) (defBody s_least_line) (defScope s_least_line) .none kV34 dc34 pm34 an34 cd34 ct34), sl34⟩)
    (c34 : PySem.W.codeIn K cd34 "least_line" = true)
    (k34 : PySem.W.keepIn K (.ref f34) = true)
    (a35 : PySem.W.nsIn K mainGlobals "shared_line" = some (some (.ref f35)))
    (l35 : K.lookup f35 = some ⟨oc35, od35, .func (PySem.W.fnOf "shared_line" "shared_line" (defArgs s_shared_line) (defBody s_shared_line) (defScope s_shared_line) .none kV35 dc35 pm35 an35 cd35 ct35), sl35⟩)
    (c35 : PySem.W.codeIn K cd35 "shared_line" = true)
    (k35 : PySem.W.keepIn K (.ref f35) = true)
    (a36 : PySem.W.nsIn K mainGlobals "_check_room" = some (some (.ref f36)))
    (l36 : K.lookup f36 = some ⟨oc36, od36, .func (PySem.W.fnOf "_check_room" "_check_room" (defArgs s__check_room) (defBody s__check_room) (defScope s__check_room) .none kV36 dc36 pm36 an36 cd36 ct36), sl36⟩)
    (c36 : PySem.W.codeIn K cd36 "_check_room" = true)
    (k36 : PySem.W.keepIn K (.ref f36) = true)
    (a37 : PySem.W.findIn K (.ref C_Both) "__init__" = some (some (.ref f37)))
    (l37 : K.lookup f37 = some ⟨oc37, od37, .func (PySem.W.fnOf "__init__" "Both.__init__" (defArgs s_Both___init__) (defBody s_Both___init__) (defScope s_Both___init__) .none kV37 dc37 pm37 an37 cd37 ct37), sl37⟩)
    (c37 : PySem.W.codeIn K cd37 "Both.__init__" = true)
    (k37 : PySem.W.keepIn K (.ref f37) = true)
    (i37 : PySem.W.isFn K (.ref f37) = true)
    (j37 : PySem.W.typeIn K (.ref f37) = some (.type "function"))
    (a38 : PySem.W.findIn K (.ref C_Either) "__init__" = some (some (.ref f38)))
    (l38 : K.lookup f38 = some ⟨oc38, od38, .func (PySem.W.fnOf "__init__" "Either.__init__" (defArgs s_Either___init__) (defBody s_Either___init__) (defScope s_Either___init__) .none kV38 dc38 pm38 an38 cd38 ct38), sl38⟩)
    (c38 : PySem.W.codeIn K cd38 "Either.__init__" = true)
    (k38 : PySem.W.keepIn K (.ref f38) = true)
    (i38 : PySem.W.isFn K (.ref f38) = true)
    (j38 : PySem.W.typeIn K (.ref f38) = some (.type "function"))
    (a39 : PySem.W.findIn K (.ref C_Form) "__and__" = some (some (.ref f39)))
    (l39 : K.lookup f39 = some ⟨oc39, od39, .func (PySem.W.fnOf "__and__" "Form.__and__" (defArgs s_Form___and__) (defBody s_Form___and__) (defScope s_Form___and__) .none kV39 dc39 pm39 an39 cd39 ct39), sl39⟩)
    (c39 : PySem.W.codeIn K cd39 "Form.__and__" = true)
    (k39 : PySem.W.keepIn K (.ref f39) = true)
    (i39 : PySem.W.isFn K (.ref f39) = true)
    (j39 : PySem.W.typeIn K (.ref f39) = some (.type "function"))
    (fs_Form : PySem.W.selfFirst K C_Form = true)
    (rv39 : PySem.W.findIn K (.ref C_Form) "__rand__" = some none)
    (a40 : PySem.W.findIn K (.ref C_Form) "__or__" = some (some (.ref f40)))
    (l40 : K.lookup f40 = some ⟨oc40, od40, .func (PySem.W.fnOf "__or__" "Form.__or__" (defArgs s_Form___or__) (defBody s_Form___or__) (defScope s_Form___or__) .none kV40 dc40 pm40 an40 cd40 ct40), sl40⟩)
    (c40 : PySem.W.codeIn K cd40 "Form.__or__" = true)
    (k40 : PySem.W.keepIn K (.ref f40) = true)
    (i40 : PySem.W.isFn K (.ref f40) = true)
    (j40 : PySem.W.typeIn K (.ref f40) = some (.type "function"))
    (rv40 : PySem.W.findIn K (.ref C_Form) "__ror__" = some none)
    (a41 : PySem.W.findIn K (.ref C_Both) "__and__" = some (some (.ref f41)))
    (l41 : K.lookup f41 = some ⟨oc41, od41, .func (PySem.W.fnOf "__and__" "Both.__and__" (defArgs s_Both___and__) (defBody s_Both___and__) (defScope s_Both___and__) .none kV41 dc41 pm41 an41 cd41 ct41), sl41⟩)
    (c41 : PySem.W.codeIn K cd41 "Both.__and__" = true)
    (k41 : PySem.W.keepIn K (.ref f41) = true)
    (i41 : PySem.W.isFn K (.ref f41) = true)
    (j41 : PySem.W.typeIn K (.ref f41) = some (.type "function"))
    (fs_Both : PySem.W.selfFirst K C_Both = true)
    (rv41 : PySem.W.findIn K (.ref C_Both) "__rand__" = some none)
    (a42 : PySem.W.findIn K (.ref C_Both) "__or__" = some (some (.ref f42)))
    (l42 : K.lookup f42 = some ⟨oc42, od42, .func (PySem.W.fnOf "__or__" "Both.__or__" (defArgs s_Both___or__) (defBody s_Both___or__) (defScope s_Both___or__) .none kV42 dc42 pm42 an42 cd42 ct42), sl42⟩)
    (c42 : PySem.W.codeIn K cd42 "Both.__or__" = true)
    (k42 : PySem.W.keepIn K (.ref f42) = true)
    (i42 : PySem.W.isFn K (.ref f42) = true)
    (j42 : PySem.W.typeIn K (.ref f42) = some (.type "function"))
    (rv42 : PySem.W.findIn K (.ref C_Both) "__ror__" = some none)
    (a43 : PySem.W.nsIn K mainGlobals "_law_signs" = some (some (.ref f43)))
    (l43 : K.lookup f43 = some ⟨oc43, od43, .func (PySem.W.fnOf "_law_signs" "_law_signs" (defArgs s__law_signs) (defBody s__law_signs) (defScope s__law_signs) .none kV43 dc43 pm43 an43 cd43 ct43), sl43⟩)
    (c43 : PySem.W.codeIn K cd43 "_law_signs" = true)
    (k43 : PySem.W.keepIn K (.ref f43) = true)
    (a44 : PySem.W.nsIn K mainGlobals "_law_parts" = some (some (.ref f44)))
    (l44 : K.lookup f44 = some ⟨oc44, od44, .func (PySem.W.fnOf "_law_parts" "_law_parts" (defArgs s__law_parts) (defBody s__law_parts) (defScope s__law_parts) .none kV44 dc44 pm44 an44 cd44 ct44), sl44⟩)
    (c44 : PySem.W.codeIn K cd44 "_law_parts" = true)
    (k44 : PySem.W.keepIn K (.ref f44) = true)
    (a45 : PySem.W.nsIn K mainGlobals "_law_pattern" = some (some (.ref f45)))
    (l45 : K.lookup f45 = some ⟨oc45, od45, .func (PySem.W.fnOf "_law_pattern" "_law_pattern" (defArgs s__law_pattern) (defBody s__law_pattern) (defScope s__law_pattern) .none kV45 dc45 pm45 an45 cd45 ct45), sl45⟩)
    (c45 : PySem.W.codeIn K cd45 "_law_pattern" = true)
    (k45 : PySem.W.keepIn K (.ref f45) = true)
    (a46 : PySem.W.nsIn K mainGlobals "_law_lines" = some (some (.ref f46)))
    (l46 : K.lookup f46 = some ⟨oc46, od46, .func (PySem.W.fnOf "_law_lines" "_law_lines" (defArgs s__law_lines) (defBody s__law_lines) (defScope s__law_lines) .none kV46 dc46 pm46 an46 cd46 ct46), sl46⟩)
    (c46 : PySem.W.codeIn K cd46 "_law_lines" = true)
    (k46 : PySem.W.keepIn K (.ref f46) = true)
    (a47 : PySem.W.nsIn K mainGlobals "_law_made" = some (some (.ref f47)))
    (l47 : K.lookup f47 = some ⟨oc47, od47, .func (PySem.W.fnOf "_law_made" "_law_made" (defArgs s__law_made) (defBody s__law_made) (defScope s__law_made) .none kV47 dc47 pm47 an47 cd47 ct47), sl47⟩)
    (c47 : PySem.W.codeIn K cd47 "_law_made" = true)
    (k47 : PySem.W.keepIn K (.ref f47) = true)
    (a48 : PySem.W.nsIn K mainGlobals "_law_bears" = some (some (.ref f48)))
    (l48 : K.lookup f48 = some ⟨oc48, od48, .func (PySem.W.fnOf "_law_bears" "_law_bears" (defArgs s__law_bears) (defBody s__law_bears) (defScope s__law_bears) .none kV48 dc48 pm48 an48 cd48 ct48), sl48⟩)
    (c48 : PySem.W.codeIn K cd48 "_law_bears" = true)
    (k48 : PySem.W.keepIn K (.ref f48) = true)
    (a49 : PySem.W.nsIn K mainGlobals "_law_due" = some (some (.ref f49)))
    (l49 : K.lookup f49 = some ⟨oc49, od49, .func (PySem.W.fnOf "_law_due" "_law_due" (defArgs s__law_due) (defBody s__law_due) (defScope s__law_due) .none kV49 dc49 pm49 an49 cd49 ct49), sl49⟩)
    (c49 : PySem.W.codeIn K cd49 "_law_due" = true)
    (k49 : PySem.W.keepIn K (.ref f49) = true)
    (a50 : PySem.W.nsIn K mainGlobals "law" = some (some (.ref f50)))
    (l50 : K.lookup f50 = some ⟨oc50, od50, .func (PySem.W.fnOf "law" "law" (defArgs s_law) (defBody s_law) (defScope s_law) .none kV50 dc50 pm50 an50 cd50 ct50), sl50⟩)
    (c50 : PySem.W.codeIn K cd50 "law" = true)
    (k50 : PySem.W.keepIn K (.ref f50) = true)
    (z_ANY_SIGNS : PySem.W.nsIn K mainGlobals "ANY_SIGNS" = some (some (.str ((Str.ofString "<any>")) t_ANY_SIGNS)))
    (z_DIGIT_SIGNS : PySem.W.nsIn K mainGlobals "DIGIT_SIGNS" = some (some (.str ((Str.ofString "0123456789")) t_DIGIT_SIGNS)))
    (z_LETTER_SIGNS : PySem.W.nsIn K mainGlobals "LETTER_SIGNS" = some (some (.str ((Str.ofString "ABCDEFGHIJKLMNOPQRSTUVWXYZabcdefghijklmnopqrstuvwxyz")) t_LETTER_SIGNS)))
    (z_MOST_FORMS : PySem.W.nsIn K mainGlobals "MOST_FORMS" = some (some (.int (3) t_MOST_FORMS)))
    (z_MOST_PARTS : PySem.W.nsIn K mainGlobals "MOST_PARTS" = some (some (.int (4) t_MOST_PARTS)))
    (z_MOST_SIGNS : PySem.W.nsIn K mainGlobals "MOST_SIGNS" = some (some (.int (4) t_MOST_SIGNS)))
    (z_OPEN_PARTS : PySem.W.nsIn K mainGlobals "OPEN_PARTS" = some (some (.ref a_OPEN_PARTS)))
    (y_OPEN_PARTS : K.lookup a_OPEN_PARTS = some ⟨.type "tuple", td_OPEN_PARTS, .seq #[.str (Str.ofString "<digits>") t_OPEN_PARTS_0, .str (Str.ofString "<word>") t_OPEN_PARTS_1, .str (Str.ofString "<any>") t_OPEN_PARTS_2] tn_OPEN_PARTS, tl_OPEN_PARTS⟩)
    (z_SIGNS : PySem.W.nsIn K mainGlobals "SIGNS" = some (some (.str ((Str.ofString " #-.0123456789:>ABCDEFGHIJKLMNOPQRSTUVWXYZabcdefghijklmnopqrstuvwxyz")) t_SIGNS)))
    (z_SOME_DIGITS : PySem.W.nsIn K mainGlobals "SOME_DIGITS" = some (some (.str ((Str.ofString "<digits>")) t_SOME_DIGITS)))
    (z_SOME_LETTERS : PySem.W.nsIn K mainGlobals "SOME_LETTERS" = some (some (.str ((Str.ofString "<word>")) t_SOME_LETTERS)))
    (z_all : PySem.W.nsIn K mainGlobals "all" = some none)
    (z_enumerate : PySem.W.nsIn K mainGlobals "enumerate" = some none)
    (z_int : PySem.W.nsIn K mainGlobals "int" = some none)
    (z_isinstance : PySem.W.nsIn K mainGlobals "isinstance" = some none)
    (z_len : PySem.W.nsIn K mainGlobals "len" = some none)
    (z_list : PySem.W.nsIn K mainGlobals "list" = some none)
    (z_max : PySem.W.nsIn K mainGlobals "max" = some none)
    (z_min : PySem.W.nsIn K mainGlobals "min" = some none)
    (z_range : PySem.W.nsIn K mainGlobals "range" = some none)
    (z_set : PySem.W.nsIn K mainGlobals "set" = some none)
    (z_sorted : PySem.W.nsIn K mainGlobals "sorted" = some none)
    (z_str : PySem.W.nsIn K mainGlobals "str" = some none)
    (z_tuple : PySem.W.nsIn K mainGlobals "tuple" = some none)
    (z_zip : PySem.W.nsIn K mainGlobals "zip" = some none)
    (aC_Both : PySem.W.nsIn K mainGlobals "Both" = some (some (.ref C_Both)))
    (aC_Either : PySem.W.nsIn K mainGlobals "Either" = some (some (.ref C_Either)))
    (aC_Form : PySem.W.nsIn K mainGlobals "Form" = some (some (.ref C_Form)))
    (pg_Both : PySem.W.plainGet K C_Both Str.empty = true) (hd_Both : PySem.W.hasDictIn K C_Both = true) (po_Both : PySem.W.plainOver K C_Both = true) (sa_Both : PySem.W.findIn K (.ref C_Both) "__setattr__" = some (some (.builtin "object.__setattr__"))) (mk_Both : PySem.W.makesIn K C_Both = true) (kc_Both : PySem.W.keepIn K (.ref C_Both) = true)
    (n_Both__one : PySem.W.findIn K (.ref C_Both) "_one" = some none)
    (n_Both__other : PySem.W.findIn K (.ref C_Both) "_other" = some none)
    (pg_Either : PySem.W.plainGet K C_Either Str.empty = true) (hd_Either : PySem.W.hasDictIn K C_Either = true) (po_Either : PySem.W.plainOver K C_Either = true) (sa_Either : PySem.W.findIn K (.ref C_Either) "__setattr__" = some (some (.builtin "object.__setattr__"))) (mk_Either : PySem.W.makesIn K C_Either = true) (kc_Either : PySem.W.keepIn K (.ref C_Either) = true)
    (n_Either__one : PySem.W.findIn K (.ref C_Either) "_one" = some none)
    (n_Either__other : PySem.W.findIn K (.ref C_Either) "_other" = some none)
    (pg_Form : PySem.W.plainGet K C_Form Str.empty = true) (hd_Form : PySem.W.hasDictIn K C_Form = true) (po_Form : PySem.W.plainOver K C_Form = true) (sa_Form : PySem.W.findIn K (.ref C_Form) "__setattr__" = some (some (.builtin "object.__setattr__"))) (mk_Form : PySem.W.makesIn K C_Form = true) (kc_Form : PySem.W.keepIn K (.ref C_Form) = true)
    (n_Form__cells : PySem.W.findIn K (.ref C_Form) "_cells" = some none)
    (n_Form__parts : PySem.W.findIn K (.ref C_Form) "_parts" = some none)
    : ∃ fd : FuncData, (∀ (s : Shared) (v : Value), BindsTo s fd ⟨[v], []⟩ [("script", v)]) ∧ ∀ base : Heap, K.In base → base.Ns mainGlobals mg → FnOk l.prog w K mg base CX0 9 fa fd ["script"] (spLaw K) := by
  have e := hfa.symm.trans (PySem.W.mg_of X G a50)
  cases e
  have T : Txt K mg a_OPEN_PARTS C_Both C_Either C_Form := { c_ANY_SIGNS := ⟨_, PySem.W.mg_of X G z_ANY_SIGNS, ⟨_, rfl⟩⟩, c_DIGIT_SIGNS := ⟨_, PySem.W.mg_of X G z_DIGIT_SIGNS, ⟨_, rfl⟩⟩, c_LETTER_SIGNS := ⟨_, PySem.W.mg_of X G z_LETTER_SIGNS, ⟨_, rfl⟩⟩, c_MOST_FORMS := ⟨_, PySem.W.mg_of X G z_MOST_FORMS, ⟨_, rfl⟩⟩, c_MOST_PARTS := ⟨_, PySem.W.mg_of X G z_MOST_PARTS, ⟨_, rfl⟩⟩, c_MOST_SIGNS := ⟨_, PySem.W.mg_of X G z_MOST_SIGNS, ⟨_, rfl⟩⟩, c_OPEN_PARTS := ⟨_, PySem.W.mg_of X G z_OPEN_PARTS, rfl⟩, o_OPEN_PARTS := ⟨_, _, _, y_OPEN_PARTS, rfl, rfl, sz_of (by simp), (.cons ⟨_, rfl⟩ (.cons ⟨_, rfl⟩ (.cons ⟨_, rfl⟩ .nil)))⟩, c_SIGNS := ⟨_, PySem.W.mg_of X G z_SIGNS, ⟨_, rfl⟩⟩, c_SOME_DIGITS := ⟨_, PySem.W.mg_of X G z_SOME_DIGITS, ⟨_, rfl⟩⟩, c_SOME_LETTERS := ⟨_, PySem.W.mg_of X G z_SOME_LETTERS, ⟨_, rfl⟩⟩, n_all := PySem.W.mg_none_of X G z_all, n_enumerate := PySem.W.mg_none_of X G z_enumerate, n_int := PySem.W.mg_none_of X G z_int, n_isinstance := PySem.W.mg_none_of X G z_isinstance, n_len := PySem.W.mg_none_of X G z_len, n_list := PySem.W.mg_none_of X G z_list, n_max := PySem.W.mg_none_of X G z_max, n_min := PySem.W.mg_none_of X G z_min, n_range := PySem.W.mg_none_of X G z_range, n_set := PySem.W.mg_none_of X G z_set, n_sorted := PySem.W.mg_none_of X G z_sorted, n_str := PySem.W.mg_none_of X G z_str, n_tuple := PySem.W.mg_none_of X G z_tuple, n_zip := PySem.W.mg_none_of X G z_zip, k_Both := ⟨pg_Both, hd_Both, po_Both, sa_Both⟩, a_Both__one := n_Both__one, a_Both__other := n_Both__other, k_Either := ⟨pg_Either, hd_Either, po_Either, sa_Either⟩, a_Either__one := n_Either__one, a_Either__other := n_Either__other, k_Form := ⟨pg_Form, hd_Form, po_Form, sa_Form⟩, a_Form__cells := n_Form__cells, a_Form__parts := n_Form__parts }
  have F0 := fun_mk (st := s__law_take) l0 c0 k0
  have b0 := F0.binds (ps := ["pool", "many"]) fun _ _ _ _ _ _ us hl => match us, hl with | [_, _], _ => rfl
  have F1 := fun_mk (st := s__law_pool) l1 c1 k1
  have b1 := F1.binds (ps := ["script", "k"]) fun _ _ _ _ _ _ us hl => match us, hl with | [_, _], _ => rfl
  have F2 := fun_mk (st := s_is_line) l2 c2 k2
  have b2 := F2.binds (ps := ["thing"]) fun _ _ _ _ _ _ us hl => match us, hl with | [_], _ => rfl
  have F3 := fun_mk (st := s__takes) l3 c3 k3
  have b3 := F3.binds (ps := ["cell", "sign"]) fun _ _ _ _ _ _ us hl => match us, hl with | [_, _], _ => rfl
  have F4 := fun_mk (st := s__closed) l4 c4 k4
  have b4 := F4.binds (ps := ["cells", "positions"]) fun _ _ _ _ _ _ us hl => match us, hl with | [_, _], _ => rfl
  have F5 := fun_mk (st := s_started) l5 c5 k5
  have b5 := F5.binds (ps := ["cells"]) fun _ _ _ _ _ _ us hl => match us, hl with | [_], _ => rfl
  have F6 := fun_mk (st := s_moved) l6 c6 k6
  have b6 := F6.binds (ps := ["cells", "positions", "sign"]) fun _ _ _ _ _ _ us hl => match us, hl with | [_, _, _], _ => rfl
  have F7 := fun_mk (st := s_is_done) l7 c7 k7
  have b7 := F7.binds (ps := ["cells", "positions"]) fun _ _ _ _ _ _ us hl => match us, hl with | [_, _], _ => rfl
  have F8 := fun_mk (st := s_cells_of) l8 c8 k8
  have b8 := F8.binds (ps := ["parts"]) fun _ _ _ _ _ _ us hl => match us, hl with | [_], _ => rfl
  have F9 := fun_mk (st := s__law_takes) l9 c9 k9
  have b9 := F9.binds (ps := ["part", "sign"]) fun _ _ _ _ _ _ us hl => match us, hl with | [_, _], _ => rfl
  have F10 := fun_mk (st := s__law_ends) l10 c10 k10
  have b10 := F10.binds (ps := ["part", "line", "at"]) fun _ _ _ _ _ _ us hl => match us, hl with | [_, _, _], _ => rfl
  have F11 := fun_mk (st := s__law_fits) l11 c11 k11
  have b11 := F11.binds (ps := ["parts", "line"]) fun _ _ _ _ _ _ us hl => match us, hl with | [_, _], _ => rfl
  have F12 := fun_mk (st := s__is_allowed) l12 c12 k12
  have b12 := F12.binds (ps := ["parts", "at"]) fun _ _ _ _ _ _ us hl => match us, hl with | [_, _], _ => rfl
  have F13 := fun_mk (st := s_Form___init__) l13 c13 k13
  have F14 := fun_mk (st := s_Form_parts) l14 c14 k14
  have b14 := F14.binds (ps := ["self"]) fun _ _ _ _ _ _ us hl => match us, hl with | [_], _ => rfl
  have F15 := fun_mk (st := s_Form___contains__) l15 c15 k15
  have b15 := F15.binds (ps := ["self", "line"]) fun _ _ _ _ _ _ us hl => match us, hl with | [_, _], _ => rfl
  have F16 := fun_mk (st := s_signs_for) l16 c16 k16
  have b16 := F16.binds (ps := ["forms"]) fun _ _ _ _ _ _ us hl => match us, hl with | [_], _ => rfl
  have F17 := fun_mk (st := s_numbered) l17 c17 k17
  have b17 := F17.binds (ps := ["form", "signs"]) fun _ _ _ _ _ _ us hl => match us, hl with | [_, _], _ => rfl
  have F18 := fun_mk (st := s_Form_forms) l18 c18 k18
  have b18 := F18.binds (ps := ["self"]) fun _ _ _ _ _ _ us hl => match us, hl with | [_], _ => rfl
  have F19 := fun_mk (st := s_Form_holds) l19 c19 k19
  have b19 := F19.binds (ps := ["self", "truths"]) fun _ _ _ _ _ _ us hl => match us, hl with | [_, _], _ => rfl
  have F20 := fun_mk (st := s_Form___str__) l20 c20 k20
  have b20 := F20.binds (ps := ["self"]) fun _ _ _ _ _ _ us hl => match us, hl with | [_], _ => rfl
  have F21 := fun_mk (st := s_Both_forms) l21 c21 k21
  have b21 := F21.binds (ps := ["self"]) fun _ _ _ _ _ _ us hl => match us, hl with | [_], _ => rfl
  have F22 := fun_mk (st := s_Both_holds) l22 c22 k22
  have b22 := F22.binds (ps := ["self", "truths"]) fun _ _ _ _ _ _ us hl => match us, hl with | [_, _], _ => rfl
  have F23 := fun_mk (st := s_Both___contains__) l23 c23 k23
  have b23 := F23.binds (ps := ["self", "line"]) fun _ _ _ _ _ _ us hl => match us, hl with | [_, _], _ => rfl
  have F24 := fun_mk (st := s_Both___str__) l24 c24 k24
  have b24 := F24.binds (ps := ["self"]) fun _ _ _ _ _ _ us hl => match us, hl with | [_], _ => rfl
  have F25 := fun_mk (st := s_Either_forms) l25 c25 k25
  have b25 := F25.binds (ps := ["self"]) fun _ _ _ _ _ _ us hl => match us, hl with | [_], _ => rfl
  have F26 := fun_mk (st := s_Either_holds) l26 c26 k26
  have b26 := F26.binds (ps := ["self", "truths"]) fun _ _ _ _ _ _ us hl => match us, hl with | [_, _], _ => rfl
  have F27 := fun_mk (st := s_Either___contains__) l27 c27 k27
  have b27 := F27.binds (ps := ["self", "line"]) fun _ _ _ _ _ _ us hl => match us, hl with | [_, _], _ => rfl
  have F28 := fun_mk (st := s_Either___str__) l28 c28 k28
  have b28 := F28.binds (ps := ["self"]) fun _ _ _ _ _ _ us hl => match us, hl with | [_], _ => rfl
  have F29 := fun_mk (st := s__held) l29 c29 k29
  have b29 := F29.binds (ps := ["patterns", "told"]) fun _ _ _ _ _ _ us hl => match us, hl with | [_, _], _ => rfl
  have F30 := fun_mk (st := s_truths) l30 c30 k30
  have b30 := F30.binds (ps := ["forms", "state"]) fun _ _ _ _ _ _ us hl => match us, hl with | [_, _], _ => rfl
  have F31 := fun_mk (st := s__may_hold) l31 c31 k31
  have b31 := F31.binds (ps := ["goals", "state"]) fun _ _ _ _ _ _ us hl => match us, hl with | [_, _], _ => rfl
  have F32 := fun_mk (st := s__fitting) l32 c32 k32
  have b32 := F32.binds (ps := ["goals", "marks", "only_first"]) fun _ _ _ _ _ _ us hl => match us, hl with | [_, _, _], _ => rfl
  have F33 := fun_mk (st := s__least) l33 c33 k33
  have b33 := F33.binds (ps := ["goals"]) fun _ _ _ _ _ _ us hl => match us, hl with | [_], _ => rfl
  have F34 := fun_mk (st := s_least_line) l34 c34 k34
  have b34 := F34.binds (ps := ["pattern"]) fun _ _ _ _ _ _ us hl => match us, hl with | [_], _ => rfl
  have F35 := fun_mk (st := s_shared_line) l35 c35 k35
  have b35 := F35.binds (ps := ["one", "other"]) fun _ _ _ _ _ _ us hl => match us, hl with | [_, _], _ => rfl
  have F36 := fun_mk (st := s__check_room) l36 c36 k36
  have b36 := F36.binds (ps := ["one", "other"]) fun _ _ _ _ _ _ us hl => match us, hl with | [_, _], _ => rfl
  have F37 := fun_mk (st := s_Both___init__) l37 c37 k37
  have b37 := F37.binds (ps := ["self", "one", "other"]) fun _ _ _ _ _ _ us hl => match us, hl with | [_, _, _], _ => rfl
  have F38 := fun_mk (st := s_Either___init__) l38 c38 k38
  have b38 := F38.binds (ps := ["self", "one", "other"]) fun _ _ _ _ _ _ us hl => match us, hl with | [_, _, _], _ => rfl
  have F39 := fun_mk (st := s_Form___and__) l39 c39 k39
  have b39 := F39.binds (ps := ["self", "other"]) fun _ _ _ _ _ _ us hl => match us, hl with | [_, _], _ => rfl
  have F40 := fun_mk (st := s_Form___or__) l40 c40 k40
  have b40 := F40.binds (ps := ["self", "other"]) fun _ _ _ _ _ _ us hl => match us, hl with | [_, _], _ => rfl
  have F41 := fun_mk (st := s_Both___and__) l41 c41 k41
  have b41 := F41.binds (ps := ["self", "other"]) fun _ _ _ _ _ _ us hl => match us, hl with | [_, _], _ => rfl
  have F42 := fun_mk (st := s_Both___or__) l42 c42 k42
  have b42 := F42.binds (ps := ["self", "other"]) fun _ _ _ _ _ _ us hl => match us, hl with | [_, _], _ => rfl
  have F43 := fun_mk (st := s__law_signs) l43 c43 k43
  have b43 := F43.binds (ps := ["pool"]) fun _ _ _ _ _ _ us hl => match us, hl with | [_], _ => rfl
  have F44 := fun_mk (st := s__law_parts) l44 c44 k44
  have b44 := F44.binds (ps := ["signs", "number"]) fun _ _ _ _ _ _ us hl => match us, hl with | [_, _], _ => rfl
  have F45 := fun_mk (st := s__law_pattern) l45 c45 k45
  have b45 := F45.binds (ps := ["pool"]) fun _ _ _ _ _ _ us hl => match us, hl with | [_], _ => rfl
  have F46 := fun_mk (st := s__law_lines) l46 c46 k46
  have b46 := F46.binds (ps := ["signs"]) fun _ _ _ _ _ _ us hl => match us, hl with | [_], _ => rfl
  have F47 := fun_mk (st := s__law_made) l47 c47 k47
  have b47 := F47.binds (ps := ["signs", "pattern"]) fun _ _ _ _ _ _ us hl => match us, hl with | [_, _], _ => rfl
  have F48 := fun_mk (st := s__law_bears) l48 c48 k48
  have b48 := F48.binds (ps := ["signs", "pattern", "line"]) fun _ _ _ _ _ _ us hl => match us, hl with | [_, _, _], _ => rfl
  have F49 := fun_mk (st := s__law_due) l49 c49 k49
  have b49 := F49.binds (ps := ["signs", "one", "other"]) fun _ _ _ _ _ _ us hl => match us, hl with | [_, _, _], _ => rfl
  have F50 := fun_mk (st := s_law) l50 c50 k50
  refine ⟨PySem.W.fnOf "law" "law" (defArgs s_law) (defBody s_law) (defScope s_law) .none kV50 dc50 pm50 an50 cd50 ct50, fun s v => .of_eq rfl, fun base _ _ => ?_⟩
  have D__law_take : Df l.prog w K mg base "_law_take" ["pool", "many"] 1 spTake := ⟨f0, _, PySem.W.mg_of X G a0, k0, b0, ok__law_take F0 T⟩
  have D__law_pool : Df l.prog w K mg base "_law_pool" ["script", "k"] 1 (spPool K) := ⟨f1, _, PySem.W.mg_of X G a1, k1, b1, ok__law_pool F1 T⟩
  have D_is_line : Df l.prog w K mg base "is_line" ["thing"] 1 (spIsLine K) := ⟨f2, _, PySem.W.mg_of X G a2, k2, b2, ok_is_line F2 T⟩
  have D__takes : Df l.prog w K mg base "_takes" ["cell", "sign"] 1 spTakes := ⟨f3, _, PySem.W.mg_of X G a3, k3, b3, ok__takes F3 T⟩
  have D__closed : Df l.prog w K mg base "_closed" ["cells", "positions"] 1 (spClosed K) := ⟨f4, _, PySem.W.mg_of X G a4, k4, b4, ok__closed F4 T⟩
  have D_started : Df l.prog w K mg base "started" ["cells"] 2 (spStarted K) := ⟨f5, _, PySem.W.mg_of X G a5, k5, b5, ok_started F5 T D__closed⟩
  have D_moved : Df l.prog w K mg base "moved" ["cells", "positions", "sign"] 2 (spMoved K) := ⟨f6, _, PySem.W.mg_of X G a6, k6, b6, ok_moved F6 T D__takes D__closed⟩
  have D_is_done : Df l.prog w K mg base "is_done" ["cells", "positions"] 1 (spIsDone K) := ⟨f7, _, PySem.W.mg_of X G a7, k7, b7, ok_is_done F7 T⟩
  have D_cells_of : Df l.prog w K mg base "cells_of" ["parts"] 1 (spCells K) := ⟨f8, _, PySem.W.mg_of X G a8, k8, b8, ok_cells_of F8 T⟩
  have D_cells_of__t : Df l.prog w K mg base "cells_of" ["parts"] 1 (spCellsT K) := ⟨f8, _, PySem.W.mg_of X G a8, k8, b8, ok_cells_of__t F8 T⟩
  have D__law_takes : Df l.prog w K mg base "_law_takes" ["part", "sign"] 1 spLtakes := ⟨f9, _, PySem.W.mg_of X G a9, k9, b9, ok__law_takes F9⟩
  have D__law_ends : Df l.prog w K mg base "_law_ends" ["part", "line", "at"] 2 spEnds := ⟨f10, _, PySem.W.mg_of X G a10, k10, b10, ok__law_ends F10 T D__law_takes⟩
  have D__law_fits : Df l.prog w K mg base "_law_fits" ["parts", "line"] 3 (spFits K) := ⟨f11, _, PySem.W.mg_of X G a11, k11, b11, ok__law_fits F11 T D__law_ends⟩
  have D__is_allowed : Df l.prog w K mg base "_is_allowed" ["parts", "at"] 2 (spAllowed K) := ⟨f12, _, PySem.W.mg_of X G a12, k12, b12, ok__is_allowed F12 T D_is_line⟩
  have D_Form___init__ : DfS l.prog w K mg base "Form" C_Form 3 (spForm C_Form) := ⟨f13, ⟨mk_Form, a13, i13, kc_Form⟩, PySem.W.mg_of X G aC_Form, ok_Form___init__ F13 T D__is_allowed D_cells_of__t⟩
  have D_Form_parts : DfM l.prog w K mg base C_Form "parts" ["self"] 1 (spParts C_Form) := ⟨f14, _, ⟨a14, i14, k14⟩, b14, ok_Form_parts F14 T⟩
  have D_Form___contains__ : DfC l.prog w K mg base C_Form "__contains__" ["self", "line"] 3 (spIn C_Form) := ⟨f15, _, a15, j15, b15, ok_Form___contains__ F15 T D_is_line D_started D_moved D_is_done⟩
  have D_signs_for : Df l.prog w K mg base "signs_for" ["forms"] 2 (spSigns K C_Form) := ⟨f16, _, PySem.W.mg_of X G a16, k16, b16, ok_signs_for F16 T D_cells_of__t D_Form_parts⟩
  have D_numbered : Df l.prog w K mg base "numbered" ["form", "signs"] 3 (spNumbered K C_Form) := ⟨f17, _, PySem.W.mg_of X G a17, k17, b17, ok_numbered F17 T D_cells_of__t D_started D_moved D_Form_parts⟩
  have D_Form_forms : DfM l.prog w K mg base C_Form "forms" ["self"] 1 (spForms C_Form C_Both C_Either none 0) := ⟨f18, _, ⟨a18, i18, k18⟩, b18, ok_Form_forms F18 T⟩
  have D_Form_holds : DfM l.prog w K mg base C_Form "holds" ["self", "truths"] 1 (spHolds K C_Form C_Both C_Either none 0) := ⟨f19, _, ⟨a19, i19, k19⟩, b19, ok_Form_holds F19 T⟩
  have D_Form___str__ : DfSt l.prog w K mg base C_Form ["self"] 1 (spStrP C_Form C_Both C_Either none 0) := ⟨f20, _, ⟨⟨a20, i20⟩, fm_Form, ob_Form⟩, b20, ok_Form___str__ F20 T⟩
  have D_Both_forms__v1 : DfM l.prog w K mg base C_Both "forms" ["self"] 2 (spForms C_Form C_Both C_Either (some true) 1) := ⟨f21, _, ⟨a21, i21, k21⟩, b21, ok_Both_forms__v1 F21 T D_Form_forms⟩
  have D_Both_holds__v1 : DfM l.prog w K mg base C_Both "holds" ["self", "truths"] 2 (spHolds K C_Form C_Both C_Either (some true) 1) := ⟨f22, _, ⟨a22, i22, k22⟩, b22, ok_Both_holds__v1 F22 T D_Form_forms D_Form_holds⟩
  have D_Both___contains____v1 : DfC l.prog w K mg base C_Both "__contains__" ["self", "line"] 4 (spInP C_Form C_Both C_Either (some true) 1) := ⟨f23, _, a23, j23, b23, ok_Both___contains____v1 F23 T D_Form___contains__⟩
  have D_Both___str____v1 : DfSt l.prog w K mg base C_Both ["self"] 3 (spStrP C_Form C_Both C_Either (some true) 1) := ⟨f24, _, ⟨⟨a24, i24⟩, fm_Both, ob_Both⟩, b24, ok_Both___str____v1 F24 T D_Form___str__⟩
  have D_Either_forms__v1 : DfM l.prog w K mg base C_Either "forms" ["self"] 2 (spForms C_Form C_Both C_Either (some false) 1) := ⟨f25, _, ⟨a25, i25, k25⟩, b25, ok_Either_forms__v1 F25 T D_Form_forms⟩
  have D_Either_holds__v1 : DfM l.prog w K mg base C_Either "holds" ["self", "truths"] 2 (spHolds K C_Form C_Both C_Either (some false) 1) := ⟨f26, _, ⟨a26, i26, k26⟩, b26, ok_Either_holds__v1 F26 T D_Form_forms D_Form_holds⟩
  have D_Either___contains____v1 : DfC l.prog w K mg base C_Either "__contains__" ["self", "line"] 4 (spInP C_Form C_Both C_Either (some false) 1) := ⟨f27, _, a27, j27, b27, ok_Either___contains____v1 F27 T D_Form___contains__⟩
  have D_Either___str____v1 : DfSt l.prog w K mg base C_Either ["self"] 3 (spStrP C_Form C_Both C_Either (some false) 1) := ⟨f28, _, ⟨⟨a28, i28⟩, fm_Either, ob_Either⟩, b28, ok_Either___str____v1 F28 T D_Form___str__⟩
  have D_Both_forms__v2 : DfM l.prog w K mg base C_Both "forms" ["self"] 3 (spForms C_Form C_Both C_Either (some true) 2) := ⟨f21, _, ⟨a21, i21, k21⟩, b21, ok_Both_forms__v2 F21 T D_Form_forms D_Both_forms__v1 D_Either_forms__v1⟩
  have D_Both_holds__v2 : DfM l.prog w K mg base C_Both "holds" ["self", "truths"] 3 (spHolds K C_Form C_Both C_Either (some true) 2) := ⟨f22, _, ⟨a22, i22, k22⟩, b22, ok_Both_holds__v2 F22 T D_Form_forms D_Both_forms__v1 D_Either_forms__v1 D_Form_holds D_Both_holds__v1 D_Either_holds__v1⟩
  have D_Both___contains____v2 : DfC l.prog w K mg base C_Both "__contains__" ["self", "line"] 5 (spInP C_Form C_Both C_Either (some true) 2) := ⟨f23, _, a23, j23, b23, ok_Both___contains____v2 F23 T D_Form___contains__ D_Both___contains____v1 D_Either___contains____v1⟩
  have D_Both___str____v2 : DfSt l.prog w K mg base C_Both ["self"] 5 (spStrP C_Form C_Both C_Either (some true) 2) := ⟨f24, _, ⟨⟨a24, i24⟩, fm_Both, ob_Both⟩, b24, ok_Both___str____v2 F24 T D_Form___str__ D_Both___str____v1 D_Either___str____v1⟩
  have D_Either_forms__v2 : DfM l.prog w K mg base C_Either "forms" ["self"] 3 (spForms C_Form C_Both C_Either (some false) 2) := ⟨f25, _, ⟨a25, i25, k25⟩, b25, ok_Either_forms__v2 F25 T D_Form_forms D_Both_forms__v1 D_Either_forms__v1⟩
  have D_Either_holds__v2 : DfM l.prog w K mg base C_Either "holds" ["self", "truths"] 3 (spHolds K C_Form C_Both C_Either (some false) 2) := ⟨f26, _, ⟨a26, i26, k26⟩, b26, ok_Either_holds__v2 F26 T D_Form_forms D_Both_forms__v1 D_Either_forms__v1 D_Form_holds D_Both_holds__v1 D_Either_holds__v1⟩
  have D_Either___contains____v2 : DfC l.prog w K mg base C_Either "__contains__" ["self", "line"] 5 (spInP C_Form C_Both C_Either (some false) 2) := ⟨f27, _, a27, j27, b27, ok_Either___contains____v2 F27 T D_Form___contains__ D_Both___contains____v1 D_Either___contains____v1⟩
  have D_Either___str____v2 : DfSt l.prog w K mg base C_Either ["self"] 5 (spStrP C_Form C_Both C_Either (some false) 2) := ⟨f28, _, ⟨⟨a28, i28⟩, fm_Either, ob_Either⟩, b28, ok_Either___str____v2 F28 T D_Form___str__ D_Both___str____v1 D_Either___str____v1⟩
  have D__held : Df l.prog w K mg base "_held" ["patterns", "told"] 4 (spHeld K C_Form C_Both C_Either 2) := ⟨f29, _, PySem.W.mg_of X G a29, k29, b29, ok__held F29 T D_Form_forms D_Both_forms__v2 D_Either_forms__v2 D_Form_holds D_Both_holds__v2 D_Either_holds__v2⟩
  have D_truths : Df l.prog w K mg base "truths" ["forms", "state"] 2 (spTruthsL K C_Form) := ⟨f30, _, PySem.W.mg_of X G a30, k30, b30, ok_truths F30 T D_cells_of__t D_is_done D_Form_parts⟩
  have D__may_hold : Df l.prog w K mg base "_may_hold" ["goals", "state"] 5 (spMay K C_Form C_Both C_Either 2) := ⟨f31, _, PySem.W.mg_of X G a31, k31, b31, ok__may_hold F31 T D__held⟩
  have D__fitting : Df l.prog w K mg base "_fitting" ["goals", "marks", "only_first"] 6 (spFit K C_Form C_Both C_Either 2) := ⟨f32, _, PySem.W.mg_of X G a32, k32, b32, ok__fitting F32 T D_Form_forms D_Both_forms__v2 D_Either_forms__v2 D_signs_for D_numbered D__held D__may_hold D_truths⟩
  have D__least : Df l.prog w K mg base "_least" ["goals"] 7 (spLeast K C_Form C_Both C_Either 2) := ⟨f33, _, PySem.W.mg_of X G a33, k33, b33, ok__least F33 T D__fitting⟩
  have D_least_line : Df l.prog w K mg base "least_line" ["pattern"] 8 (spLL C_Form C_Both C_Either 2) := ⟨f34, _, PySem.W.mg_of X G a34, k34, b34, ok_least_line F34 T D__least⟩
  have D_shared_line : Df l.prog w K mg base "shared_line" ["one", "other"] 8 (spShared C_Form C_Both C_Either 2) := ⟨f35, _, PySem.W.mg_of X G a35, k35, b35, ok_shared_line F35 T D__least⟩
  have D__check_room : Df l.prog w K mg base "_check_room" ["one", "other"] 4 (spRoom0 C_Form C_Both C_Either) := ⟨f36, _, PySem.W.mg_of X G a36, k36, b36, ok__check_room F36 T D_Form_forms D_Both_forms__v2 D_Either_forms__v2⟩
  have D_Both___init__ : DfI l.prog w K mg base "Both" C_Both ["self", "one", "other"] 5 (spPair0 C_Both C_Form C_Both C_Either) := ⟨f37, _, ⟨mk_Both, a37, i37, kc_Both⟩, PySem.W.mg_of X G aC_Both, b37, ok_Both___init__ F37 T D__check_room⟩
  have D_Either___init__ : DfI l.prog w K mg base "Either" C_Either ["self", "one", "other"] 5 (spPair0 C_Either C_Form C_Both C_Either) := ⟨f38, _, ⟨mk_Either, a38, i38, kc_Either⟩, PySem.W.mg_of X G aC_Either, b38, ok_Either___init__ F38 T D__check_room⟩
  have D_Form___and__ : DfO l.prog w K mg base "and" C_Form ["self", "other"] 7 (spJoin0 true C_Form C_Both C_Either) := ⟨f39, _, ⟨fs_Form, a39, i39, rv39⟩, b39, fnok_cx (ok_Form___and__ F39 T D_Both___init__)⟩
  have D_Form___or__ : DfO l.prog w K mg base "or" C_Form ["self", "other"] 7 (spJoin0 false C_Form C_Both C_Either) := ⟨f40, _, ⟨fs_Form, a40, i40, rv40⟩, b40, fnok_cx (ok_Form___or__ F40 T D_Either___init__)⟩
  have D_Both___and__ : DfO l.prog w K mg base "and" C_Both ["self", "other"] 7 (spJoin0 true C_Form C_Both C_Either) := ⟨f41, _, ⟨fs_Both, a41, i41, rv41⟩, b41, fnok_cx (ok_Both___and__ F41 T D_Both___init__)⟩
  have D_Both___or__ : DfO l.prog w K mg base "or" C_Both ["self", "other"] 7 (spJoin0 false C_Form C_Both C_Either) := ⟨f42, _, ⟨fs_Both, a42, i42, rv42⟩, b42, fnok_cx (ok_Both___or__ F42 T D_Either___init__)⟩
  have D__law_signs : Df l.prog w K mg base "_law_signs" ["pool"] 2 spSigns5 := ⟨f43, _, PySem.W.mg_of X G a43, k43, b43, ok__law_signs F43 T D__law_take⟩
  have D__law_parts : Df l.prog w K mg base "_law_parts" ["signs", "number"] 1 (spMenu K) := ⟨f44, _, PySem.W.mg_of X G a44, k44, b44, ok__law_parts F44 T⟩
  have D__law_pattern : Df l.prog w K mg base "_law_pattern" ["pool"] 2 spPat := ⟨f45, _, PySem.W.mg_of X G a45, k45, b45, ok__law_pattern F45 T D__law_take⟩
  have D__law_lines : Df l.prog w K mg base "_law_lines" ["signs"] 1 (spLines K) := ⟨f46, _, PySem.W.mg_of X G a46, k46, b46, ok__law_lines F46 T⟩
  have D__law_made : Df l.prog w K mg base "_law_made" ["signs", "pattern"] 8 (spMade K C_Form C_Both C_Either) := ⟨f47, _, PySem.W.mg_of X G a47, k47, b47, ok__law_made F47 T D__law_parts D_Form___init__ D_Form___and__ D_Form___or__⟩
  have D__law_bears : Df l.prog w K mg base "_law_bears" ["signs", "pattern", "line"] 4 (spBears K) := ⟨f48, _, PySem.W.mg_of X G a48, k48, b48, ok__law_bears F48 T D__law_parts D__law_fits⟩
  have D__law_due : Df l.prog w K mg base "_law_due" ["signs", "one", "other"] 5 (spDue10 K) := ⟨f49, _, PySem.W.mg_of X G a49, k49, b49, ok__law_due F49 T D__law_lines D__law_bears⟩
  exact ok_law F50 T D__law_pool D__law_signs D__law_pattern D__law_made D_least_line D_shared_line D__law_due
theorem walk {l : PySem.W.OpenLaw} {q : Program} {loose : List Str} {XP : (Str → Option Value) → Heap → Prop} {YP : World → Heap → Prop} {d : DefRec} {K : Params → PySem.W.Frag} (hn : l.most = some 63) (hdf : d.params.defaults = [])
    (hY : ∀ (w : World) (h : Heap), YP w h → (K w.params).In h)
    (F : ∀ (w : World) (mg : Str → Option Value) (fa : Addr) (h : Heap), (K w.params).In h → h.Ns mainGlobals mg → mg d.name = some (.ref fa) →
      ∃ fd : FuncData, (∀ (s : Shared) (u : Value), BindsTo s fd ⟨[u], []⟩ [("script", u)]) ∧ ∀ base : Heap, (K w.params).In base → base.Ns mainGlobals mg → FnOk l.prog w (K w.params) mg base CX0 9 fa fd ["script"] (spLaw (K w.params))) :
    PySem.W.WalkO q loose XP YP l.row.toRowW d [] (fun f vs => PySem.call f vs) :=
  L2.walk_of (n := 63) (k := 9) (x := "script") (CX := fun _ => CX0) (sp := fun w => spLaw (K w.params)) hn (by decide) hdf ⟨rfl, by decide, by decide⟩ hY F (fun _ _ a ns hl _ hS => ⟨a, ns, rfl, hS, hl, fun _ => rfl⟩) fun _ _ _ _ _ z => z
end Q

open PySem PySem.W PyProof.Rows in
set_option maxRecDepth 100000 in
set_option maxHeartbeats 0 in
theorem PySem.Challenge.cw_gluedlines_k10_shared_lines_holds : PySem.Challenge.rw_gluedlines_k10_shared_lines.Holds := by
  w_on; o_law; k_head; (case hw => w_witness2)
  k_fill
  refine Q.walk (l := PySem.Challenge.rw_gluedlines_k10_shared_lines) rfl rfl (fun w h Y => PySem.W.kIn_of Y) ?F
  case F =>
    intro w mg fa h KX G hmg
    refine' Q.all_mk KX G hmg ?a0 ?l0 ?c0 ?k0 ?a1 ?l1 ?c1 ?k1 ?a2 ?l2 ?c2 ?k2 ?a3 ?l3 ?c3 ?k3 ?a4 ?l4 ?c4 ?k4 ?a5 ?l5 ?c5 ?k5 ?a6 ?l6 ?c6 ?k6 ?a7 ?l7 ?c7 ?k7 ?a8 ?l8 ?c8 ?k8 ?a9 ?l9 ?c9 ?k9 ?a10 ?l10 ?c10 ?k10 ?a11 ?l11 ?c11 ?k11 ?a12 ?l12 ?c12 ?k12 ?a13 ?l13 ?c13 ?k13 ?i13 ?j13 ?a14 ?l14 ?c14 ?k14 ?i14 ?j14 ?a15 ?l15 ?c15 ?k15 ?i15 ?j15 ?a16 ?l16 ?c16 ?k16 ?a17 ?l17 ?c17 ?k17 ?a18 ?l18 ?c18 ?k18 ?i18 ?j18 ?a19 ?l19 ?c19 ?k19 ?i19 ?j19 ?a20 ?l20 ?c20 ?k20 ?i20 ?j20 ?fm_Form ?ob_Form ?a21 ?l21 ?c21 ?k21 ?i21 ?j21 ?a22 ?l22 ?c22 ?k22 ?i22 ?j22 ?a23 ?l23 ?c23 ?k23 ?i23 ?j23 ?a24 ?l24 ?c24 ?k24 ?i24 ?j24 ?fm_Both ?ob_Both ?a25 ?l25 ?c25 ?k25 ?i25 ?j25 ?a26 ?l26 ?c26 ?k26 ?i26 ?j26 ?a27 ?l27 ?c27 ?k27 ?i27 ?j27 ?a28 ?l28 ?c28 ?k28 ?i28 ?j28 ?fm_Either ?ob_Either ?a29 ?l29 ?c29 ?k29 ?a30 ?l30 ?c30 ?k30 ?a31 ?l31 ?c31 ?k31 ?a32 ?l32 ?c32 ?k32 ?a33 ?l33 ?c33 ?k33 ?a34 ?l34 ?c34 ?k34 ?a35 ?l35 ?c35 ?k35 ?a36 ?l36 ?c36 ?k36 ?a37 ?l37 ?c37 ?k37 ?i37 ?j37 ?a38 ?l38 ?c38 ?k38 ?i38 ?j38 ?a39 ?l39 ?c39 ?k39 ?i39 ?j39 ?fs_Form ?rv39 ?a40 ?l40 ?c40 ?k40 ?i40 ?j40 ?rv40 ?a41 ?l41 ?c41 ?k41 ?i41 ?j41 ?fs_Both ?rv41 ?a42 ?l42 ?c42 ?k42 ?i42 ?j42 ?rv42 ?a43 ?l43 ?c43 ?k43 ?a44 ?l44 ?c44 ?k44 ?a45 ?l45 ?c45 ?k45 ?a46 ?l46 ?c46 ?k46 ?a47 ?l47 ?c47 ?k47 ?a48 ?l48 ?c48 ?k48 ?a49 ?l49 ?c49 ?k49 ?a50 ?l50 ?c50 ?k50 ?z_ANY_SIGNS ?z_DIGIT_SIGNS ?z_LETTER_SIGNS ?z_MOST_FORMS ?z_MOST_PARTS ?z_MOST_SIGNS ?z_OPEN_PARTS ?y_OPEN_PARTS ?z_SIGNS ?z_SOME_DIGITS ?z_SOME_LETTERS ?z_all ?z_enumerate ?z_int ?z_isinstance ?z_len ?z_list ?z_max ?z_min ?z_range ?z_set ?z_sorted ?z_str ?z_tuple ?z_zip ?aC_Both ?aC_Either ?aC_Form ?pg_Both ?hd_Both ?po_Both ?sa_Both ?mk_Both ?kc_Both ?n_Both__one ?n_Both__other ?pg_Either ?hd_Either ?po_Either ?sa_Either ?mk_Either ?kc_Either ?n_Either__one ?n_Either__other ?pg_Form ?hd_Form ?po_Form ?sa_Form ?mk_Form ?kc_Form ?n_Form__cells ?n_Form__parts
    (case aC_Both => k_is)
    (case aC_Either => k_is)
    (case aC_Form => k_is)
    (case pg_Both => k_is)
    (case hd_Both => k_is)
    (case po_Both => k_is)
    (case sa_Both => k_is)
    (case mk_Both => k_is)
    (case kc_Both => k_is)
    (case n_Both__one => k_is)
    (case n_Both__other => k_is)
    (case pg_Either => k_is)
    (case hd_Either => k_is)
    (case po_Either => k_is)
    (case sa_Either => k_is)
    (case mk_Either => k_is)
    (case kc_Either => k_is)
    (case n_Either__one => k_is)
    (case n_Either__other => k_is)
    (case pg_Form => k_is)
    (case hd_Form => k_is)
    (case po_Form => k_is)
    (case sa_Form => k_is)
    (case mk_Form => k_is)
    (case kc_Form => k_is)
    (case n_Form__cells => k_is)
    (case n_Form__parts => k_is)
    (case a0 => k_is)
    (case l0 => k_is)
    (case c0 => k_is)
    (case k0 => k_is)
    (case a1 => k_is)
    (case l1 => k_is)
    (case c1 => k_is)
    (case k1 => k_is)
    (case a2 => k_is)
    (case l2 => k_is)
    (case c2 => k_is)
    (case k2 => k_is)
    (case a3 => k_is)
    (case l3 => k_is)
    (case c3 => k_is)
    (case k3 => k_is)
    (case a4 => k_is)
    (case l4 => k_is)
    (case c4 => k_is)
    (case k4 => k_is)
    (case a5 => k_is)
    (case l5 => k_is)
    (case c5 => k_is)
    (case k5 => k_is)
    (case a6 => k_is)
    (case l6 => k_is)
    (case c6 => k_is)
    (case k6 => k_is)
    (case a7 => k_is)
    (case l7 => k_is)
    (case c7 => k_is)
    (case k7 => k_is)
    (case a8 => k_is)
    (case l8 => k_is)
    (case c8 => k_is)
    (case k8 => k_is)
    (case a9 => k_is)
    (case l9 => k_is)
    (case c9 => k_is)
    (case k9 => k_is)
    (case a10 => k_is)
    (case l10 => k_is)
    (case c10 => k_is)
    (case k10 => k_is)
    (case a11 => k_is)
    (case l11 => k_is)
    (case c11 => k_is)
    (case k11 => k_is)
    (case a12 => k_is)
    (case l12 => k_is)
    (case c12 => k_is)
    (case k12 => k_is)
    (case a13 => k_is)
    (case l13 => k_is)
    (case c13 => k_is)
    (case k13 => k_is)
    (case i13 => k_is)
    (case j13 => k_is)
    (case a14 => k_is)
    (case l14 => k_is)
    (case c14 => k_is)
    (case k14 => k_is)
    (case i14 => k_is)
    (case j14 => k_is)
    (case a15 => k_is)
    (case l15 => k_is)
    (case c15 => k_is)
    (case k15 => k_is)
    (case i15 => k_is)
    (case j15 => k_is)
    (case a16 => k_is)
    (case l16 => k_is)
    (case c16 => k_is)
    (case k16 => k_is)
    (case a17 => k_is)
    (case l17 => k_is)
    (case c17 => k_is)
    (case k17 => k_is)
    (case a18 => k_is)
    (case l18 => k_is)
    (case c18 => k_is)
    (case k18 => k_is)
    (case i18 => k_is)
    (case j18 => k_is)
    (case a19 => k_is)
    (case l19 => k_is)
    (case c19 => k_is)
    (case k19 => k_is)
    (case i19 => k_is)
    (case j19 => k_is)
    (case a20 => k_is)
    (case l20 => k_is)
    (case c20 => k_is)
    (case k20 => k_is)
    (case i20 => k_is)
    (case j20 => k_is)
    (case fm_Form => k_is)
    (case ob_Form => k_is)
    (case a21 => k_is)
    (case l21 => k_is)
    (case c21 => k_is)
    (case k21 => k_is)
    (case i21 => k_is)
    (case j21 => k_is)
    (case a22 => k_is)
    (case l22 => k_is)
    (case c22 => k_is)
    (case k22 => k_is)
    (case i22 => k_is)
    (case j22 => k_is)
    (case a23 => k_is)
    (case l23 => k_is)
    (case c23 => k_is)
    (case k23 => k_is)
    (case i23 => k_is)
    (case j23 => k_is)
    (case a24 => k_is)
    (case l24 => k_is)
    (case c24 => k_is)
    (case k24 => k_is)
    (case i24 => k_is)
    (case j24 => k_is)
    (case fm_Both => k_is)
    (case ob_Both => k_is)
    (case a25 => k_is)
    (case l25 => k_is)
    (case c25 => k_is)
    (case k25 => k_is)
    (case i25 => k_is)
    (case j25 => k_is)
    (case a26 => k_is)
    (case l26 => k_is)
    (case c26 => k_is)
    (case k26 => k_is)
    (case i26 => k_is)
    (case j26 => k_is)
    (case a27 => k_is)
    (case l27 => k_is)
    (case c27 => k_is)
    (case k27 => k_is)
    (case i27 => k_is)
    (case j27 => k_is)
    (case a28 => k_is)
    (case l28 => k_is)
    (case c28 => k_is)
    (case k28 => k_is)
    (case i28 => k_is)
    (case j28 => k_is)
    (case fm_Either => k_is)
    (case ob_Either => k_is)
    (case a29 => k_is)
    (case l29 => k_is)
    (case c29 => k_is)
    (case k29 => k_is)
    (case a30 => k_is)
    (case l30 => k_is)
    (case c30 => k_is)
    (case k30 => k_is)
    (case a31 => k_is)
    (case l31 => k_is)
    (case c31 => k_is)
    (case k31 => k_is)
    (case a32 => k_is)
    (case l32 => k_is)
    (case c32 => k_is)
    (case k32 => k_is)
    (case a33 => k_is)
    (case l33 => k_is)
    (case c33 => k_is)
    (case k33 => k_is)
    (case a34 => k_is)
    (case l34 => k_is)
    (case c34 => k_is)
    (case k34 => k_is)
    (case a35 => k_is)
    (case l35 => k_is)
    (case c35 => k_is)
    (case k35 => k_is)
    (case a36 => k_is)
    (case l36 => k_is)
    (case c36 => k_is)
    (case k36 => k_is)
    (case a37 => k_is)
    (case l37 => k_is)
    (case c37 => k_is)
    (case k37 => k_is)
    (case i37 => k_is)
    (case j37 => k_is)
    (case a38 => k_is)
    (case l38 => k_is)
    (case c38 => k_is)
    (case k38 => k_is)
    (case i38 => k_is)
    (case j38 => k_is)
    (case a39 => k_is)
    (case l39 => k_is)
    (case c39 => k_is)
    (case k39 => k_is)
    (case i39 => k_is)
    (case j39 => k_is)
    (case fs_Form => k_is)
    (case rv39 => k_is)
    (case a40 => k_is)
    (case l40 => k_is)
    (case c40 => k_is)
    (case k40 => k_is)
    (case i40 => k_is)
    (case j40 => k_is)
    (case rv40 => k_is)
    (case a41 => k_is)
    (case l41 => k_is)
    (case c41 => k_is)
    (case k41 => k_is)
    (case i41 => k_is)
    (case j41 => k_is)
    (case fs_Both => k_is)
    (case rv41 => k_is)
    (case a42 => k_is)
    (case l42 => k_is)
    (case c42 => k_is)
    (case k42 => k_is)
    (case i42 => k_is)
    (case j42 => k_is)
    (case rv42 => k_is)
    (case a43 => k_is)
    (case l43 => k_is)
    (case c43 => k_is)
    (case k43 => k_is)
    (case a44 => k_is)
    (case l44 => k_is)
    (case c44 => k_is)
    (case k44 => k_is)
    (case a45 => k_is)
    (case l45 => k_is)
    (case c45 => k_is)
    (case k45 => k_is)
    (case a46 => k_is)
    (case l46 => k_is)
    (case c46 => k_is)
    (case k46 => k_is)
    (case a47 => k_is)
    (case l47 => k_is)
    (case c47 => k_is)
    (case k47 => k_is)
    (case a48 => k_is)
    (case l48 => k_is)
    (case c48 => k_is)
    (case k48 => k_is)
    (case a49 => k_is)
    (case l49 => k_is)
    (case c49 => k_is)
    (case k49 => k_is)
    (case a50 => k_is)
    (case l50 => k_is)
    (case c50 => k_is)
    (case k50 => k_is)
    (case z_ANY_SIGNS => k_is)
    (case z_DIGIT_SIGNS => k_is)
    (case z_LETTER_SIGNS => k_is)
    (case z_MOST_FORMS => k_is)
    (case z_MOST_PARTS => k_is)
    (case z_MOST_SIGNS => k_is)
    (case z_OPEN_PARTS => k_is)
    (case y_OPEN_PARTS => k_is)
    (case z_SIGNS => k_is)
    (case z_SOME_DIGITS => k_is)
    (case z_SOME_LETTERS => k_is)
    (case z_all => k_is)
    (case z_enumerate => k_is)
    (case z_int => k_is)
    (case z_isinstance => k_is)
    (case z_len => k_is)
    (case z_list => k_is)
    (case z_max => k_is)
    (case z_min => k_is)
    (case z_range => k_is)
    (case z_set => k_is)
    (case z_sorted => k_is)
    (case z_str => k_is)
    (case z_tuple => k_is)
    (case z_zip => k_is)
