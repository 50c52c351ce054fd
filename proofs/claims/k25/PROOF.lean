import PyProof.Rows.All
import Wide.All
import OpenK.AllK
import Wide.FinOn
import HandS.ForMost
import HandS.Conv
import HandS.Flow
import HandS.Style
import HandS.TupAny
import HandS.TupMul
import HandS.Wide
import HandS.IsInst
import HandS.Deep
import HandS.SortInts
import HandS.ForExc
import HandS.ExcIs
import HandS.NoneIn
import HandS.Strs
import HandS.More
import PySem.Challenge.RW_strandsplaited_k25_curves
set_option Elab.async false
set_option linter.all false
set_option maxRecDepth 100000
set_option maxHeartbeats 4000000
/-! DL: a layer of data over the hand layer: what a def yields, as a plain function of plain data. -/
namespace DL
open PySem PySem.Spec PyProof.Rows L2

theorem sqt_mono {K : PySem.W.Frag} {H H' : Hp} {a : Addr} {xs : List V} (e : Same H H') (h : SqT K H a xs) : SqT K H' a xs := by
  rcases h with (h | ⟨o, h⟩) | h
  · exact .inl (.inl (e _ _ h))
  · exact .inl (.inr ⟨o, e _ _ h⟩)
  · exact .inr h
theorem same_upd {H : Hp} {p : Addr} {o : HO} (h : H p = none) : Same H (upd H p o) := fun b x e => by
  rw [upd_ne (ne_of_none e h)]
  exact e
theorem same_mut {H H' : Hp} {p : Addr} {o : HO} (e : Same H H') (h : H p = none) : Same H (upd H' p o) := fun b x q => by
  rw [upd_ne (ne_of_none q h)]
  exact e _ _ q

mutual
theorem dp_mono {K : PySem.W.Frag} {H H' : Hp} (e : Same H H') : ∀ (d : PyData) (v : V), Dp K H v d → Dp K H' v d
  | .none, _, h => by cases h; exact .non
  | .bool b, _, h => by cases h; exact .bl b
  | .int i, _, h => by cases h; exact .int i
  | .str x, _, h => by cases h; exact .str x
  | .list ds, _, h => by
    cases h with
    | lst hs ha => exact .lst (e.seq hs) (dpa_mono e ds _ ha)
  | .tuple ds, _, h => by
    cases h with
    | tup hs ha => exact .tup (sqt_mono e hs) (dpa_mono e ds _ ha)
  | .dict _, _, h => by cases h
theorem dpa_mono {K : PySem.W.Frag} {H H' : Hp} (e : Same H H') : ∀ (ds : List PyData) (vs : List V), DpAll K H vs ds → DpAll K H' vs ds
  | [], _, h => by cases h; exact .nil
  | d :: ds, _, h => by
    cases h with
    | cons h1 h2 => exact .cons (dp_mono e d _ h1) (dpa_mono e ds _ h2)
end
section
variable {K : PySem.W.Frag} {H : Hp}
theorem dpa_len : ∀ {vs : List V} {ds : List PyData}, DpAll K H vs ds → vs.length = ds.length
  | _, _, .nil => rfl
  | _, _, .cons _ t => by rw [List.length_cons, List.length_cons, dpa_len t]
theorem dpa_app : ∀ {vs ws : List V} {ds es : List PyData}, DpAll K H vs ds → DpAll K H ws es → DpAll K H (vs ++ ws) (ds ++ es)
  | _, _, _, _, .nil, h => h
  | _, _, _, _, .cons a t, h => .cons a (dpa_app t h)
theorem dpa_take : ∀ {vs : List V} {ds : List PyData} (n : Nat), DpAll K H vs ds → DpAll K H (vs.take n) (ds.take n)
  | _, _, 0, _ => by rw [List.take_zero, List.take_zero]; exact .nil
  | _, _, _ + 1, .nil => .nil
  | _, _, n + 1, .cons a t => .cons a (dpa_take n t)
theorem dpa_drop : ∀ {vs : List V} {ds : List PyData} (n : Nat), DpAll K H vs ds → DpAll K H (vs.drop n) (ds.drop n)
  | _, _, 0, h => h
  | _, _, _ + 1, .nil => .nil
  | _, _, n + 1, .cons a t => dpa_drop n t
theorem dpa_get : ∀ {vs : List V} {ds : List PyData} {i : Nat} {d : PyData}, DpAll K H vs ds → ds[i]? = some d → ∃ v, vs[i]? = some v ∧ Dp K H v d
  | _, _, _, _, .nil, e => by simp at e
  | _, _, 0, _, .cons r _, e => by simp at e; subst e; exact ⟨_, rfl, r⟩
  | _, _, i + 1, _, .cons _ t, e => by
    obtain ⟨u, h1, h2⟩ := dpa_get (i := i) t (by simpa using e)
    exact ⟨u, by simpa using h1, h2⟩
theorem dpa_at : ∀ {vs : List V} {ds : List PyData} {i : Nat} {v : V}, DpAll K H vs ds → vs[i]? = some v → ∃ d, ds[i]? = some d ∧ Dp K H v d
  | _, _, _, _, .nil, e => by simp at e
  | _, _, 0, _, .cons r _, e => by simp at e; subst e; exact ⟨_, rfl, r⟩
  | _, _, i + 1, _, .cons _ t, e => by
    obtain ⟨u, h1, h2⟩ := dpa_at (i := i) t (by simpa using e)
    exact ⟨u, by simpa using h1, h2⟩
theorem dpa_set {v : V} {d : PyData} (r : Dp K H v d) : ∀ {vs : List V} {ds : List PyData} (i : Nat), DpAll K H vs ds → DpAll K H (vs.set i v) (ds.set i d)
  | _, _, _, .nil => .nil
  | _, _, 0, .cons _ t => .cons r t
  | _, _, i + 1, .cons q t => .cons q (dpa_set r i t)
theorem dpa_ints : ∀ ns : List Int, DpAll K H (ns.map V.int) (ns.map PyData.int)
  | [] => .nil
  | n :: ns => .cons (.int n) (dpa_ints ns)
theorem dpa_ints' : ∀ {vs : List V} {ns : List Int}, DpAll K H vs (ns.map PyData.int) → vs = ns.map V.int
  | _, [], h => by cases h; rfl
  | _, n :: ns, h => by
    cases h with
    | cons a t =>
      cases a
      rw [dpa_ints' t, List.map_cons]
end

/-! ### slots, results -/
inductive Slot where
  | und
  | d (x : PyData)
  | own (xs : List PyData)
  | pin (v : V)
abbrev Rho := List Slot
inductive Res where
  | fz (x : PyData)
  | nw (xs : List PyData)
  | br (xs : List PyData)
def Res.rd : Res → PyData
  | .fz x => x
  | .nw xs => .list xs
  | .br xs => .list xs

def SlRep (K : PySem.W.Frag) (B Hf H : Hp) : Slot → Option V → Prop
  | .und, _ => True
  | .d x, o => ∃ v, o = some v ∧ Dp K Hf v x
  | .own xs, o => ∃ p vs, o = some (.ref p) ∧ Hf p = none ∧ B p = none ∧ H p = some (.lst vs) ∧ DpAll K Hf vs xs
  | .pin v, o => o = some v
/-- no tuple that stands still has a dict of its own -/
structure Bn (H : Hp) : Prop where
  nt : ∀ a xs, H a = some (.tup xs) → False
  fz : ∀ a ob xs, H a = some (.frz ob (.tup xs)) → ob.dict = none
structure NT (o : HO) : Prop where
  nt : ∀ xs, o = .tup xs → False
  fz : ∀ ob xs, o = .frz ob (.tup xs) → ob.dict = none
theorem NT.lst {xs : List V} : NT (.lst xs) := ⟨fun _ e => (nomatch e), fun _ _ e => (nomatch e)⟩
theorem NT.tupF {ob : Obj} {xs : List V} (h : ob.dict = none) : NT (.frz ob (.tup xs)) := ⟨fun _ e => (nomatch e), fun _ _ e => by cases e; exact h⟩
theorem Bn.upd {H : Hp} {p : Addr} {o : HO} (b : Bn H) (n : NT o) : Bn (L2.upd H p o) := ⟨fun a xs e => by
    by_cases z : a = p
    · subst z; rw [upd_same] at e; cases e; exact n.nt _ rfl
    · rw [upd_ne z] at e; exact b.nt a xs e, fun a ob xs e => by
    by_cases z : a = p
    · subst z; rw [upd_same] at e; cases e; exact n.fz _ _ rfl
    · rw [upd_ne z] at e; exact b.fz a ob xs e⟩
structure ER (K : PySem.W.Frag) (B Hf H : Hp) (σ : L2.St) (ρ : Rho) : Prop where
  fh : Same Hf H
  bh : Same B H
  len : σ.length = ρ.length
  sl : ∀ (i : Nat) (s : Slot) (o : Option V), ρ[i]? = some s → σ[i]? = some o → SlRep K B Hf H s o
  bn : Bn Hf
  dj : ∀ (i j : Nat) (xs ys : List PyData) (p : Addr), i ≠ j → ρ[i]? = some (.own xs) → ρ[j]? = some (.own ys) → σ[i]? = some (some (.ref p)) → σ[j]? = some (some (.ref p)) → False

/-- what an expression may do -/
structure Gr (Hf H Hf' H' : Hp) : Prop where
  f : Same Hf Hf'
  h : Same H H'
  fh : Same Hf' H'
  un : ∀ a o, H a = some o → Hf a = none → Hf' a = none
  bn : Bn Hf → Bn Hf'
theorem Gr.refl {Hf H : Hp} (e : Same Hf H) : Gr Hf H Hf H := ⟨Same.refl _, Same.refl _, e, fun _ _ _ h => h, fun b => b⟩
theorem Gr.trans {Hf H Hf1 H1 Hf2 H2 : Hp} (a : Gr Hf H Hf1 H1) (b : Gr Hf1 H1 Hf2 H2) : Gr Hf H Hf2 H2 :=
  ⟨a.f.trans b.f, a.h.trans b.h, b.fh, fun x o e n => b.un x o (a.h x o e) (a.un x o e n), fun z => b.bn (a.bn z)⟩
/-- a new object, frozen at once -/
theorem Gr.new {Hf H : Hp} {p : Addr} {o : HO} (e : Same Hf H) (h : H p = none) (nt : NT o := by exact NT.lst) : Gr Hf H (upd Hf p o) (upd H p o) := by
  have hf : Hf p = none := e.free h
  refine ⟨same_upd hf, same_upd h, fun a x q => ?_, fun a x q n => ?_, fun b => b.upd nt⟩
  · by_cases z : a = p
    · subst z; rw [upd_same] at q ⊢; exact q
    · rw [upd_ne z] at q ⊢; exact e _ _ q
  · rw [upd_ne (ne_of_none q h)]; exact n
/-- a new object, not frozen -/
theorem Gr.newU {Hf H : Hp} {p : Addr} {o : HO} (e : Same Hf H) (h : H p = none) : Gr Hf H Hf (upd H p o) :=
  ⟨Same.refl _, same_upd h, e.trans (same_upd h), fun _ _ _ n => n, fun b => b⟩

def RR (K : PySem.W.Frag) (B H0 Hf H : Hp) (v : V) : Res → Prop
  | .fz x => Dp K Hf v x
  | .nw xs => ∃ p vs, v = .ref p ∧ H0 p = none ∧ Hf p = none ∧ H p = some (.lst vs) ∧ DpAll K Hf vs xs
  | .br xs => ∃ p vs, v = .ref p ∧ Hf p = none ∧ B p = none ∧ H p = some (.lst vs) ∧ DpAll K Hf vs xs

section
variable {K : PySem.W.Frag} {B H0 Hf H Hf' H' : Hp} {σ : L2.St} {ρ : Rho} {v : V} {r : Res}
theorem ER.grow (er : ER K B Hf H σ ρ) (g : Gr Hf H Hf' H') : ER K B Hf' H' σ ρ := by
  refine ⟨g.fh, er.bh.trans g.h, er.len, fun i s o h1 h2 => ?_, g.bn er.bn, er.dj⟩
  have q := er.sl i s o h1 h2
  cases s with
  | und => trivial
  | pin v => exact q
  | d x => obtain ⟨v, e, hd⟩ := q; exact ⟨v, e, dp_mono g.f _ _ hd⟩
  | own xs =>
    obtain ⟨p, vs, e, h3, h4, h5, h6⟩ := q
    exact ⟨p, vs, e, g.un p _ h5 h3, h4, g.h _ _ h5, dpa_mono g.f _ _ h6⟩
theorem RR.grow (q : RR K B H0 Hf H v r) (g : Gr Hf H Hf' H') : RR K B H0 Hf' H' v r := by
  cases r with
  | fz x => exact dp_mono g.f _ _ q
  | nw xs => obtain ⟨p, vs, e, h0, h3, h5, h6⟩ := q; exact ⟨p, vs, e, h0, g.un p _ h5 h3, g.h _ _ h5, dpa_mono g.f _ _ h6⟩
  | br xs => obtain ⟨p, vs, e, h3, h4, h5, h6⟩ := q; exact ⟨p, vs, e, g.un p _ h5 h3, h4, g.h _ _ h5, dpa_mono g.f _ _ h6⟩
theorem RR.back {H1 : Hp} (q : RR K B H1 Hf H v r) (s : Same H0 H1) : RR K B H0 Hf H v r := by
  cases r with
  | fz x => exact q
  | nw xs => obtain ⟨p, vs, e, h0, h3⟩ := q; exact ⟨p, vs, e, s.free h0, h3⟩
  | br xs => exact q
theorem RR.dp (q : RR K B H0 Hf H v r) (e : Same Hf H) : Dp K H v r.rd := by
  cases r with
  | fz x => exact dp_mono e _ _ q
  | nw xs => obtain ⟨p, vs, rfl, h0, h3, h5, h6⟩ := q; exact .lst (SqL.of h5) (dpa_mono e _ _ h6)
  | br xs => obtain ⟨p, vs, rfl, h3, h4, h5, h6⟩ := q; exact .lst (SqL.of h5) (dpa_mono e _ _ h6)
theorem RR.lst {xs : List PyData} (q : RR K B H0 Hf H v r) (e : Same Hf H) (h : r.rd = .list xs) : ∃ a vs, v = .ref a ∧ SqL K H a vs ∧ DpAll K Hf vs xs := by
  cases r with
  | fz x =>
    have h' : x = .list xs := h
    subst h'
    have q' : Dp K Hf v (.list xs) := q
    cases q' with
    | lst hs ha => exact ⟨_, _, rfl, e.seq hs, ha⟩
  | nw ys =>
    obtain ⟨p, vs, rfl, h0, h3, h5, h6⟩ := q
    cases h
    exact ⟨_, _, rfl, SqL.of h5, h6⟩
  | br ys =>
    obtain ⟨p, vs, rfl, h3, h4, h5, h6⟩ := q
    cases h
    exact ⟨_, _, rfl, SqL.of h5, h6⟩
theorem RR.fz_of {x : PyData} (q : RR K B H0 Hf H v r) (h : r.rd = x) (hn : ∀ xs, x ≠ .list xs) : Dp K Hf v x := by
  cases r with
  | fz y => cases h; exact q
  | nw ys => exact absurd h.symm (hn ys)
  | br ys => exact absurd h.symm (hn ys)
theorem RR.tup {xs : List PyData} (q : RR K B H0 Hf H v r) (h : r.rd = .tuple xs) : ∃ a vs, v = .ref a ∧ SqT K Hf a vs ∧ DpAll K Hf vs xs := by
  have q' := q.fz_of h (fun _ z => by cases z)
  cases q' with
  | tup hs ha => exact ⟨_, _, rfl, hs, ha⟩
theorem RR.int {i : Int} (q : RR K B H0 Hf H v r) (h : r.rd = .int i) : v = .int i := by
  have q' := q.fz_of h (fun _ z => by cases z)
  cases q'; rfl
theorem RR.bl {i : Bool} (q : RR K B H0 Hf H v r) (h : r.rd = .bool i) : v = .bl i := by
  have q' := q.fz_of h (fun _ z => by cases z)
  cases q'; rfl
theorem RR.str {i : Str} (q : RR K B H0 Hf H v r) (h : r.rd = .str i) : v = .str i := by
  have q' := q.fz_of h (fun _ z => by cases z)
  cases q'; rfl
theorem RR.non (q : RR K B H0 Hf H v r) (h : r.rd = .none) : v = .non := by
  have q' := q.fz_of h (fun _ z => by cases z)
  cases q'; rfl
/-- made to stand still -/
def Res.fr : Res → Option PyData
  | .fz x => some x
  | .nw xs => some (.list xs)
  | .br _ => none
/-- a result that is no slot's own list is frozen -/
theorem RR.freeze {x : PyData} (er : ER K B Hf H σ ρ) (g : Gr Hf H Hf' H') (q : RR K B H Hf' H' v r) (h : r.fr = some x) : ∃ Hf2, Gr Hf H Hf2 H' ∧ Same Hf' Hf2 ∧ Dp K Hf2 v x := by
  cases r with
  | fz y => cases h; exact ⟨Hf', g, Same.refl _, q⟩
  | nw ys =>
    obtain ⟨p, vs, rfl, h0, h3, h5, h6⟩ := q
    cases h
    refine ⟨upd Hf' p (.lst vs), ⟨g.f.trans (same_upd h3), g.h, fun a o e => ?_, fun a o e n => ?_, fun b => (g.bn b).upd .lst⟩, same_upd h3, .lst (SqL.of upd_same) (dpa_mono (same_upd h3) _ _ h6)⟩
    · by_cases z : a = p
      · subst z; rw [upd_same] at e; cases e; exact h5
      · rw [upd_ne z] at e; exact g.fh _ _ e
    · rw [upd_ne (ne_of_none e h0)]; exact g.un a o e n
  | br ys => cases h
end

/-! ### the judgements -/
abbrev FE := Rho → Option Res
def tD (K : PySem.W.Frag) (f : FE) : TE := fun σ H Q => ∃ B Hf ρ r, ER K B Hf H σ ρ ∧ f ρ = some r ∧ ∀ v Hf' H', Gr Hf H Hf' H' → RR K B H Hf' H' v r → Q v H'
abbrev DE (X : Cx) (e : Expr) (f : FE) : Prop := PE X e (tD X.K f)
def tDT (K : PySem.W.Frag) (f : Rho → Option Bool) : TT := fun σ H Q => ∃ B Hf ρ b, ER K B Hf H σ ρ ∧ f ρ = some b ∧ ∀ Hf' H', Gr Hf H Hf' H' → Q b H'
abbrev DT (X : Cx) (e : Expr) (f : Rho → Option Bool) : Prop := PT X e (tDT X.K f)
abbrev FA := Rho → Option (List Res)
inductive RRs (K : PySem.W.Frag) (B H0 Hf H : Hp) : List V → List Res → Prop
  | nil : RRs K B H0 Hf H [] []
  | cons {v : V} {vs : List V} {r : Res} {rs : List Res} : RR K B H0 Hf H v r → RRs K B H0 Hf H vs rs → RRs K B H0 Hf H (v :: vs) (r :: rs)
def tDA (K : PySem.W.Frag) (f : FA) : TA := fun σ H Q => ∃ B Hf ρ rs, ER K B Hf H σ ρ ∧ f ρ = some rs ∧ ∀ vs Hf' H', Gr Hf H Hf' H' → RRs K B H Hf' H' vs rs → Q vs H'
abbrev DA (X : Cx) (es : List Expr) (f : FA) : Prop := PA X es (tDA X.K f)

theorem pe_mono {X : Cx} {e : Expr} {t t' : TE} (h : PE X e t) (k : ∀ σ H Q, t' σ H Q → t σ H Q) : PE X e t' := ⟨fun pins s σ H Q I q => h.run pins s σ H Q I (k _ _ _ q)⟩
theorem pt_mono {X : Cx} {e : Expr} {t t' : TT} (h : PT X e t) (k : ∀ σ H Q, t' σ H Q → t σ H Q) : PT X e t' := ⟨fun pins s σ H Q I q => h.run pins s σ H Q I (k _ _ _ q)⟩
theorem pa_mono {X : Cx} {e : List Expr} {t t' : TA} (h : PA X e t) (k : ∀ σ H Q, t' σ H Q → t σ H Q) : PA X e t' := ⟨fun pos pins s σ H Q I q => h.run pos pins s σ H Q I (k _ _ _ q)⟩
theorem ps_mono {X : Cx} {e : Stmt} {t t' : TS} (h : PS X e t) (k : ∀ D σ H, t' D σ H → t D σ H) : PS X e t' := ⟨fun pins s σ H D I q => h.run pins s σ H D I (k _ _ _ q)⟩
theorem pss_mono {X : Cx} {e : List Stmt} {t t' : TS} (h : PSs X e t) (k : ∀ D σ H, t' D σ H → t D σ H) : PSs X e t' := ⟨fun pins s σ H D I q => h.run pins s σ H D I (k _ _ _ q)⟩
theorem pi_mono {X : Cx} {tg e : Expr} {t t' : TI} (h : PI X tg e t) (k : ∀ σ H Q, t' σ H Q → t σ H Q) : PI X tg e t' := ⟨fun pins s σ H Q I q => h.run pins s σ H Q I (k _ _ _ q)⟩
theorem pg_mono {X : Cx} {e : Expr} {t t' : TG} (h : PG X e t) (k : ∀ v σ H Q, t' v σ H Q → t v σ H Q) : PG X e t' := ⟨fun pins s σ H v u Q I r q => h.run pins s σ H v u Q I r (k _ _ _ _ q)⟩

section
variable {X : Cx} {a b c e : Expr} {es : List Expr} {fa fb fc : FE} {pos : Pos}

/-! ### names, constants -/
def fVar (i : Nat) : FE := fun ρ => match ρ[i]? with
  | some (.d x) => some (.fz x)
  | some (.own xs) => some (.br xs)
  | _ => none
theorem d_var (i : Nat) {x : Str} {pos : Pos} (hN : X.N[i]? = some x := by rfl) (hv : Vis X.env.scope x := by first | exact Or.inl rfl | exact Or.inr (Or.inl rfl) | exact Or.inr (Or.inr rfl)) (hd : (x == ("__debug__" : Str)) = false := by decide)
    (hcd : (x == ("__classdict__" : Str)) = false := by decide) : DE X (.Name x pos) (fVar i) := pe_mono (pe_var hN hv hd hcd) fun σ H Q h => by
  obtain ⟨B, Hf, ρ, r, er, hf, k⟩ := h
  unfold fVar at hf
  cases hs : ρ[i]? with
  | none => rw [hs] at hf; cases hf
  | some s =>
    rw [hs] at hf
    have hi : i < σ.length := by rw [er.len]; exact (List.getElem?_eq_some_iff.mp hs).1
    have ho : σ[i]? = some σ[i] := List.getElem?_eq_getElem hi
    have q := er.sl i s _ hs ho
    cases s with
    | und => cases hf
    | pin v => cases hf
    | d x =>
      cases hf
      obtain ⟨v, e, hd⟩ := q
      exact ⟨v, by rw [ho, e], k v Hf H (Gr.refl er.fh) hd⟩
    | own xs =>
      cases hf
      obtain ⟨p, vs, e, h3, h4, h5, h6⟩ := q
      exact ⟨.ref p, by rw [ho, e], k _ Hf H (Gr.refl er.fh) ⟨p, vs, rfl, h3, h4, h5, h6⟩⟩
def fC (x : PyData) : FE := fun _ => some (.fz x)
theorem d_c {v : V} {x : PyData} (h : PE X e (tC v)) (hd : ∀ H, Dp X.K H v x) : DE X e (fC x) := pe_mono h fun σ H Q h => by
  obtain ⟨B, Hf, ρ, r, er, hf, k⟩ := h
  cases hf
  exact k v Hf H (Gr.refl er.fh) (hd _)
theorem d_int {i j pos} : DE X (.Constant (.int i) j pos) (fC (.int i)) := d_c pe_int fun _ => .int _
theorem d_bl {i j pos} : DE X (.Constant (.bool i) j pos) (fC (.bool i)) := d_c pe_bl fun _ => .bl _
theorem d_non {j pos} : DE X (.Constant .none j pos) (fC .none) := d_c pe_non fun _ => .non
theorem d_str {i j pos} : DE X (.Constant (.str i) j pos) (fC (.str i)) := d_c pe_str fun _ => .str _
theorem d_glob {x : Str} {v : V} {y : PyData} {u : Value} {pos : Pos} (hg : Gl X x) (hm : X.mg x = some u) (r : RelV v u) (hd : ∀ H, Dp X.K H v y) (h2 : (x == ("__debug__" : Str)) = false := by decide) : DE X (.Name x pos) (fC y) := d_c (pe_glob hg hm r h2) hd

/-! ### two operands -/
/-- what an operation on values asks, by data -/
def Op2 (K : PySem.W.Frag) (r : R2) (g : PyData → PyData → Option Res) : Prop :=
  ∀ (B H0 Hf H : Hp) (v u : V) (a b c : Res) (Q : VK), Same Hf H → Same H0 H → RR K B H0 Hf H v a → RR K B H0 Hf H u b → g a.rd b.rd = some c →
    (∀ w Hf' H', Gr Hf H Hf' H' → RR K B H Hf' H' w c → Q w H') → r v u H Q
def f2 (g : PyData → PyData → Option Res) (fa fb : FE) : FE := fun ρ => (fa ρ).bind fun a => (fb ρ).bind fun b => g a.rd b.rd
theorem ent2 {K : PySem.W.Frag} {r : R2} {g : PyData → PyData → Option Res} (o : Op2 K r g) : ∀ σ H Q, tD K (f2 g fa fb) σ H Q → tOp r (tD K fa) (tD K fb) σ H Q := fun σ H Q h => by
  obtain ⟨B, Hf, ρ, c, er, hf, k⟩ := h
  unfold f2 at hf
  obtain ⟨ra, h1, hf⟩ := Option.bind_eq_some_iff.mp hf
  obtain ⟨rb, h2, hf⟩ := Option.bind_eq_some_iff.mp hf
  refine ⟨B, Hf, ρ, ra, er, h1, fun v Hf1 H1 g1 q1 => ⟨B, Hf1, ρ, rb, er.grow g1, h2, fun u Hf2 H2 g2 q2 => ?_⟩⟩
  have g12 := g1.trans g2
  exact o B H Hf2 H2 v u ra rb c Q g2.fh g12.h (q1.grow g2) (q2.back g1.h) hf fun w Hf3 H3 g3 q3 => k w Hf3 H3 (g12.trans g3) (q3.back g12.h)
theorem d_op {op : Operator} {r : R2} {g : PyData → PyData → Option Res} (ho : OpR X (binaryOp op) r) (o : Op2 X.K r g) (ha : DE X a fa) (hb : DE X b fb) : DE X (.BinOp a op b pos) (f2 g fa fb) := pe_mono (pe_op ho ha hb) (ent2 o)
theorem d_cmp {op : CmpOp} {r : R2} {g : PyData → PyData → Option Res} (ho : OpR X (compareOp op) r) (o : Op2 X.K r g) (ha : DE X a fa) (hb : DE X b fb) (hm : behindInMarks op b = false) : DE X (.Compare a [op] [b] pos) (f2 g fa fb) := pe_mono (pe_cmpR ho ha hb hm) (ent2 o)
/-- a bool, as a test -/
def fB (f : FE) : Rho → Option Bool := fun ρ => (f ρ).bind fun r => match r.rd with
  | .bool b => some b
  | _ => none
theorem fB_some {f : FE} {ρ : Rho} {b : Bool} (h : fB f ρ = some b) : ∃ r, f ρ = some r ∧ r.rd = .bool b := by
  unfold fB at h
  obtain ⟨r, h1, h2⟩ := Option.bind_eq_some_iff.mp h
  refine ⟨r, h1, ?_⟩
  split at h2
  · rename_i q; cases h2; exact q
  · cases h2
theorem t_cmp {op : CmpOp} {r : R2} {g : PyData → PyData → Option Res} (ho : OpR X (compareOp op) r) (o : Op2 X.K r g) (ha : DE X a fa) (hb : DE X b fb) (hm : behindInMarks op b = false) : DT X (.Compare a [op] [b] pos) (fB (f2 g fa fb)) := pt_mono (pt_cmpR ho ha hb hm) fun σ H Q h => by
  obtain ⟨B, Hf, ρ, c, er, hf, k⟩ := h
  obtain ⟨r', h1, h2⟩ := fB_some hf
  exact ent2 o σ H _ ⟨B, Hf, ρ, r', er, h1, fun v Hf' H' g' q => ⟨c, q.bl h2, k Hf' H' g'⟩⟩

theorem Op2.or {K : PySem.W.Frag} {r r' : R2} {g g' : PyData → PyData → Option Res} (h : Op2 K r g) (h' : Op2 K r' g') : Op2 K (fun x y H Q => r x y H Q ∨ r' x y H Q) (fun a b => (g a b).or (g' a b)) := fun B H0 Hf H v u a b c Q e1 e2 q1 q2 hg k => by
  rcases Option.or_eq_some_iff.mp hg with z | ⟨_, z⟩
  · exact .inl (h B H0 Hf H v u a b c Q e1 e2 q1 q2 z k)
  · exact .inr (h' B H0 Hf H v u a b c Q e1 e2 q1 q2 z k)
end
end DL
/-! tuples that are made, with their very object known: it has no dict of items own (a method of theirs can be called then) -/
namespace DL
open PySem PySem.Spec PyProof.Rows L2 HT
section
variable {X : Cx} {es : List Expr} {pos : Pos}
theorem sqt_frz {K : PySem.W.Frag} {H : Hp} {p : Addr} {ob : Obj} {xs : List V} (h : H p = some (.frz ob (.tup xs))) : SqT K H p xs := .inl (.inr ⟨ob, h⟩)
/-- a new tuple at p -/
def NewT (xs : List V) (H : Hp) (Q : VK) : Prop := ∀ p ob, H p = none → ob.dict = none → Q (.ref p) (upd H p (.frz ob (.tup xs)))
/-- the tuple that was just laid behind the heap h -/
theorem laid_tup {pins : List (Addr × Obj)} {σ : L2.St} {H : Hp} {s : Shared} {t' : Nat} {xs : List V} {items : List Value} {Q : VK} (I : Inv X pins σ H s) (r : Vals xs items) (small : xs.length ≤ sizeLine) (q : NewT xs H Q) :
    EP X pins σ Q (.ref s.heap.objs.size) { s with heap := s.heap.push { cls := .type "tuple", data := .seq items.toArray }, toks := t' } :=
  ⟨.ref _, _, I.laid (t' := t') (o := .frz { cls := .type "tuple", data := .seq items.toArray } (.tup xs)) (fun b ob e => Heap.get?_push_of_some _ e) (Nat.le_refl _) ⟨Heap.get?_push_size _ rfl, small, items, r, IsTup.new _ _⟩, rfl, q _ _ (I.hok.fresh (Nat.le_refl _)) rfl⟩
def tTupF (t : TA) : TE := fun σ H Q => t σ H fun xs H1 => xs.length ≤ sizeLine ∧ NewT xs H1 Q
theorem pe_tupF {t : TA} {k : Nat} (h : PA X es t) : PE X (.Tuple es k pos) (tTupF t) := ⟨fun pins s σ H Q I hq =>
  wpAny_Tuple_spliced (thn (h.run pos pins s σ H _ I hq) fun us s1 ⟨xs, H1, I1, r, z, q⟩ => ⟨by rw [← r.length]; exact z, laid_tup (t' := s1.toks) I1 r z q⟩)⟩
def rCatF (K : PySem.W.Frag) : R2 := fun x y H Q => ∃ a b xs ys, x = .ref a ∧ y = .ref b ∧ SqT K H a xs ∧ SqT K H b ys ∧ xs.length + ys.length ≤ sizeLine ∧
  (xs = [] → Q (.ref b) H) ∧ (xs ≠ [] → ys = [] → Q (.ref a) H) ∧ (xs ≠ [] → ys ≠ [] → NewT (xs ++ ys) H Q)
theorem op_catF : OpR X (binaryOp .Add) (rCatF X.K) := fun pins s σ H x y v u Q I rx ry h => by
  obtain ⟨a, b, xs, ys, rfl, rfl, ha, hb, small, q0, q1, q2⟩ := h
  cases rx
  cases ry
  obtain ⟨items, rel1, pa, _⟩ := I.tuple ha
  obtain ⟨items2, rel2, pb, _⟩ := I.tuple hb
  rcases xs with _ | ⟨x0, xs⟩
  · cases rel1
    exact cat_tup0 pa pb ⟨.ref b, H, I, rfl, q0 rfl⟩
  · have hx : x0 :: xs ≠ [] := fun e => nomatch e
    refine HT.cat_tup pa pb (fun z => hx (rel1.nil_iff.mp z)) (fun z => ⟨.ref a, H, I, rfl, q1 hx (rel2.nil_iff.mp z)⟩) (fun z => ?_) (by rw [← rel1.length, ← rel2.length]; exact small)
    exact laid_tup (t' := s.toks) I (rel1.append rel2) (by rw [List.length_append]; exact small) (q2 hx fun w => z (rel2.nil_iff.mpr w))
def rSlF (K : PySem.W.Frag) : V → Option Int → Option Int → Hp → VK → Prop := fun x lo hi H Q => ∃ a xs, x = .ref a ∧ SqT K H a xs ∧
  (HT.sIx xs.length 0 lo = 0 ∧ HT.sIx xs.length xs.length hi = xs.length → Q (.ref a) H) ∧ (¬ (HT.sIx xs.length 0 lo = 0 ∧ HT.sIx xs.length xs.length hi = xs.length) → NewT (cutV xs lo hi) H Q)
theorem sl_tupF : SlR X (rSlF X.K) := fun pins s σ H x v vl vu lo hi sl Q I rx hs pl pu h => by
  obtain ⟨a, xs, rfl, hx, q1, q2⟩ := h
  cases rx
  obtain ⟨items, r, ht, small⟩ := I.tuple hx
  have same : items.toArray.size = xs.length := by rw [List.size_toArray]; exact r.length.symm
  refine ⟨"tuple", _, PyProof.Rows.slot_tuple_getitem.lookup, ht.typeIs, ?_⟩
  by_cases whole : HT.sIx xs.length 0 lo = 0 ∧ HT.sIx xs.length xs.length hi = xs.length
  · exact getItem_tuple_whole ht hs pl pu (by rw [same]; exact whole) ⟨.ref a, H, I, rfl, q1 whole⟩
  · refine HT.getItem_tuple_cut ht hs pl pu (by rw [same]; exact whole) ?_ (by rw [same]; exact small)
    rw [same]
    exact laid_tup (t' := s.toks) I ((r.drop (HT.sIx xs.length 0 lo)).take (HT.sIx xs.length xs.length hi - HT.sIx xs.length 0 lo)) (Nat.le_trans (cutV_length xs lo hi) small) (q2 whole)
def rTupF (K : PySem.W.Frag) : List V → Hp → VK → Prop := fun xs H Q => ∃ p ys, xs = [.ref p] ∧ ((SqL K H p ys ∧ NewT ys H Q) ∨ (SqT K H p ys ∧ Q (.ref p) H))
theorem call_tupleF : CallR X (.type "tuple") (rTupF X.K) := fun pins s σ H xs us Q I r h => by
  obtain ⟨p, ys, rfl, h⟩ := h
  obtain ⟨u, rfl, rx⟩ := vals1 r
  cases rx
  rcases h with ⟨hq, q⟩ | ⟨hq, q⟩
  · obtain ⟨items, r', pl, small⟩ := I.list hq
    have same := r'.length
    refine call_tuple_list pl.isList (fun h' kp => ?_) (by simp only [List.size_toArray] <;> omega)
    have I1 : Inv X pins σ H { s with heap := h' } := I.kept (t' := s.toks) kp
    exact laid_tup (t' := s.toks) I1 r' small q
  · obtain ⟨items, r', pl, small⟩ := I.tuple hq
    exact call_tuple_same pl ⟨.ref p, H, I, rfl, q⟩
/-- t * k -/
def rRepF (K : PySem.W.Frag) : R2 := fun x y H Q => ∃ l k xs, x = .ref l ∧ y = .int k ∧ SqT K H l xs ∧ xs ≠ [] ∧ 2 ≤ k ∧ k ≤ 1000 ∧ xs.length ≤ 1000 ∧ NewT (List.replicate k.toNat xs).flatten H Q
theorem op_repF : OpR X (binaryOp .Mult) (rRepF X.K) := fun pins s σ H x y v u Q I rx ry h => by
  obtain ⟨l, k, xs, rfl, rfl, hT, hne, k1, k2, few, q⟩ := h
  cases rx
  obtain ⟨tk, rfl⟩ := ry
  obtain ⟨items, rel, ⟨⟨c0, d0, dat, slo⟩, ho, e1, m, e2⟩, _⟩ := I.tuple hT
  dsimp only at e1 e2
  subst e1 e2
  have le := rel.length
  have pos' : 0 < items.length := by
    rw [← le]
    exact List.length_pos_iff.mpr hne
  have emp : items.toArray.isEmpty = false := by
    cases items with
    | nil => cases pos'
    | cons _ _ => rfl
  have sz : items.toArray.size = xs.length := by rw [List.size_toArray, le]
  have mul : ((items.toArray.size : Nat) : Int) * k ≤ 1000 * 1000 := by
    rw [sz]
    exact Int.mul_le_mul (by omega) k2 (by omega) (by omega)
  have all : k.toNat * xs.length ≤ 1000 * 1000 := Nat.mul_le_mul (by omega) few
  have flat : (List.replicate k.toNat items).flatten.length ≤ sizeLine := by
    rw [PyProof.Rows.lm_len_rep_flat, ← le, sizeLine_eq]
    omega
  have flat' : (List.replicate k.toNat xs).flatten.length ≤ sizeLine := by
    rw [PyProof.Rows.lm_len_rep_flat, sizeLine_eq]
    omega
  have g0 : (decide (k < -(2 ^ 63)) || decide (k ≥ 2 ^ 63)) = false := by rw [decide_eq_false (show ¬ k < -(2 ^ 63) by omega), decide_eq_false (show ¬ k ≥ 2 ^ 63 by omega)]; rfl
  have g1 : (items.toArray.isEmpty || k == 1) = false := by rw [emp, Bool.false_or]; exact beq_eq_false_iff_ne.mpr (by omega)
  have g2 : (decide (k ≤ 0) || items.toArray.isEmpty) = false := by rw [emp, Bool.or_false]; exact decide_eq_false (by omega)
  have g4 : Builtin.Tuple.tupleTooMany (((items.toArray.size : Nat) : Int) * k) = false := by unfold Builtin.Tuple.tupleTooMany; rw [sizeLine_eq]; exact decide_eq_false (by omega)
  have core : wpAny (model X.prog X.w) X.A (call (.builtin "tuple.__mul__") [.ref l, .int k tk]) (EP X pins σ Q) X.xe s := call_meets PySem.F.slot_tuple_mul ⟨_, ho, rfl⟩ PySem.F.entry_tuple_mul (PySem.F.args_tuple_mul_2 _ _) (tuple_mulW l items.toArray m d0 slo k tk g0 g1 g2 (by omega) g4 (by rw [size_rep, List.size_toArray]; exact flat)) ⟨ho, by
    rw [size_rep]
    exact laid_tup (t' := s.toks) I (rel.rep k.toNat) flat' q⟩
  exact wpAny_binaryOp_repeat_ref (T := "tuple") (U := "int") (by decide) ⟨_, ho, rfl⟩ (fun s' => typeIs_int s' k tk) noFill_tuple_mul PySem.F.fills_int_mul PySem.F.slot_int_rmul repeat_tuple PySem.F.slot_int_index.lookup
    (call_meets PySem.F.slot_int_rmul (typeIs_int s k tk) PySem.F.entry_int_rmul (PySem.F.args_int_rmul_2 _ _) (int_rmul_tuple k tk l items.toArray m d0 slo) ⟨ho, rfl, ⟨_, ho, rfl⟩, core⟩)
end
end DL
namespace DL
open PySem PySem.Spec PyProof.Rows L2

abbrev small (n : Nat) : Prop := n ≤ 100000
theorem sm_line {n : Nat} (h : small n) : n ≤ sizeLine := Nat.le_trans h (by decide)

instance (i j : Int) : Decidable (CMul i j) := by unfold CMul; infer_instance
/-! ### + -/
def rCatL (K : PySem.W.Frag) : R2 := fun x y H Q => ∃ l b xs zs, x = .ref l ∧ y = .ref b ∧ SqL K H l xs ∧ SqL K H b zs ∧ xs.length + zs.length ≤ sizeLine ∧ ∀ p, H p = none → Q (.ref p) (upd H p (.lst (xs ++ zs)))
theorem op_catL {X : Cx} : OpR X (binaryOp .Add) (rCatL X.K) := by
  intro pins s σ H x y v u Q I rx ry h
  obtain ⟨l, b, xs, zs, rfl, rfl, hH, hB, hz, q⟩ := h
  cases rx
  cases ry
  obtain ⟨its, r, ⟨⟨cls, dd, data, sl⟩, n, ho, hc, hd, hdat⟩, hz1⟩ := I.list hH
  obtain ⟨its2, r2, ⟨⟨cls2, dd2, data2, sl2⟩, n2, ho2, hc2, hd2, hdat2⟩, hz2⟩ := I.list hB
  simp only at hc hdat hc2 hdat2
  subst hc hdat hc2 hdat2
  have h1 := r.length
  have h2 := r2.length
  refine concat_meets ⟨_, ho, rfl⟩ ⟨_, ho2, rfl⟩ noFill_list_add seq_list_add PySem.F.slot_list_add PySem.F.entry_list_add (PySem.F.args_list_add_2 _ _) (list_addW l b its.toArray its2.toArray n n2 dd dd2 sl sl2 (by simp only [List.size_toArray]; omega)) ⟨ho, ho2, ?_⟩
  have ea : its.toArray ++ its2.toArray = (its ++ its2).toArray := by simp
  rw [ea]
  exact ⟨.ref _, _, I.lnew (t' := s.toks) (r.append r2) (by rw [List.length_append]; omega), rfl, q _ I.fresh⟩

def rAdd (K : PySem.W.Frag) : R2 := fun x y H Q => (rI0 (fun i j => .int (i + j)) x y H Q ∨ rCatL K x y H Q) ∨ (rCatF K x y H Q ∨ (∃ i j, x = .str i ∧ y = .str j ∧ i.length + j.length ≤ sizeLine ∧ Q (.str (i ++ j)) H))
theorem op_addD {X : Cx} : OpR X (binaryOp .Add) (rAdd X.K) := (op_add.or op_catL).or (op_catF.or op_add_str)
def gAdd : PyData → PyData → Option Res
  | .int i, .int j => some (.fz (.int (i + j)))
  | .list xs, .list ys => if small (xs.length + ys.length) then some (.nw (xs ++ ys)) else none
  | .tuple xs, .tuple ys => if small (xs.length + ys.length) then some (.fz (.tuple (xs ++ ys))) else none
  | .str x, .str y => if small (x.length + y.length) then some (.fz (.str (x ++ y))) else none
  | _, _ => none
theorem o_add {K : PySem.W.Frag} : Op2 K (rAdd K) gAdd := fun B H0 Hf H v u a b c Q e1 e2 q1 q2 hg k => by
  unfold gAdd at hg
  split at hg
  · rename_i i j h1 h2
    cases hg
    exact .inl (.inl ⟨i, j, q1.int h1, q2.int h2, k _ Hf H (Gr.refl e1) (Dp.int _)⟩)
  · rename_i xs ys h1 h2
    split at hg
    · rename_i hz
      cases hg
      obtain ⟨l, vs, rfl, s1, d1⟩ := q1.lst e1 h1
      obtain ⟨l2, ws, rfl, s2, d2⟩ := q2.lst e1 h2
      refine .inl (.inr ⟨l, l2, vs, ws, rfl, rfl, s1, s2, by rw [dpa_len d1, dpa_len d2]; exact sm_line hz, fun p hp => ?_⟩)
      exact k _ Hf _ (Gr.newU e1 hp) ⟨p, _, rfl, hp, e1.free hp, upd_same, dpa_app d1 d2⟩
    · cases hg
  · rename_i xs ys h1 h2
    split at hg
    · rename_i hz
      cases hg
      obtain ⟨l, vs, rfl, s1, d1⟩ := q1.tup h1
      obtain ⟨l2, ws, rfl, s2, d2⟩ := q2.tup h2
      refine .inr (.inl ⟨l, l2, vs, ws, rfl, rfl, sqt_mono e1 s1, sqt_mono e1 s2, by rw [dpa_len d1, dpa_len d2]; exact sm_line hz, fun z => ?_, fun z1 z2 => ?_, fun z1 z2 p ob hp hd => ?_⟩)
      · subst z
        cases d1
        exact k _ Hf H (Gr.refl e1) (Dp.tup s2 d2)
      · subst z2
        cases d2
        rw [List.append_nil] at k
        exact k _ Hf H (Gr.refl e1) (Dp.tup s1 d1)
      · exact k _ _ _ (Gr.new e1 hp (.tupF hd)) (Dp.tup (sqt_frz upd_same) (dpa_mono (same_upd (e1.free hp)) _ _ (dpa_app d1 d2)))
    · cases hg
  · rename_i x y h1 h2
    split at hg
    · rename_i hz
      cases hg
      exact .inr (.inr ⟨x, y, q1.str h1, q2.str h2, sm_line hz, k _ Hf H (Gr.refl e1) (Dp.str _)⟩)
    · cases hg
  · cases hg
section
variable {X : Cx} {a b c e : Expr} {es : List Expr} {fa fb fc : FE} {pos : Pos}
theorem d_add (ha : DE X a fa) (hb : DE X b fb) : DE X (.BinOp a .Add b pos) (f2 gAdd fa fb) := d_op op_addD o_add ha hb

/-! ### ints -/
/-- a rule of two ints -/
theorem o_int {K : PySem.W.Frag} {C : Int → Int → Prop} {h : Int → Int → Int} {g : PyData → PyData → Option Res}
    (hg : ∀ x y c, g x y = some c → ∃ i j, x = .int i ∧ y = .int j ∧ C i j ∧ c = .fz (.int (h i j))) : Op2 K (rI C fun i j => .int (h i j)) g := fun B H0 Hf H v u a b c Q e1 e2 q1 q2 z k => by
  obtain ⟨i, j, h1, h2, hc, rfl⟩ := hg _ _ _ z
  exact ⟨i, j, q1.int h1, q2.int h2, hc, k _ Hf H (Gr.refl e1) (Dp.int _)⟩
theorem o_cmp {K : PySem.W.Frag} {h : Int → Int → Bool} {g : PyData → PyData → Option Res}
    (hg : ∀ x y c, g x y = some c → ∃ i j, x = .int i ∧ y = .int j ∧ c = .fz (.bool (h i j))) : Op2 K (rI0 fun i j => .bl (h i j)) g := fun B H0 Hf H v u a b c Q e1 e2 q1 q2 z k => by
  obtain ⟨i, j, h1, h2, rfl⟩ := hg _ _ _ z
  exact ⟨i, j, q1.int h1, q2.int h2, k _ Hf H (Gr.refl e1) (Dp.bl _)⟩
def gMinus : PyData → PyData → Option Res
  | .int i, .int j => some (.fz (.int (i - j)))
  | _, _ => none
theorem o_sub {K : PySem.W.Frag} : Op2 K (rI0 fun i j => .int (i - j)) gMinus := fun B H0 Hf H v u a b c Q e1 e2 q1 q2 hg k => by
  unfold gMinus at hg
  split at hg
  · rename_i i j h1 h2
    cases hg
    exact ⟨i, j, q1.int h1, q2.int h2, k _ Hf H (Gr.refl e1) (Dp.int _)⟩
  · cases hg
theorem d_sub (ha : DE X a fa) (hb : DE X b fb) : DE X (.BinOp a .Sub b pos) (f2 gMinus fa fb) := d_op op_sub o_sub ha hb
def gDiv : PyData → PyData → Option Res
  | .int i, .int j => if 0 < j ∧ j < 2 ^ 200 then some (.fz (.int (i / j))) else none
  | _, _ => none
theorem d_div (ha : DE X a fa) (hb : DE X b fb) : DE X (.BinOp a .FloorDiv b pos) (f2 gDiv fa fb) := d_op op_fdivW (o_int fun x y c h => by
  unfold gDiv at h
  split at h
  · rename_i i j
    split at h
    · rename_i z
      cases h
      exact ⟨i, j, rfl, rfl, wide_div (b := 200) z.1 (by have := z.2; omega) (by decide) (by decide), rfl⟩
    · cases h
  · cases h) ha hb
def gMod : PyData → PyData → Option Res
  | .int i, .int j => if 0 < j then some (.fz (.int (i % j))) else none
  | _, _ => none
theorem d_mod (ha : DE X a fa) (hb : DE X b fb) : DE X (.BinOp a .Mod b pos) (f2 gMod fa fb) := d_op op_mod (o_int fun x y c h => by
  unfold gMod at h
  split at h
  · rename_i i j
    split at h
    · rename_i z
      cases h
      exact ⟨i, j, rfl, rfl, z, rfl⟩
    · cases h
  · cases h) ha hb
def gPow : PyData → PyData → Option Res
  | .int i, .int j => if 0 ≤ j ∧ j ≤ 1000000 ∧ i.natAbs < 2 ^ 64 then some (.fz (.int (i ^ j.toNat))) else none
  | _, _ => none
theorem d_pow (ha : DE X a fa) (hb : DE X b fb) : DE X (.BinOp a .Pow b pos) (f2 gPow fa fb) := d_op op_pow (o_int fun x y c h => by
  unfold gPow at h
  split at h
  · rename_i i j
    split at h
    · rename_i z
      cases h
      exact ⟨i, j, rfl, rfl, z, rfl⟩
    · cases h
  · cases h) ha hb
/-- * : ints (one factor below 2 ^ 64), list * int, tuple * int -/
def rMul (K : PySem.W.Frag) : R2 := fun x y H Q => rI CMul (fun i j => .int (i * j)) x y H Q ∨ rRepF K x y H Q
theorem op_mulD {X : Cx} : OpR X (binaryOp .Mult) (rMul X.K) := op_mul.or op_repF
def gMul : PyData → PyData → Option Res
  | .int i, .int j => if CMul i j then some (.fz (.int (i * j))) else none
  | .tuple xs, .int k => if xs ≠ [] ∧ 2 ≤ k ∧ k ≤ 1000 ∧ xs.length ≤ 1000 then some (.fz (.tuple (List.replicate k.toNat xs).flatten)) else none
  | _, _ => none
theorem dpa_rep {K : PySem.W.Frag} {H : Hp} {vs : List V} {ds : List PyData} (h : DpAll K H vs ds) : ∀ n : Nat, DpAll K H (List.replicate n vs).flatten (List.replicate n ds).flatten
  | 0 => .nil
  | n + 1 => by
    rw [List.replicate_succ, List.replicate_succ, List.flatten_cons, List.flatten_cons]
    exact dpa_app h (dpa_rep h n)
theorem o_mul {K : PySem.W.Frag} : Op2 K (rMul K) gMul := fun B H0 Hf H v u a b c Q e1 e2 q1 q2 hg k => by
  unfold gMul at hg
  split at hg
  · rename_i i j h1 h2
    split at hg
    · rename_i z
      cases hg
      exact .inl ⟨i, j, q1.int h1, q2.int h2, z, k _ Hf H (Gr.refl e1) (Dp.int _)⟩
    · cases hg
  · rename_i xs n h1 h2
    split at hg
    · rename_i z
      cases hg
      obtain ⟨l, vs, rfl, s1, d1⟩ := q1.tup h1
      have hl := dpa_len d1
      refine .inr ⟨l, n, vs, rfl, q2.int h2, sqt_mono e1 s1, fun w => z.1 ?_, z.2.1, z.2.2.1, by rw [hl]; exact z.2.2.2, fun p ob hp hd => ?_⟩
      · subst w; cases d1; rfl
      · exact k _ _ _ (Gr.new e1 hp (.tupF hd)) (Dp.tup (sqt_frz upd_same) (dpa_mono (same_upd (e1.free hp)) _ _ (dpa_rep d1 _)))
    · cases hg
  · cases hg
theorem d_mul (ha : DE X a fa) (hb : DE X b fb) : DE X (.BinOp a .Mult b pos) (f2 gMul fa fb) := d_op op_mulD o_mul ha hb

/-! ### comparisons -/
def gLt : PyData → PyData → Option Res
  | .int i, .int j => some (.fz (.bool (decide (i < j))))
  | _, _ => none
def gLe : PyData → PyData → Option Res
  | .int i, .int j => some (.fz (.bool (decide (i ≤ j))))
  | _, _ => none
def gGt : PyData → PyData → Option Res
  | .int i, .int j => some (.fz (.bool (decide (j < i))))
  | _, _ => none
def gGe : PyData → PyData → Option Res
  | .int i, .int j => some (.fz (.bool (decide (j ≤ i))))
  | _, _ => none
theorem o_lt {K : PySem.W.Frag} : Op2 K (rI0 fun i j => .bl (decide (i < j))) gLt := o_cmp fun x y c h => by
  unfold gLt at h; split at h
  · cases h; exact ⟨_, _, rfl, rfl, rfl⟩
  · cases h
theorem o_le {K : PySem.W.Frag} : Op2 K (rI0 fun i j => .bl (decide (i ≤ j))) gLe := o_cmp fun x y c h => by
  unfold gLe at h; split at h
  · cases h; exact ⟨_, _, rfl, rfl, rfl⟩
  · cases h
theorem o_gt {K : PySem.W.Frag} : Op2 K (rI0 fun i j => .bl (decide (j < i))) gGt := o_cmp fun x y c h => by
  unfold gGt at h; split at h
  · cases h; exact ⟨_, _, rfl, rfl, rfl⟩
  · cases h
theorem o_ge {K : PySem.W.Frag} : Op2 K (rI0 fun i j => .bl (decide (j ≤ i))) gGe := o_cmp fun x y c h => by
  unfold gGe at h; split at h
  · cases h; exact ⟨_, _, rfl, rfl, rfl⟩
  · cases h
def gEq : PyData → PyData → Option Res := fun a b => if SeqAt.shaped a = true ∧ SeqAt.shaped b = true then some (.fz (.bool (PyData.eqv a b))) else none
def gNe : PyData → PyData → Option Res := fun a b => if SeqAt.shaped a = true ∧ SeqAt.shaped b = true then some (.fz (.bool (!PyData.eqv a b))) else none
theorem o_eq {K : PySem.W.Frag} : Op2 K (rEqD K) gEq := fun B H0 Hf H v u a b c Q e1 e2 q1 q2 hg k => by
  unfold gEq at hg
  split at hg
  · rename_i z
    cases hg
    exact ⟨_, _, q1.dp e1, q2.dp e1, z.1, z.2, k _ Hf H (Gr.refl e1) (Dp.bl _)⟩
  · cases hg
theorem o_ne {K : PySem.W.Frag} : Op2 K (rNeD K) gNe := fun B H0 Hf H v u a b c Q e1 e2 q1 q2 hg k => by
  unfold gNe at hg
  split at hg
  · rename_i z
    cases hg
    exact ⟨_, _, q1.dp e1, q2.dp e1, z.1, z.2, k _ Hf H (Gr.refl e1) (Dp.bl _)⟩
  · cases hg
/-- is, is not: None on the right, or two bools -/
def rIs : R2 := fun x y H Q => (y = .non ∧ Q (.bl (decide (x = .non))) H) ∨ rIsB x y H Q
def rIsNot : R2 := fun x y H Q => (y = .non ∧ Q (.bl (!decide (x = .non))) H) ∨ rNotB x y H Q
theorem op_isD : OpR X (compareOp .Is) rIs := op_isN.or op_isBl
theorem op_isnotD : OpR X (compareOp .IsNot) rIsNot := op_notN.or op_notBl
def isNone : PyData → Bool
  | .none => true
  | _ => false
def gIs : PyData → PyData → Option Res
  | a, .none => some (.fz (.bool (isNone a)))
  | .bool a, .bool b => some (.fz (.bool (decide (a = b))))
  | _, _ => none
def gIsNot : PyData → PyData → Option Res
  | a, .none => some (.fz (.bool (!isNone a)))
  | .bool a, .bool b => some (.fz (.bool (!decide (a = b))))
  | _, _ => none
theorem isNone_of {K : PySem.W.Frag} {H : Hp} {v : V} {d : PyData} (h : Dp K H v d) : decide (v = .non) = isNone d := by
  cases h <;> rfl
theorem o_is {K : PySem.W.Frag} : Op2 K rIs gIs := fun B H0 Hf H v u a b c Q e1 e2 q1 q2 hg k => by
  unfold gIs at hg
  split at hg
  · rename_i h2
    cases hg
    refine .inl ⟨q2.non h2, ?_⟩
    rw [isNone_of (q1.dp e1)]
    exact k _ Hf H (Gr.refl e1) (Dp.bl _)
  · rename_i x y h1 h2
    cases hg
    exact .inr ⟨x, y, q1.bl h1, q2.bl h2, k _ Hf H (Gr.refl e1) (Dp.bl _)⟩
  · cases hg
theorem o_isnot {K : PySem.W.Frag} : Op2 K rIsNot gIsNot := fun B H0 Hf H v u a b c Q e1 e2 q1 q2 hg k => by
  unfold gIsNot at hg
  split at hg
  · rename_i h2
    cases hg
    refine .inl ⟨q2.non h2, ?_⟩
    rw [isNone_of (q1.dp e1)]
    exact k _ Hf H (Gr.refl e1) (Dp.bl _)
  · rename_i x y h1 h2
    cases hg
    exact .inr ⟨x, y, q1.bl h1, q2.bl h2, k _ Hf H (Gr.refl e1) (Dp.bl _)⟩
  · cases hg
/-- in, not in: of a list or tuple of flat items -/
def flatD : PyData → Bool
  | .none => true
  | .bool _ => true
  | .int _ => true
  | .str _ => true
  | _ => false
def inD (x : PyData) (xs : List PyData) : Bool := xs.any fun y => PyData.eqv y x
theorem flat_of {K : PySem.W.Frag} {H : Hp} {v : V} {d : PyData} (h : Dp K H v d) (f : flatD d = true) : flatV v = true := by
  cases h <;> first | rfl | exact absurd (show false = true from f) Bool.false_ne_true
theorem flats_of {K : PySem.W.Frag} {H : Hp} : ∀ {vs : List V} {ds : List PyData}, DpAll K H vs ds → ds.all flatD = true → vs.all flatV = true
  | _, _, .nil, _ => rfl
  | _, _, .cons a t, f => by
    rw [List.all_cons, Bool.and_eq_true] at f ⊢
    exact ⟨flat_of a f.1, flats_of t f.2⟩
theorem eqV_of {K : PySem.W.Frag} {H : Hp} {v u : V} {d e : PyData} (h : Dp K H v d) (h' : Dp K H u e) (f : flatD d = true) (f' : flatD e = true) : eqV v u = PyData.eqv d e := by
  cases h <;> cases h' <;> first
    | rfl
    | exact absurd (show false = true from f) Bool.false_ne_true
    | exact absurd (show false = true from f') Bool.false_ne_true
    | (rename_i a b; cases a <;> rfl)
    | (rename_i a b; cases b <;> rfl)
    | (rename_i a b; cases a <;> cases b <;> rfl)
theorem inV_of {K : PySem.W.Frag} {H : Hp} {v : V} {d : PyData} (h : Dp K H v d) (f : flatD d = true) : ∀ {vs : List V} {ds : List PyData}, DpAll K H vs ds → ds.all flatD = true → inV v vs = inD d ds
  | _, _, .nil, _ => rfl
  | _, _, .cons a t, g => by
    rw [List.all_cons, Bool.and_eq_true] at g
    unfold inV inD
    rw [List.any_cons, List.any_cons, eqV_of a h g.1 f]
    have q := inV_of h f t g.2
    unfold inV inD at q
    rw [q]
def gIn (neg : Bool) : PyData → PyData → Option Res
  | x, .list ys => if flatD x = true ∧ ys.all flatD = true then some (.fz (.bool (if neg then !inD x ys else inD x ys))) else none
  | x, .tuple ys => if flatD x = true ∧ ys.all flatD = true then some (.fz (.bool (if neg then !inD x ys else inD x ys))) else none
  | _, _ => none
theorem o_in {K : PySem.W.Frag} {neg : Bool} : Op2 K (rIn K neg) (gIn neg) := fun B H0 Hf H v u a b c Q e1 e2 q1 q2 hg k => by
  unfold gIn at hg
  have d1 := q1.dp e1
  split at hg
  · rename_i ys h2
    split at hg
    · rename_i z
      cases hg
      obtain ⟨p, vs, rfl, s2, d2⟩ := q2.lst e1 h2
      refine ⟨p, vs, rfl, .inl s2, flat_of d1 z.1, flats_of d2 z.2, ?_⟩
      rw [inV_of d1 z.1 (dpa_mono e1 _ _ d2) z.2]
      exact k _ Hf H (Gr.refl e1) (Dp.bl _)
    · cases hg
  · rename_i ys h2
    split at hg
    · rename_i z
      cases hg
      obtain ⟨p, vs, rfl, s2, d2⟩ := q2.tup h2
      refine ⟨p, vs, rfl, .inr (sqt_mono e1 s2), flat_of d1 z.1, flats_of d2 z.2, ?_⟩
      rw [inV_of d1 z.1 (dpa_mono e1 _ _ d2) z.2]
      exact k _ Hf H (Gr.refl e1) (Dp.bl _)
    · cases hg
  · cases hg

/-! ### one operand -/
def Op1 (K : PySem.W.Frag) (r : V → Hp → VK → Prop) (g : PyData → Option Res) : Prop :=
  ∀ (B H0 Hf H : Hp) (v : V) (a c : Res) (Q : VK), Same Hf H → Same H0 H → RR K B H0 Hf H v a → g a.rd = some c → (∀ w Hf' H', Gr Hf H Hf' H' → RR K B H Hf' H' w c → Q w H') → r v H Q
def f1 (g : PyData → Option Res) (fa : FE) : FE := fun ρ => (fa ρ).bind fun a => g a.rd
theorem ent1 {K : PySem.W.Frag} {r : V → Hp → VK → Prop} {g : PyData → Option Res} (o : Op1 K r g) : ∀ σ H Q, tD K (f1 g fa) σ H Q → tUn r (tD K fa) σ H Q := fun σ H Q h => by
  obtain ⟨B, Hf, ρ, c, er, hf, k⟩ := h
  unfold f1 at hf
  obtain ⟨ra, h1, hf⟩ := Option.bind_eq_some_iff.mp hf
  exact ⟨B, Hf, ρ, ra, er, h1, fun v Hf1 H1 g1 q1 => o B H Hf1 H1 v ra c Q g1.fh g1.h q1 hf fun w Hf3 H3 g3 q3 => k w Hf3 H3 (g1.trans g3) (q3.back g1.h)⟩
def gNeg : PyData → Option Res
  | .int i => some (.fz (.int (-i)))
  | _ => none
theorem o_neg {K : PySem.W.Frag} : Op1 K (rU fun i => .int (-i)) gNeg := fun B H0 Hf H v a c Q e1 e2 q1 hg k => by
  unfold gNeg at hg
  split at hg
  · rename_i i h1
    cases hg
    exact ⟨i, q1.int h1, k _ Hf H (Gr.refl e1) (Dp.int _)⟩
  · cases hg
theorem d_neg (ha : DE X a fa) : DE X (.UnaryOp .USub a pos) (f1 gNeg fa) := pe_mono (pe_un un_neg ha) (ent1 o_neg)

/-! ### truth -/
def tru : PyData → Option Bool
  | .none => some false
  | .bool b => some b
  | .int i => some (i != 0)
  | .str x => if small x.length then some ((x.length : Int) != 0) else none
  | .list xs => some (!xs.isEmpty)
  | .tuple xs => some (!xs.isEmpty)
  | .dict _ => none
theorem emp_of {K : PySem.W.Frag} {H : Hp} {vs : List V} {ds : List PyData} (h : DpAll K H vs ds) : ds.isEmpty = vs.isEmpty := by
  cases h <;> rfl
theorem tru_of {K : PySem.W.Frag} {H : Hp} {v : V} {d : PyData} {b : Bool} (h : Dp K H v d) (t : tru d = some b) : TruV K v H b := by
  cases h with
  | non => cases t; rfl
  | bl x => cases t; rfl
  | int i => cases t; rfl
  | str x =>
    unfold tru at t
    simp only at t
    split at t
    · rename_i z; cases t; exact ⟨sm_line z, rfl⟩
    · cases t
  | lst hs ha =>
    cases t
    exact .inl ⟨_, hs, by rw [emp_of ha]⟩
  | tup hs ha =>
    cases t
    exact .inr (.inl ⟨_, hs, by rw [emp_of ha]⟩)
/-- any expression's truth, as a test -/
def fTru (f : FE) : Rho → Option Bool := fun ρ => (f ρ).bind fun r => tru r.rd
theorem t_tru (ha : DE X a fa) (he : ∀ whole, isTrue a X.env whole = (do let v ← whole; standAt a.pos; holding [v] (truthy v)) := by intro _; rfl) : DT X a (fTru fa) := pt_mono (pt_truth ha he) fun σ H Q h => by
  obtain ⟨B, Hf, ρ, c, er, hf, k⟩ := h
  obtain ⟨r, h1, h2⟩ := Option.bind_eq_some_iff.mp hf
  exact ⟨B, Hf, ρ, r, er, h1, fun v Hf' H' g' q => ⟨c, tru_of (q.dp g'.fh) h2, k Hf' H' g'⟩⟩
def tNotF (f : Rho → Option Bool) : Rho → Option Bool := fun ρ => (f ρ).map (!·)
theorem t_not {t : Rho → Option Bool} (ha : DT X a t) : DT X (.UnaryOp .Not a pos) (tNotF t) := pt_mono (pt_not ha) fun σ H Q h => by
  obtain ⟨B, Hf, ρ, c, er, hf, k⟩ := h
  unfold tNotF at hf
  obtain ⟨b, h1, h2⟩ := Option.map_eq_some_iff.mp hf
  subst h2
  exact ⟨B, Hf, ρ, b, er, h1, k⟩
abbrev DW (X : Cx) (e : Expr) (f : Rho → Option Bool) : Prop := PW X e (tDT X.K f)
theorem pw_mono {X : Cx} {e : Expr} {t t' : TT} (h : PW X e t) (k : ∀ σ H Q, t' σ H Q → t σ H Q) : PW X e t' := ⟨fun whole pins s σ H Q I q => h.run whole pins s σ H Q I (k _ _ _ q)⟩
def tAndF (f g : Rho → Option Bool) : Rho → Option Bool := fun ρ => (f ρ).bind fun a => if a = true then g ρ else some false
def tOrF (f g : Rho → Option Bool) : Rho → Option Bool := fun ρ => (f ρ).bind fun a => if a = true then some true else g ρ
variable {t u : Rho → Option Bool} {rest : List Expr}
theorem w_and1 (ha : DT X a t) : DW X (.BoolOp .And [a] pos) t := pw_and1 ha
theorem w_or1 (ha : DT X a t) : DW X (.BoolOp .Or [a] pos) t := pw_or1 ha
theorem w_and (ha : DT X a t) (hb : DW X (.BoolOp .And (b :: rest) pos) u) : DW X (.BoolOp .And (a :: b :: rest) pos) (tAndF t u) := pw_mono (pw_and ha hb) fun σ H Q h => by
  obtain ⟨B, Hf, ρ, c, er, hf, k⟩ := h
  unfold tAndF at hf
  obtain ⟨x, h1, h2⟩ := Option.bind_eq_some_iff.mp hf
  refine ⟨B, Hf, ρ, x, er, h1, fun Hf' H' g' => ?_⟩
  cases x with
  | true => exact ⟨B, Hf', ρ, c, er.grow g', h2, fun Hf2 H2 g2 => k _ _ (g'.trans g2)⟩
  | false => cases h2; exact k _ _ g'
theorem w_or (ha : DT X a t) (hb : DW X (.BoolOp .Or (b :: rest) pos) u) : DW X (.BoolOp .Or (a :: b :: rest) pos) (tOrF t u) := pw_mono (pw_or ha hb) fun σ H Q h => by
  obtain ⟨B, Hf, ρ, c, er, hf, k⟩ := h
  unfold tOrF at hf
  obtain ⟨x, h1, h2⟩ := Option.bind_eq_some_iff.mp hf
  refine ⟨B, Hf, ρ, x, er, h1, fun Hf' H' g' => ?_⟩
  cases x with
  | true => cases h2; exact k _ _ g'
  | false => exact ⟨B, Hf', ρ, c, er.grow g', h2, fun Hf2 H2 g2 => k _ _ (g'.trans g2)⟩
theorem t_bool (h : DW X a t) : DT X a t := h.pt
/-- and, or, not as values -/
def fAnd (fa fb : FE) : FE := fun ρ => (fa ρ).bind fun a => (tru a.rd).bind fun k => if k = true then fb ρ else some a
def fOr (fa fb : FE) : FE := fun ρ => (fa ρ).bind fun a => (tru a.rd).bind fun k => if k = true then some a else fb ρ
theorem d_one {op} (h : DE X a fa) : DE X (.BoolOp op [a] pos) fa := pe_one h
theorem d_and (ha : DE X a fa) (hb : DE X (.BoolOp .And (b :: rest) pos) fb) : DE X (.BoolOp .And (a :: b :: rest) pos) (fAnd fa fb) := pe_mono (pe_andT ha hb) fun σ H Q h => by
  obtain ⟨B, Hf, ρ, c, er, hf, k⟩ := h
  unfold fAnd at hf
  obtain ⟨x, h1, h2⟩ := Option.bind_eq_some_iff.mp hf
  obtain ⟨y, h3, h4⟩ := Option.bind_eq_some_iff.mp h2
  refine ⟨B, Hf, ρ, x, er, h1, fun v Hf' H' g' q => ⟨y, tru_of (q.dp g'.fh) h3, ?_⟩⟩
  cases y with
  | true => exact ⟨B, Hf', ρ, c, er.grow g', h4, fun w Hf2 H2 g2 q2 => k _ _ _ (g'.trans g2) (q2.back g'.h)⟩
  | false => cases h4; exact k _ _ _ g' q
theorem d_or (ha : DE X a fa) (hb : DE X (.BoolOp .Or (b :: rest) pos) fb) : DE X (.BoolOp .Or (a :: b :: rest) pos) (fOr fa fb) := pe_mono (pe_orT ha hb) fun σ H Q h => by
  obtain ⟨B, Hf, ρ, c, er, hf, k⟩ := h
  unfold fOr at hf
  obtain ⟨x, h1, h2⟩ := Option.bind_eq_some_iff.mp hf
  obtain ⟨y, h3, h4⟩ := Option.bind_eq_some_iff.mp h2
  refine ⟨B, Hf, ρ, x, er, h1, fun v Hf' H' g' q => ⟨y, tru_of (q.dp g'.fh) h3, ?_⟩⟩
  cases y with
  | true => cases h4; exact k _ _ _ g' q
  | false => exact ⟨B, Hf', ρ, c, er.grow g', h4, fun w Hf2 H2 g2 q2 => k _ _ _ (g'.trans g2) (q2.back g'.h)⟩
def fNot (fa : FE) : FE := fun ρ => (fa ρ).bind fun a => (tru a.rd).map fun k => .fz (.bool (!k))
theorem d_not (ha : DE X a fa) : DE X (.UnaryOp .Not a pos) (fNot fa) := pe_mono (pe_notT ha) fun σ H Q h => by
  obtain ⟨B, Hf, ρ, c, er, hf, k⟩ := h
  unfold fNot at hf
  obtain ⟨x, h1, h2⟩ := Option.bind_eq_some_iff.mp hf
  obtain ⟨y, h3, h4⟩ := Option.map_eq_some_iff.mp h2
  subst h4
  exact ⟨B, Hf, ρ, x, er, h1, fun v Hf' H' g' q => ⟨y, tru_of (q.dp g'.fh) h3, k _ _ _ g' (Dp.bl _)⟩⟩
def fIf (t : Rho → Option Bool) (fa fb : FE) : FE := fun ρ => (t ρ).bind fun k => if k = true then fa ρ else fb ρ
theorem d_if (hc : DT X c t) (ha : DE X a fa) (hb : DE X b fb) : DE X (.IfExp c a b pos) (fIf t fa fb) := pe_mono (pe_ifExp hc ha hb) fun σ H Q h => by
  obtain ⟨B, Hf, ρ, r, er, hf, k⟩ := h
  unfold fIf at hf
  obtain ⟨y, h3, h4⟩ := Option.bind_eq_some_iff.mp hf
  refine ⟨B, Hf, ρ, y, er, h3, fun Hf' H' g' => ?_⟩
  cases y with
  | true => exact ⟨B, Hf', ρ, r, er.grow g', h4, fun w Hf2 H2 g2 q2 => k _ _ _ (g'.trans g2) (q2.back g'.h)⟩
  | false => exact ⟨B, Hf', ρ, r, er.grow g', h4, fun w Hf2 H2 g2 q2 => k _ _ _ (g'.trans g2) (q2.back g'.h)⟩

/-! ### argument lists, displays -/
def aNil : FA := fun _ => some []
def aCons (f : FE) (g : FA) : FA := fun ρ => (f ρ).bind fun r => (g ρ).map fun rs => r :: rs
theorem RRs.grow {K : PySem.W.Frag} {B H0 Hf H Hf' H' : Hp} (g : Gr Hf H Hf' H') : ∀ {vs : List V} {rs : List Res}, RRs K B H0 Hf H vs rs → RRs K B H0 Hf' H' vs rs
  | _, _, .nil => .nil
  | _, _, .cons a t => .cons (a.grow g) (RRs.grow g t)
theorem RRs.back {K : PySem.W.Frag} {B H0 H1 Hf H : Hp} (s : Same H0 H1) : ∀ {vs : List V} {rs : List Res}, RRs K B H1 Hf H vs rs → RRs K B H0 Hf H vs rs
  | _, _, .nil => .nil
  | _, _, .cons a t => .cons (a.back s) (RRs.back s t)
theorem a_nil : DA X [] aNil := pa_mono pa_nil fun σ H Q h => by
  obtain ⟨B, Hf, ρ, r, er, hf, k⟩ := h
  cases hf
  exact k _ _ _ (Gr.refl er.fh) .nil
variable {fs : FA}
theorem a_cons (ha : DE X e fa) (hr : DA X es fs) (hs : starEach (e :: es) X.env = (false, eval e X.env) :: starEach es X.env := by rfl) : DA X (e :: es) (aCons fa fs) := pa_mono (pa_cons ha hr hs) fun σ H Q h => by
  obtain ⟨B, Hf, ρ, r, er, hf, k⟩ := h
  unfold aCons at hf
  obtain ⟨x, h1, h2⟩ := Option.bind_eq_some_iff.mp hf
  obtain ⟨y, h3, h4⟩ := Option.map_eq_some_iff.mp h2
  subst h4
  exact ⟨B, Hf, ρ, x, er, h1, fun v Hf' H' g' q => ⟨B, Hf', ρ, y, er.grow g', h3, fun vs Hf2 H2 g2 q2 => k _ _ _ (g'.trans g2) (.cons (q.grow g2) (q2.back g'.h))⟩⟩
/-- all made to stand still -/
def frs : List Res → Option (List PyData)
  | [] => some []
  | r :: rs => r.fr.bind fun x => (frs rs).map fun xs => x :: xs
theorem RRs.freeze {K : PySem.W.Frag} {B Hf H : Hp} {σ : L2.St} {ρ : Rho} (er : ER K B Hf H σ ρ) : ∀ {rs : List Res} {vs : List V} {xs : List PyData} {Hf' H' : Hp}, Gr Hf H Hf' H' → RRs K B H Hf' H' vs rs → frs rs = some xs → ∃ Hf2, Gr Hf H Hf2 H' ∧ Same Hf' Hf2 ∧ DpAll K Hf2 vs xs
  | [], _, _, Hf', H', g, .nil, h => by cases h; exact ⟨Hf', g, Same.refl _, .nil⟩
  | r :: rs, v :: vs, xs, Hf', H', g, .cons a t, h => by
    unfold frs at h
    obtain ⟨x, h1, h2⟩ := Option.bind_eq_some_iff.mp h
    obtain ⟨ys, h3, h4⟩ := Option.map_eq_some_iff.mp h2
    subst h4
    obtain ⟨Hf2, g2, s2, d2⟩ := RRs.freeze er g t h3
    cases r with
    | fz y => cases h1; exact ⟨Hf2, g2, s2, .cons (dp_mono s2 _ _ a) d2⟩
    | br y => cases h1
    | nw ys =>
      obtain ⟨p, ws, rfl, h0, n3, h5, h6⟩ := a
      cases h1
      by_cases z : Hf2 p = none
      · refine ⟨upd Hf2 p (.lst ws), ⟨g2.f.trans (same_upd z), g2.h, fun b o e => ?_, fun b o e n => ?_, fun b => (g2.bn b).upd .lst⟩, s2.trans (same_upd z), .cons (.lst (SqL.of upd_same) (dpa_mono (s2.trans (same_upd z)) _ _ h6)) (dpa_mono (same_upd z) _ _ d2)⟩
        · by_cases w : b = p
          · subst w; rw [upd_same] at e; cases e; exact h5
          · rw [upd_ne w] at e; exact g2.fh _ _ e
        · rw [upd_ne (ne_of_none e h0)]; exact g2.un b o e n
      · cases w : Hf2 p with
        | none => exact absurd w z
        | some o =>
          have e := g2.fh p o w
          rw [h5] at e
          cases e
          exact ⟨Hf2, g2, s2, .cons (.lst (SqL.of w) (dpa_mono s2 _ _ h6)) d2⟩
def fTup (fs : FA) : FE := fun ρ => (fs ρ).bind fun rs => (frs rs).bind fun xs => if small xs.length then some (.fz (.tuple xs)) else none
def fLst (fs : FA) : FE := fun ρ => (fs ρ).bind fun rs => (frs rs).bind fun xs => if small xs.length then some (.nw xs) else none
theorem d_tup {k} (h : DA X es fs) : DE X (.Tuple es k pos) (fTup fs) := pe_mono (pe_tupF h) fun σ H Q h => by
  obtain ⟨B, Hf, ρ, r, er, hf, k⟩ := h
  unfold fTup at hf
  obtain ⟨rs, h1, h2⟩ := Option.bind_eq_some_iff.mp hf
  obtain ⟨xs, h3, h4⟩ := Option.bind_eq_some_iff.mp h2
  split at h4
  · rename_i hz
    cases h4
    refine ⟨B, Hf, ρ, rs, er, h1, fun vs Hf' H' g' q => ?_⟩
    obtain ⟨Hf2, g2, s2, d2⟩ := RRs.freeze er g' q h3
    refine ⟨by rw [dpa_len d2]; exact sm_line hz, fun p ob hp hd => ?_⟩
    have gn : Gr Hf2 H' (upd Hf2 p (.frz ob (.tup vs))) (upd H' p (.frz ob (.tup vs))) := Gr.new g2.fh hp (.tupF hd)
    exact k _ _ _ (g2.trans gn) (Dp.tup (sqt_frz upd_same) (dpa_mono gn.f _ _ d2))
  · cases h4
theorem d_lst (h : DA X es fs) : DE X (.List es pos) (fLst fs) := pe_mono (pe_lst h) fun σ H Q h => by
  obtain ⟨B, Hf, ρ, r, er, hf, k⟩ := h
  unfold fLst at hf
  obtain ⟨rs, h1, h2⟩ := Option.bind_eq_some_iff.mp hf
  obtain ⟨xs, h3, h4⟩ := Option.bind_eq_some_iff.mp h2
  split at h4
  · rename_i hz
    cases h4
    refine ⟨B, Hf, ρ, rs, er, h1, fun vs Hf' H' g' q => ?_⟩
    obtain ⟨Hf2, g2, s2, d2⟩ := RRs.freeze er g' q h3
    refine ⟨by rw [dpa_len d2]; exact sm_line hz, fun p hp => ?_⟩
    have gn : Gr Hf2 H' Hf2 (upd H' p (.lst vs)) := Gr.newU g2.fh hp
    exact k _ _ _ (g2.trans gn) ⟨p, vs, rfl, g2.h.free hp, g2.fh.free hp, upd_same, d2⟩
  · cases h4
end
end DL
/-! t[::-1] -/
namespace DL
open PySem PySem.Spec PyProof.Rows L2 HT
section
variable {prog : Program} {w : World} {A : Around} {E : Value → Shared → Prop} {s : Shared}
theorem sliceApplied_rev {sl : Addr} {vl vu vs : Value} {n : Nat} {Q : Int × Int × Nat → Shared → Prop} (hs : s.heap.IsSliceOf sl vl vu vs) (pl : IsPart vl none) (pu : IsPart vu none) (ps : IsPart vs (some (-1)))
    (h : Q ((n : Int) - 1, -1, n) s) : wpAny (model prog w) A (Builtin.Slice.sliceApplied (.ref sl) (pure (n : Int))) Q E s := by
  obtain ⟨os, hos, hcs, hds⟩ := id hs
  unfold Builtin.Slice.sliceApplied Builtin.Slice.sliceFields
  refine wpAny_bind (wpAny_bind (wpAny_field hos hds (x := vl) rfl (wpAny_bind (wpAny_field hos hds (x := vu) rfl (wpAny_bind (wpAny_field hos hds (x := vs) rfl (wpAny_pure ?_)))))))
  refine wpAny_bind (slicePart_ ps ?_)
  show wpAny _ _ (if ((-1 : Int) == 0) = true then _ else _) _ _ s
  rw [if_neg (by decide)]
  refine wpAny_bind (slicePart_ pl (wpAny_bind (slicePart_ pu (wpAny_bind (wpAny_pure ?_)))))
  show wpAny _ _ (match Builtin.Slice.sliceAdjust none none (-1) (n : Int) with | (lo, hi) => pure (lo, (-1 : Int), Builtin.Slice.slicePlaces lo hi (-1))) _ _ s
  have e : Builtin.Slice.sliceAdjust none none (-1) (n : Int) = ((n : Int) - 1, -1) := by
    unfold Builtin.Slice.sliceAdjust
    simp
  rw [e]
  have e2 : Builtin.Slice.slicePlaces ((n : Int) - 1) (-1) (-1) = n := by
    unfold Builtin.Slice.slicePlaces
    have h1 : ¬ ((-1 : Int) > 0) := by omega
    simp only [h1, if_false, Int.neg_neg, Int.ediv_one]
    split <;> omega
  show wpAny _ _ (pure ((n : Int) - 1, (-1 : Int), Builtin.Slice.slicePlaces ((n : Int) - 1) (-1) (-1))) _ _ s
  rw [e2]
  exact wpAny_pure h
theorem fmap_congr {α β : Type} {f g : α → Option β} : ∀ {l : List α}, (∀ m ∈ l, f m = g m) → l.filterMap f = l.filterMap g
  | [], _ => rfl
  | a :: t, h => by
    rw [List.filterMap_cons, List.filterMap_cons, h a List.mem_cons_self, fmap_congr fun m hm => h m (List.mem_cons_of_mem _ hm)]
theorem pick_rev (xs : Array Value) : ((List.range xs.size).filterMap fun (m : Nat) => xs[(((xs.size : Nat) : Int) - 1 + (m : Int) * (-1)).toNat]?).toArray = xs.toList.reverse.toArray := by
  congr 1
  have key : ∀ m ∈ List.range xs.size, xs[(((xs.size : Nat) : Int) - 1 + (m : Int) * (-1)).toNat]? = (fun m => xs.toList.reverse[m]?) m := fun m hm => by
    have hm' : m < xs.size := List.mem_range.mp hm
    have e : (((xs.size : Nat) : Int) - 1 + (m : Int) * (-1)).toNat = xs.size - 1 - m := by omega
    rw [e]
    show _ = xs.toList.reverse[m]?
    rw [List.getElem?_reverse (by simpa using hm'), Array.length_toList, Array.getElem?_toList]
  rw [fmap_congr key]
  have := pick_run xs.toList.reverse.toArray 0 xs.size
  simp only [Nat.zero_add] at this
  have e3 : List.filterMap (fun m => xs.toList.reverse[m]?) (List.range xs.size) = xs.toList.reverse := by
    have hl : xs.size = xs.toList.reverse.length := by simp
    rw [hl]
    generalize xs.toList.reverse = l
    induction l with
    | nil => rfl
    | cons a t ih =>
      rw [List.length_cons, List.range_succ_eq_map, List.filterMap_cons]
      simp only [List.getElem?_cons_zero, List.filterMap_map]
      congr 1
  exact e3
theorem getItem_tuple_rev {t sl : Addr} {items : Array Value} {vl vu vs : Value} {Q : Value → Shared → Prop} (ht : IsTup s.heap t items) (hs : s.heap.IsSliceOf sl vl vu vs) (pl : IsPart vl none) (pu : IsPart vu none) (ps : IsPart vs (some (-1)))
    (h : Q (.ref s.heap.objs.size) { s with heap := s.heap.push { cls := .type "tuple", data := .seq items.toList.reverse.toArray } })
    (hsz : items.size ≤ sizeLine) : wpAny (model prog w) A (getItem (.ref t) (.ref sl)) Q E s := by
  have htake : sizeOk (.seq items.toList.reverse.toArray) := by
    show items.toList.reverse.toArray.size ≤ sizeLine
    simpa using hsz
  obtain ⟨os, hos, hcs, hds⟩ := id hs
  have hTs : s.TypeIs (.ref sl) "slice" := ⟨os, hos, hcs⟩
  unfold getItem
  try with_reducible refine wpAny_holding ?_
  first | refine wpAny_bind (wpAny_pure ?_) | skip
  refine wpAny_bind (wpAny_sequenceKey ht.typeIs (by decide) ?_)
  refine wpAny_bind (wpAny_callSpecial?_slot (name := Str.ofString "__getitem__") ht.typeIs PyProof.Rows.slot_tuple_getitem
    (wpAny_call_entry PyProof.Rows.slot_tuple_getitem ht.typeIs entry_tuple_getitem ?_ (args_tuple_getitem _ _)))
  show wpAny _ _ (Builtin.Tuple.tupleItemsOf (.ref t) >>= _) _ _ s
  refine wpAny_bind (tupleItemsOf_ ht ?_)
  refine wpAny_bind (wpAny_typeOf hTs ?_)
  rw [if_pos (by decide)]
  refine wpAny_bind (sliceApplied_rev hs pl pu ps ?_)
  have hno : ¬ ((((items.size : Nat) : Int) - 1 == 0 && (-1 : Int) == 1 && items.size == items.size) = true) := by
    intro q
    rw [Bool.and_eq_true, Bool.and_eq_true] at q
    exact absurd q.1.2 (by decide)
  show wpAny _ _ (if (((items.size : Nat) : Int) - 1 == 0 && (-1 : Int) == 1 && items.size == items.size) = true then _ else _) _ _ s
  rw [if_neg hno, pick_rev]
  first
    | exact wpAny_bind (m := Builtin.Tuple.tupleExact _) (wpAny_newObj_type (wpAny_pure ⟨_, rfl, wpAny_pure h⟩) htake)
    | exact wpAny_bind (m := Builtin.Tuple.tupleExact _) (wpAny_newObj_type (wpAny_bind (wpAny_pure (wpAny_pure ⟨_, rfl, wpAny_pure h⟩))) htake)
    | exact wpAny_bind (wpAny_bind (m := Builtin.Tuple.tupleExact _) (wpAny_newObj_type (wpAny_pure (wpAny_pure ⟨_, rfl, wpAny_pure h⟩)) htake))
    | exact wpAny_bind (wpAny_bind (m := Builtin.Tuple.tupleExact _) (wpAny_newObj_type (wpAny_pure ⟨_, rfl, wpAny_pure h⟩) htake))
end
/-- xs[::-1]: of a list or a tuple -/
def tRevA (K : PySem.W.Frag) (te : TE) : TE := fun σ H Q => te σ H fun x H1 => ∃ a xs, x = .ref a ∧ ((SqL K H1 a xs ∧ ∀ p, H1 p = none → Q (.ref p) (upd H1 p (.lst xs.reverse))) ∨ (SqT K H1 a xs ∧ NewT xs.reverse H1 Q))
theorem pe_revA {X : Cx} {e : Expr} {te : TE} {k : Nat} {p1 p2 p3 pos : Pos} (he : PE X e te) : PE X (.Subscript e (.Slice none none (some (.UnaryOp .USub (.Constant (.int 1) k p1) p2)) p3) pos) (tRevA X.K te) := by
  refine ⟨fun pins s σ H Q I h => ?_⟩
  refine Subscript_ (thn (he.run pins s σ H _ I h) fun v s1 ⟨x, H1, I1, r1, q1⟩ => ?_)
  obtain ⟨a, xs, ex, hx⟩ := q1
  subst ex
  cases r1
  have hst : PO X (some (.UnaryOp .USub (.Constant (.int 1) k p1) p2)) (tPart (tUn (rU fun i => .int (-i)) (tC (.int 1)))) := po_some (pe_un un_neg pe_int)
  refine wpAny_Slice (thn (po_none.run pins s1 σ H1 (fun o H2 => o = none ∧ H2 = H1) I1 ⟨rfl, rfl⟩) fun vl s2 ⟨l, H2, I2, pl, el, e2⟩ => ?_)
  subst el e2
  refine thn (po_none.run pins s2 σ H2 (fun o H3 => o = none ∧ H3 = H2) I2 ⟨rfl, rfl⟩) fun vu s3 ⟨u, H3, I3, pu, eu, e3⟩ => ?_
  subst eu e3
  refine thn (hst.run pins s3 σ H3 (fun o H4 => o = some (-1) ∧ H4 = H3) I3 ⟨1, rfl, -1, rfl, rfl, rfl⟩) fun vs s4 ⟨o, H4, I4, ps, eo, e4⟩ => ?_
  subst eo e4
  have I5 : Inv X pins σ H4 { s4 with heap := s4.heap.push { cls := .type "slice", data := .fields #[vl, vu, vs] } } := I4.kept (t' := s4.toks) fun b ob q => Heap.get?_push_of_some _ q
  show wpAny (model X.prog X.w) X.A (subscriptTail e (.Slice none none (some (.UnaryOp .USub (.Constant (.int 1) k p1) p2)) p3) (.ref a) (.ref s4.heap.objs.size)) (EP X pins σ Q) X.xe { s4 with heap := s4.heap.push { cls := .type "slice", data := .fields #[vl, vu, vs] } }
  rcases hx with ⟨hx, q⟩ | ⟨hx, q⟩
  · obtain ⟨its, r, ht, hz⟩ := I5.list hx
    have hlen := r.length
    refine tail_any (ops := [.ref a, .ref s4.heap.objs.size]) ht.isList.typeIs (PySem.slot_list_getitem.lookup) ?_ (by with_unfolding_all rfl)
    refine wpAny_getItem_list_slice ht.isList (Heap.IsSliceOf.new _ vl vu vs) pl pu ps (by decide) ?_ (by rw [List.size_toArray]; omega)
    rw [PySem.W.krv_pick]
    refine ⟨.ref _, _, I5.laid (t' := s4.toks) (o := .lst xs.reverse) (fun b ob q => Heap.get?_push_of_some _ q) (Nat.le_refl _) ?_, rfl, q _ (I5.hok.fresh (Nat.le_refl _))⟩
    exact ⟨by rw [List.length_reverse]; exact hz, _, 0, r.reverse, Heap.get?_push_size _ rfl⟩
  · obtain ⟨its, r, ht, hz⟩ := I5.tuple hx
    have hlen := r.length
    refine tail_any (ops := [.ref a, .ref s4.heap.objs.size]) ht.typeIs PyProof.Rows.slot_tuple_getitem.lookup ?_ (by with_unfolding_all rfl)
    refine getItem_tuple_rev ht (Heap.IsSliceOf.new _ vl vu vs) pl pu ps ?_ (by rw [List.size_toArray]; omega)
    exact laid_tup (t' := s4.toks) I5 r.reverse (by rw [List.length_reverse]; exact hz) q
end DL
namespace DL
open PySem PySem.Spec PyProof.Rows L2
section
variable {X : Cx} {a b c e : Expr} {es : List Expr} {fa fb fc : FE} {fs : FA} {pos : Pos}

/-! ### subscripts -/
def gIx : PyData → PyData → Option Res
  | .list xs, .int i => (atI xs i).map .fz
  | .tuple xs, .int i => (atI xs i).map .fz
  | .str z, .int i => if small z.length then (atI z.cps.toList i).map fun c => .fz (.str ⟨#[c]⟩) else none
  | _, _ => none
theorem dpa_atI {K : PySem.W.Frag} {H : Hp} {vs : List V} {ds : List PyData} {i : Int} {d : PyData} (h : DpAll K H vs ds) (e : atI ds i = some d) : ∃ v, atI vs i = some v ∧ Dp K H v d := by
  unfold atI at e ⊢
  rw [dpa_len h]
  obtain ⟨j, h1, h2⟩ := Option.bind_eq_some_iff.mp e
  rw [h1]
  exact dpa_get h h2
theorem o_ix {K : PySem.W.Frag} : Op2 K (rIx K) gIx := fun B H0 Hf H v u a b c Q e1 e2 q1 q2 hg k => by
  unfold gIx at hg
  split at hg
  · rename_i xs i h1 h2
    obtain ⟨d, h3, h4⟩ := Option.map_eq_some_iff.mp hg
    subst h4
    obtain ⟨p, vs, rfl, s1, d1⟩ := q1.lst e1 h1
    obtain ⟨w, h5, h6⟩ := dpa_atI d1 h3
    exact .inl ⟨p, vs, i, w, rfl, q2.int h2, s1, h5, k _ Hf H (Gr.refl e1) h6⟩
  · rename_i xs i h1 h2
    obtain ⟨d, h3, h4⟩ := Option.map_eq_some_iff.mp hg
    subst h4
    obtain ⟨p, vs, rfl, s1, d1⟩ := q1.tup h1
    obtain ⟨w, h5, h6⟩ := dpa_atI d1 h3
    exact .inr (.inl ⟨p, vs, i, w, rfl, q2.int h2, sqt_mono e1 s1, h5, k _ Hf H (Gr.refl e1) h6⟩)
  · rename_i z i h1 h2
    split at hg
    · rename_i hz
      obtain ⟨d, h3, h4⟩ := Option.map_eq_some_iff.mp hg
      subst h4
      exact .inr (.inr ⟨z, i, d, q1.str h1, q2.int h2, sm_line hz, h3, k _ Hf H (Gr.refl e1) (Dp.str _)⟩)
    · cases hg
  · cases hg
theorem d_ix (ha : DE X a fa) (hb : DE X b fb) (hs : PlainIx b := by intro _ _; rfl) : DE X (.Subscript a b pos) (f2 gIx fa fb) := pe_mono (pe_ix ix_seq ha hb hs) (ent2 o_ix)

/-! ### slices -/
def tDO (K : PySem.W.Frag) (f : Rho → Option (Option Int)) : TO := fun σ H Q => ∃ B Hf ρ o, ER K B Hf H σ ρ ∧ f ρ = some o ∧ ∀ Hf' H', Gr Hf H Hf' H' → Q o H'
abbrev DO (X : Cx) (e : Option Expr) (f : Rho → Option (Option Int)) : Prop := PO X e (tDO X.K f)
theorem po_mono {X : Cx} {e : Option Expr} {t t' : TO} (h : PO X e t) (k : ∀ σ H Q, t' σ H Q → t σ H Q) : PO X e t' := ⟨fun pins s σ H Q I q => h.run pins s σ H Q I (k _ _ _ q)⟩
def oNone : Rho → Option (Option Int) := fun _ => some none
def oSome (f : FE) : Rho → Option (Option Int) := fun ρ => (f ρ).bind fun r => match r.rd with
  | .int i => some (some i)
  | _ => none
theorem p_none : DO X none oNone := po_mono po_none fun σ H Q h => by
  obtain ⟨B, Hf, ρ, o, er, hf, k⟩ := h
  cases hf
  exact k _ _ (Gr.refl er.fh)
theorem p_some (ha : DE X e fa) : DO X (some e) (oSome fa) := po_mono (po_some ha) fun σ H Q h => by
  obtain ⟨B, Hf, ρ, o, er, hf, k⟩ := h
  unfold oSome at hf
  obtain ⟨r, h1, h2⟩ := Option.bind_eq_some_iff.mp hf
  split at h2
  · rename_i i hi
    cases h2
    exact ⟨B, Hf, ρ, r, er, h1, fun v Hf' H' g' q => ⟨i, q.int hi, k _ _ g'⟩⟩
  · cases h2
def cutD {α : Type} (xs : List α) (lo hi : Option Int) : List α := (xs.drop (HT.sIx xs.length 0 lo)).take (HT.sIx xs.length xs.length hi - HT.sIx xs.length 0 lo)
theorem dpa_cut {K : PySem.W.Frag} {H : Hp} {vs : List V} {ds : List PyData} (h : DpAll K H vs ds) (lo hi : Option Int) : DpAll K H (cutV vs lo hi) (cutD ds lo hi) := by
  unfold cutV cutD
  rw [dpa_len h]
  exact dpa_take _ (dpa_drop _ h)
def rSlX (K : PySem.W.Frag) : V → Option Int → Option Int → Hp → VK → Prop := fun x lo hi H Q => rSlL K x lo hi H Q ∨ (rSlF K x lo hi H Q ∨ rSlS x lo hi H Q)
theorem sl_any : SlR X (rSlX X.K) := sl_list.or (sl_tupF.or sl_str)
def gSl (d : PyData) (lo hi : Option Int) : Option Res := match d with
  | .list xs => some (.nw (cutD xs lo hi))
  | .tuple xs => some (.fz (.tuple (cutD xs lo hi)))
  | .str z => if small z.length then some (.fz (.str (cutS z lo hi))) else none
  | _ => none
def fSl (fa : FE) (o1 o2 : Rho → Option (Option Int)) : FE := fun ρ => (fa ρ).bind fun a => (o1 ρ).bind fun lo => (o2 ρ).bind fun hi => gSl a.rd lo hi
variable {o1 o2 : Rho → Option (Option Int)} {lo hi : Option Expr} {p2 : Pos}
theorem cut_whole {α : Type} (xs : List α) (l h : Option Int) (w : HT.sIx xs.length 0 l = 0 ∧ HT.sIx xs.length xs.length h = xs.length) : cutD xs l h = xs := by
  unfold cutD
  rw [w.1, w.2, List.drop_zero, Nat.sub_zero, List.take_length]
theorem d_sl (ha : DE X e fa) (hl : DO X lo o1) (hu : DO X hi o2) : DE X (.Subscript e (.Slice lo hi none p2) pos) (fSl fa o1 o2) := pe_mono (pe_slice sl_any ha hl hu) fun σ H Q h => by
  obtain ⟨B, Hf, ρ, r, er, hf, k⟩ := h
  unfold fSl at hf
  obtain ⟨ra, h1, hf⟩ := Option.bind_eq_some_iff.mp hf
  obtain ⟨l, h2, hf⟩ := Option.bind_eq_some_iff.mp hf
  obtain ⟨u, h3, hf⟩ := Option.bind_eq_some_iff.mp hf
  refine ⟨B, Hf, ρ, ra, er, h1, fun v Hf1 H1 g1 q1 => ⟨B, Hf1, ρ, l, er.grow g1, h2, fun Hf2 H2 g2 => ⟨B, Hf2, ρ, u, (er.grow g1).grow g2, h3, fun Hf3 H3 g3 => ?_⟩⟩⟩
  have g := (g1.trans g2).trans g3
  have q3 := q1.grow (g2.trans g3)
  have e1 := g.fh
  unfold gSl at hf
  split at hf
  · rename_i xs hx
    cases hf
    obtain ⟨p, vs, rfl, s1, d1⟩ := q3.lst e1 hx
    refine .inl ⟨p, vs, rfl, s1, fun n hn => ?_⟩
    exact k _ _ _ (g.trans (Gr.newU e1 hn)) ⟨n, _, rfl, g.h.free hn, e1.free hn, upd_same, dpa_cut d1 _ _⟩
  · rename_i xs hx
    cases hf
    obtain ⟨p, vs, rfl, s1, d1⟩ := q3.tup hx
    refine .inr (.inl ⟨p, vs, rfl, sqt_mono e1 s1, fun w => ?_, fun w n ob hn hd => ?_⟩)
    · rw [dpa_len d1] at w
      rw [cut_whole xs l u w] at k
      exact k _ _ _ g (Dp.tup s1 d1)
    · have gn := Gr.new (o := .frz ob (.tup (cutV vs l u))) e1 hn (.tupF hd)
      exact k _ _ _ (g.trans gn) (Dp.tup (sqt_frz upd_same) (dpa_mono gn.f _ _ (dpa_cut d1 _ _)))
  · rename_i z hx
    split at hf
    · rename_i hz
      cases hf
      exact .inr (.inr ⟨z, q3.str hx, sm_line hz, k _ _ _ g (Dp.str _)⟩)
    · cases hf
  · cases hf
theorem dpa_rev {K : PySem.W.Frag} {H : Hp} : ∀ {vs : List V} {ds : List PyData}, DpAll K H vs ds → DpAll K H vs.reverse ds.reverse
  | _, _, .nil => .nil
  | _, _, .cons a t => by
    rw [List.reverse_cons, List.reverse_cons]
    exact dpa_app (dpa_rev t) (.cons a .nil)
def gRev : PyData → Option Res
  | .list xs => some (.nw xs.reverse)
  | .tuple xs => some (.fz (.tuple xs.reverse))
  | _ => none
theorem d_rev {k : Nat} {p1 p2 p3 : Pos} (ha : DE X e fa) : DE X (.Subscript e (.Slice none none (some (.UnaryOp .USub (.Constant (.int 1) k p1) p2)) p3) pos) (f1 gRev fa) := pe_mono (pe_revA ha) fun σ H Q h => by
  obtain ⟨B, Hf, ρ, r, er, hf, k⟩ := h
  unfold f1 at hf
  obtain ⟨ra, h1, hf⟩ := Option.bind_eq_some_iff.mp hf
  refine ⟨B, Hf, ρ, ra, er, h1, fun v Hf1 H1 g q => ?_⟩
  have e1 := g.fh
  unfold gRev at hf
  split at hf
  · rename_i xs hx
    cases hf
    obtain ⟨p, vs, rfl, s1, d1⟩ := q.lst e1 hx
    refine ⟨p, vs, rfl, .inl ⟨s1, fun n hn => ?_⟩⟩
    exact k _ _ _ (g.trans (Gr.newU e1 hn)) ⟨n, _, rfl, g.h.free hn, e1.free hn, upd_same, dpa_rev d1⟩
  · rename_i xs hx
    cases hf
    obtain ⟨p, vs, rfl, s1, d1⟩ := q.tup hx
    refine ⟨p, vs, rfl, .inr ⟨sqt_mono e1 s1, fun n ob hn hd => ?_⟩⟩
    have gn := Gr.new (o := .frz ob (.tup vs.reverse)) e1 hn (.tupF hd)
    exact k _ _ _ (g.trans gn) (Dp.tup (sqt_frz upd_same) (dpa_mono gn.f _ _ (dpa_rev d1)))
  · cases hf

/-! ### calls of built-ins -/
def OpC (K : PySem.W.Frag) (r : List V → Hp → VK → Prop) (g : List PyData → Option Res) : Prop :=
  ∀ (B H0 Hf H : Hp) (vs : List V) (rs : List Res) (c : Res) (Q : VK), Same Hf H → Same H0 H → RRs K B H0 Hf H vs rs → g (rs.map Res.rd) = some c →
    (∀ w Hf' H', Gr Hf H Hf' H' → RR K B H Hf' H' w c → Q w H') → r vs H Q
def fC1 (g : List PyData → Option Res) (fs : FA) : FE := fun ρ => (fs ρ).bind fun rs => g (rs.map Res.rd)
theorem entC {K : PySem.W.Frag} {r : List V → Hp → VK → Prop} {g : List PyData → Option Res} (o : OpC K r g) : ∀ σ H Q, tD K (fC1 g fs) σ H Q → tCB r (tDA K fs) σ H Q := fun σ H Q h => by
  obtain ⟨B, Hf, ρ, c, er, hf, k⟩ := h
  unfold fC1 at hf
  obtain ⟨rs, h1, hf⟩ := Option.bind_eq_some_iff.mp hf
  exact ⟨B, Hf, ρ, rs, er, h1, fun vs Hf1 H1 g1 q1 => o B H Hf1 H1 vs rs c Q g1.fh g1.h q1 hf fun w Hf3 H3 g3 q3 => k w Hf3 H3 (g1.trans g3) (q3.back g1.h)⟩
theorem RRs.one {K : PySem.W.Frag} {B H0 Hf H : Hp} {vs : List V} {rs : List Res} {x : PyData} (q : RRs K B H0 Hf H vs rs) (h : rs.map Res.rd = [x]) : ∃ v r, vs = [v] ∧ rs = [r] ∧ r.rd = x ∧ RR K B H0 Hf H v r := by
  cases q with
  | nil => cases h
  | cons a t =>
    cases t with
    | nil => cases h; exact ⟨_, _, rfl, rfl, rfl, a⟩
    | cons b u => cases h
theorem RRs.two {K : PySem.W.Frag} {B H0 Hf H : Hp} {vs : List V} {rs : List Res} {x y : PyData} (q : RRs K B H0 Hf H vs rs) (h : rs.map Res.rd = [x, y]) : ∃ v r w s, vs = [v, w] ∧ rs = [r, s] ∧ r.rd = x ∧ s.rd = y ∧ RR K B H0 Hf H v r ∧ RR K B H0 Hf H w s := by
  cases q with
  | nil => cases h
  | cons a t =>
    cases t with
    | nil => cases h
    | cons b u =>
      cases u with
      | nil => cases h; exact ⟨_, _, _, _, rfl, rfl, rfl, rfl, a, b⟩
      | cons c z => cases h
/-- len -/
def gLen : List PyData → Option Res
  | [.list xs] => some (.fz (.int xs.length))
  | [.tuple xs] => some (.fz (.int xs.length))
  | [.str x] => if small x.length then some (.fz (.int x.length)) else none
  | _ => none
theorem c_len {K : PySem.W.Frag} : OpC K (fun xs H Q => ∃ x n, xs = [x] ∧ LenV K x H n ∧ Q (.int n) H) gLen := fun B H0 Hf H vs rs c Q e1 e2 q hg k => by
  unfold gLen at hg
  split at hg
  · rename_i xs h
    cases hg
    obtain ⟨v, r, rfl, rfl, hr, q1⟩ := q.one h
    obtain ⟨p, ws, rfl, s1, d1⟩ := q1.lst e1 hr
    exact ⟨_, xs.length, rfl, .inl ⟨ws, s1, (dpa_len d1).symm⟩, k _ Hf H (Gr.refl e1) (Dp.int _)⟩
  · rename_i xs h
    cases hg
    obtain ⟨v, r, rfl, rfl, hr, q1⟩ := q.one h
    obtain ⟨p, ws, rfl, s1, d1⟩ := q1.tup hr
    exact ⟨_, xs.length, rfl, .inr ⟨ws, sqt_mono e1 s1, (dpa_len d1).symm⟩, k _ Hf H (Gr.refl e1) (Dp.int _)⟩
  · rename_i x h
    split at hg
    · rename_i hz
      cases hg
      obtain ⟨v, r, rfl, rfl, hr, q1⟩ := q.one h
      cases q1.str hr
      exact ⟨_, x.length, rfl, ⟨sm_line hz, rfl⟩, k _ Hf H (Gr.refl e1) (Dp.int _)⟩
    · cases hg
  · cases hg
def gAbs : List PyData → Option Res
  | [.int i] => some (.fz (.int (if i < 0 then -i else i)))
  | _ => none
theorem c_abs {K : PySem.W.Frag} : OpC K (fun xs H Q => ∃ i, xs = [.int i] ∧ Q (.int (if i < 0 then -i else i)) H) gAbs := fun B H0 Hf H vs rs c Q e1 e2 q hg k => by
  unfold gAbs at hg
  split at hg
  · rename_i i h
    cases hg
    obtain ⟨v, r, rfl, rfl, hr, q1⟩ := q.one h
    cases q1.int hr
    exact ⟨i, rfl, k _ Hf H (Gr.refl e1) (Dp.int _)⟩
  · cases hg
def gInt : List PyData → Option Res
  | [.int i] => some (.fz (.int i))
  | [.bool b] => some (.fz (.int (if b then 1 else 0)))
  | _ => none
theorem c_int {K : PySem.W.Frag} : OpC K (fun xs H Q => (∃ i, xs = [.int i] ∧ Q (.int i) H) ∨ ∃ k, xs = [.bl k] ∧ Q (.int (if k then 1 else 0)) H) gInt := fun B H0 Hf H vs rs c Q e1 e2 q hg k => by
  unfold gInt at hg
  split at hg
  · rename_i i h
    cases hg
    obtain ⟨v, r, rfl, rfl, hr, q1⟩ := q.one h
    cases q1.int hr
    exact .inl ⟨i, rfl, k _ Hf H (Gr.refl e1) (Dp.int _)⟩
  · rename_i b h
    cases hg
    obtain ⟨v, r, rfl, rfl, hr, q1⟩ := q.one h
    cases q1.bl hr
    exact .inr ⟨b, rfl, k _ Hf H (Gr.refl e1) (Dp.int _)⟩
  · cases hg
def gTuple : List PyData → Option Res
  | [.list xs] => some (.fz (.tuple xs))
  | [.tuple xs] => some (.fz (.tuple xs))
  | _ => none
theorem c_tuple {K : PySem.W.Frag} : OpC K (rTupF K) gTuple := fun B H0 Hf H vs rs c Q e1 e2 q hg k => by
  unfold gTuple at hg
  split at hg
  · rename_i xs h
    cases hg
    obtain ⟨v, r, rfl, rfl, hr, q1⟩ := q.one h
    obtain ⟨p, ws, rfl, s1, d1⟩ := q1.lst e1 hr
    refine ⟨p, ws, rfl, .inl ⟨s1, fun n ob hn hd => ?_⟩⟩
    have gn := Gr.new (o := .frz ob (.tup ws)) e1 hn (.tupF hd)
    exact k _ _ _ gn (Dp.tup (sqt_frz upd_same) (dpa_mono gn.f _ _ d1))
  · rename_i xs h
    cases hg
    obtain ⟨v, r, rfl, rfl, hr, q1⟩ := q.one h
    obtain ⟨p, ws, rfl, s1, d1⟩ := q1.tup hr
    exact ⟨p, ws, rfl, .inr ⟨sqt_mono e1 s1, k _ Hf H (Gr.refl e1) (Dp.tup s1 d1)⟩⟩
  · cases hg
def gList : List PyData → Option Res
  | [.list xs] => some (.nw xs)
  | [.tuple xs] => some (.nw xs)
  | _ => none
theorem c_list {K : PySem.W.Frag} : OpC K (fun xs H Q => ∃ p ys, xs = [.ref p] ∧ (SqL K H p ys ∨ SqT K H p ys) ∧ ∀ l, H l = none → Q (.ref l) (upd H l (.lst ys))) gList := fun B H0 Hf H vs rs c Q e1 e2 q hg k => by
  unfold gList at hg
  split at hg
  · rename_i xs h
    cases hg
    obtain ⟨v, r, rfl, rfl, hr, q1⟩ := q.one h
    obtain ⟨p, ws, rfl, s1, d1⟩ := q1.lst e1 hr
    refine ⟨p, ws, rfl, .inl s1, fun n hn => ?_⟩
    exact k _ _ _ (Gr.newU e1 hn) ⟨n, _, rfl, hn, e1.free hn, upd_same, d1⟩
  · rename_i xs h
    cases hg
    obtain ⟨v, r, rfl, rfl, hr, q1⟩ := q.one h
    obtain ⟨p, ws, rfl, s1, d1⟩ := q1.tup hr
    refine ⟨p, ws, rfl, .inr (sqt_mono e1 s1), fun n hn => ?_⟩
    exact k _ _ _ (Gr.newU e1 hn) ⟨n, _, rfl, hn, e1.free hn, upd_same, d1⟩
  · cases hg
/-- a list of ints as ints; of bools -/
def intsOf : List PyData → Option (List Int)
  | [] => some []
  | .int i :: r => (intsOf r).map (i :: ·)
  | _ :: _ => none
theorem intsOf_some : ∀ {ds : List PyData} {ns : List Int}, intsOf ds = some ns → ds = ns.map PyData.int
  | [], _, h => by cases h; rfl
  | .int i :: r, _, h => by
    obtain ⟨ms, h1, h2⟩ := Option.map_eq_some_iff.mp (show (intsOf r).map (i :: ·) = _ from h)
    subst h2
    rw [List.map_cons, ← intsOf_some h1]
  | .none :: _, _, h => by cases h
  | .bool _ :: _, _, h => by cases h
  | .str _ :: _, _, h => by cases h
  | .list _ :: _, _, h => by cases h
  | .tuple _ :: _, _, h => by cases h
  | .dict _ :: _, _, h => by cases h
theorem intsOf_map : ∀ ns : List Int, intsOf (ns.map PyData.int) = some ns
  | [] => rfl
  | n :: ns => by
    rw [List.map_cons]
    show (intsOf (ns.map PyData.int)).map (n :: ·) = _
    rw [intsOf_map ns]
    rfl
def boolsOf : List PyData → Option (List Bool)
  | [] => some []
  | .bool i :: r => (boolsOf r).map (i :: ·)
  | _ :: _ => none
theorem boolsOf_some : ∀ {ds : List PyData} {ns : List Bool}, boolsOf ds = some ns → ds = ns.map PyData.bool
  | [], _, h => by cases h; rfl
  | .bool i :: r, _, h => by
    obtain ⟨ms, h1, h2⟩ := Option.map_eq_some_iff.mp (show (boolsOf r).map (i :: ·) = _ from h)
    subst h2
    rw [List.map_cons, ← boolsOf_some h1]
  | .none :: _, _, h => by cases h
  | .int _ :: _, _, h => by cases h
  | .str _ :: _, _, h => by cases h
  | .list _ :: _, _, h => by cases h
  | .tuple _ :: _, _, h => by cases h
  | .dict _ :: _, _, h => by cases h
theorem boolsOf_map : ∀ ns : List Bool, boolsOf (ns.map PyData.bool) = some ns
  | [] => rfl
  | n :: ns => by
    rw [List.map_cons]
    show (boolsOf (ns.map PyData.bool)).map (n :: ·) = _
    rw [boolsOf_map ns]
    rfl
theorem dpa_bools' {K : PySem.W.Frag} {H : Hp} : ∀ {vs : List V} {ns : List Bool}, DpAll K H vs (ns.map PyData.bool) → vs = ns.map V.bl
  | _, [], h => by cases h; rfl
  | _, n :: ns, h => by
    cases h with
    | cons a t =>
      cases a
      rw [dpa_bools' t, List.map_cons]
/-- the lists of a call with one list of ints (bools) -/
theorem RRs.ints {K : PySem.W.Frag} {B H0 Hf H : Hp} {vs : List V} {rs : List Res} {xs : List PyData} {ns : List Int} (q : RRs K B H0 Hf H vs rs) (e1 : Same Hf H) (h : rs.map Res.rd = [.list xs]) (hi : intsOf xs = some ns) : ∃ a, vs = [.ref a] ∧ SqL K H a (ns.map V.int) := by
  obtain ⟨v, r, rfl, rfl, hr, q1⟩ := q.one h
  obtain ⟨p, ws, rfl, s1, d1⟩ := q1.lst e1 hr
  rw [intsOf_some hi] at d1
  rw [dpa_ints' d1] at s1
  exact ⟨p, rfl, s1⟩
theorem RRs.bools {K : PySem.W.Frag} {B H0 Hf H : Hp} {vs : List V} {rs : List Res} {xs : List PyData} {ns : List Bool} (q : RRs K B H0 Hf H vs rs) (e1 : Same Hf H) (h : rs.map Res.rd = [.list xs]) (hi : boolsOf xs = some ns) : ∃ a, vs = [.ref a] ∧ SqL K H a (ns.map V.bl) := by
  obtain ⟨v, r, rfl, rfl, hr, q1⟩ := q.one h
  obtain ⟨p, ws, rfl, s1, d1⟩ := q1.lst e1 hr
  rw [boolsOf_some hi] at d1
  rw [dpa_bools' d1] at s1
  exact ⟨p, rfl, s1⟩
def gSum : List PyData → Option Res
  | [.list xs] => (intsOf xs).map fun ns => .fz (.int ns.sum)
  | _ => none
theorem c_sum {K : PySem.W.Frag} : OpC K (rSum K) gSum := fun B H0 Hf H vs rs c Q e1 e2 q hg k => by
  unfold gSum at hg
  split at hg
  · rename_i xs h
    obtain ⟨ns, h1, h2⟩ := Option.map_eq_some_iff.mp hg
    subst h2
    obtain ⟨a, rfl, s⟩ := q.ints e1 h h1
    exact ⟨a, ns, rfl, s, k _ Hf H (Gr.refl e1) (Dp.int _)⟩
  · cases hg
def gAll : List PyData → Option Res
  | [.list xs] => (boolsOf xs).map fun ns => .fz (.bool (ns.all id))
  | _ => none
theorem c_all {K : PySem.W.Frag} : OpC K (rAll K) gAll := fun B H0 Hf H vs rs c Q e1 e2 q hg k => by
  unfold gAll at hg
  split at hg
  · rename_i xs h
    obtain ⟨ns, h1, h2⟩ := Option.map_eq_some_iff.mp hg
    subst h2
    obtain ⟨a, rfl, s⟩ := q.bools e1 h h1
    exact ⟨a, ns, rfl, s, k _ Hf H (Gr.refl e1) (Dp.bl _)⟩
  · cases hg
def gAny : List PyData → Option Res
  | [.list xs] => (boolsOf xs).map fun ns => .fz (.bool (ns.any id))
  | _ => none
theorem c_any {K : PySem.W.Frag} : OpC K (rAny K) gAny := fun B H0 Hf H vs rs c Q e1 e2 q hg k => by
  unfold gAny at hg
  split at hg
  · rename_i xs h
    obtain ⟨ns, h1, h2⟩ := Option.map_eq_some_iff.mp hg
    subst h2
    obtain ⟨a, rfl, s⟩ := q.bools e1 h h1
    exact ⟨a, ns, rfl, s, k _ Hf H (Gr.refl e1) (Dp.bl _)⟩
  · cases hg
def minL : List Int → Int
  | [] => 0
  | [x] => x
  | x :: y :: r => min x (minL (y :: r))
def maxL : List Int → Int
  | [] => 0
  | [x] => x
  | x :: y :: r => max x (maxL (y :: r))
theorem minL_mem : ∀ {ns : List Int}, ns ≠ [] → minL ns ∈ ns
  | [], h => absurd rfl h
  | [x], _ => by simp [minL]
  | x :: y :: r, _ => by
    have ih := minL_mem (ns := y :: r) (by simp)
    show min x (minL (y :: r)) ∈ _
    rcases Int.le_total x (minL (y :: r)) with h | h
    · rw [Int.min_eq_left h]; exact List.mem_cons_self
    · rw [Int.min_eq_right h]; exact List.mem_cons_of_mem _ ih
theorem minL_le : ∀ {ns : List Int} {z : Int}, z ∈ ns → minL ns ≤ z
  | [x], z, h => by simp at h; subst h; exact Int.le_refl _
  | x :: y :: r, z, h => by
    show min x (minL (y :: r)) ≤ z
    rcases List.mem_cons.mp h with e | h
    · subst e; exact Int.min_le_left _ _
    · exact Int.le_trans (Int.min_le_right _ _) (minL_le h)
theorem maxL_mem : ∀ {ns : List Int}, ns ≠ [] → maxL ns ∈ ns
  | [], h => absurd rfl h
  | [x], _ => by simp [maxL]
  | x :: y :: r, _ => by
    have ih := maxL_mem (ns := y :: r) (by simp)
    show max x (maxL (y :: r)) ∈ _
    rcases Int.le_total x (maxL (y :: r)) with h | h
    · rw [Int.max_eq_right h]; exact List.mem_cons_of_mem _ ih
    · rw [Int.max_eq_left h]; exact List.mem_cons_self
theorem le_maxL : ∀ {ns : List Int} {z : Int}, z ∈ ns → z ≤ maxL ns
  | [x], z, h => by simp at h; subst h; exact Int.le_refl _
  | x :: y :: r, z, h => by
    show z ≤ max x (maxL (y :: r))
    rcases List.mem_cons.mp h with e | h
    · subst e; exact Int.le_max_left _ _
    · exact Int.le_trans (le_maxL h) (Int.le_max_right _ _)
def gMin : List PyData → Option Res
  | [.list xs] => (intsOf xs).bind fun ns => if ns = [] then none else some (.fz (.int (minL ns)))
  | [.int i, .int j] => some (.fz (.int (if j < i then j else i)))
  | _ => none
def gMax : List PyData → Option Res
  | [.list xs] => (intsOf xs).bind fun ns => if ns = [] then none else some (.fz (.int (maxL ns)))
  | [.int i, .int j] => some (.fz (.int (if j > i then j else i)))
  | _ => none
theorem c_min {K : PySem.W.Frag} : OpC K (fun xs H Q => rMin K xs H Q ∨ ∃ i j, xs = [.int i, .int j] ∧ Q (.int (if j < i then j else i)) H) gMin := fun B H0 Hf H vs rs c Q e1 e2 q hg k => by
  unfold gMin at hg
  split at hg
  · rename_i xs h
    obtain ⟨ns, h1, h2⟩ := Option.bind_eq_some_iff.mp hg
    split at h2
    · cases h2
    · rename_i hne
      cases h2
      obtain ⟨a, rfl, s⟩ := q.ints e1 h h1
      refine .inl ⟨a, ns, rfl, s, List.length_pos_iff.mpr hne, fun m h3 h4 => ?_⟩
      have e : m = minL ns := Int.le_antisymm (h4 _ (minL_mem hne)) (minL_le h3)
      rw [e]
      exact k _ Hf H (Gr.refl e1) (Dp.int _)
  · rename_i i j h
    cases hg
    obtain ⟨v, r, w, s, rfl, rfl, h1, h2, q1, q2⟩ := q.two h
    cases q1.int h1
    cases q2.int h2
    exact .inr ⟨i, j, rfl, k _ Hf H (Gr.refl e1) (Dp.int _)⟩
  · cases hg
theorem c_max {K : PySem.W.Frag} : OpC K (fun xs H Q => rMax K xs H Q ∨ ∃ i j, xs = [.int i, .int j] ∧ Q (.int (if j > i then j else i)) H) gMax := fun B H0 Hf H vs rs c Q e1 e2 q hg k => by
  unfold gMax at hg
  split at hg
  · rename_i xs h
    obtain ⟨ns, h1, h2⟩ := Option.bind_eq_some_iff.mp hg
    split at h2
    · cases h2
    · rename_i hne
      cases h2
      obtain ⟨a, rfl, s⟩ := q.ints e1 h h1
      refine .inl ⟨a, ns, rfl, s, List.length_pos_iff.mpr hne, fun m h3 h4 => ?_⟩
      have e : m = maxL ns := Int.le_antisymm (le_maxL h3) (h4 _ (maxL_mem hne))
      rw [e]
      exact k _ Hf H (Gr.refl e1) (Dp.int _)
  · rename_i i j h
    cases hg
    obtain ⟨v, r, w, s, rfl, rfl, h1, h2, q1, q2⟩ := q.two h
    cases q1.int h1
    cases q2.int h2
    exact .inr ⟨i, j, rfl, k _ Hf H (Gr.refl e1) (Dp.int _)⟩
  · cases hg
/-- a built-in function, a built-in class -/
theorem d_blt {x : Str} {p : Pos} {id : String} {r : List V → Hp → VK → Prop} {g : List PyData → Option Res} (hc : CallR X (.builtin id) r) (o : OpC X.K r g) (hm : X.mg x = none) (hv : bootBuiltins x = some (.builtin id)) (ha : DA X (e :: es) fs) (hg : Gl X x := by rfl) (hn : x ≠ "__name__" := by decide) (hdb : (x == ("__debug__" : Str)) = false := by decide)
    (he : starEach (e :: es) X.env = (false, eval e X.env) :: starEach es X.env := by rfl) (hpl : (backTo pos (starEach es X.env)).any (·.1) = false := by rfl) : DE X (.Call (.Name x p) (e :: es) [] pos) (fC1 g fs) := pe_mono (pe_callB hc hg hm hv ha hn hdb he hpl) (entC o)
theorem d_ty {x : Str} {p : Pos} {id : String} {r : List V → Hp → VK → Prop} {g : List PyData → Option Res} (hc : CallR X (.type id) r) (o : OpC X.K r g) (hm : X.mg x = none) (hv : bootBuiltins x = some (.type id)) (ha : DA X (e :: es) fs) (hg : Gl X x := by rfl) (hn : x ≠ "__name__" := by decide) (hdb : (x == ("__debug__" : Str)) = false := by decide)
    (he : starEach (e :: es) X.env = (false, eval e X.env) :: starEach es X.env := by rfl) (hpl : (backTo pos (starEach es X.env)).any (·.1) = false := by rfl) : DE X (.Call (.Name x p) (e :: es) [] pos) (fC1 g fs) := pe_mono (pe_callTy hc hg hm hv ha hn hdb he hpl) (entC o)
/-- isinstance(e, T), T a built-in class -/
def kindS : PyData → String
  | .none => "NoneType"
  | .bool _ => "bool"
  | .int _ => "int"
  | .str _ => "str"
  | .list _ => "list"
  | .tuple _ => "tuple"
  | .dict _ => "dict"
theorem tyx_of {K : PySem.W.Frag} {H : Hp} {v : V} {d : PyData} (h : Dp K H v d) : TyX K H v (.type (kindS d)) := by
  cases h with
  | non => exact .base .non
  | bl b => exact .base (.bl b)
  | int i => exact .base (.int i)
  | str x => exact .base (.str x)
  | lst hs ha =>
    rcases hs with (hs | ⟨o, hs⟩) | ⟨o, its, n, h1, h2, _⟩
    · exact .base (.lst hs)
    · exact .base (.frz hs)
    · exact .kList h1 h2
  | tup hs ha =>
    rcases hs with (hs | ⟨o, hs⟩) | ⟨o, its, n, h1, h2, _⟩
    · exact .base (.tup hs)
    · exact .fTuple hs
    · exact .kTuple h1 h2
def gIsi (n : String) : PyData → Option Res := fun d => (kitB (kindS d) n).map fun b => .fz (.bool b)
theorem d_isi {p q : Pos} {T : Str} {n : String} (ha : DE X e fa) (hm : X.mg "isinstance" = none) (hmT : X.mg T = none) (hvT : bootBuiltins T = some (.type n)) (hb : bootBuiltins "isinstance" = some (.builtin "isinstance")) (hg : Gl X "isinstance" := by rfl) (hgT : Gl X T := by rfl) (hn : T ≠ "__name__" := by decide) (hdb : (T == ("__debug__" : Str)) = false := by decide)
    (h1 : starEach [e, .Name T q] X.env = (false, eval e X.env) :: starEach [.Name T q] X.env := by rfl) (h2 : starEach [.Name T q] X.env = (false, eval (.Name T q) X.env) :: starEach [] X.env := by rfl) (hpl : (backTo pos (starEach [.Name T q] X.env)).any (·.1) = false := by rfl) :
    DE X (.Call (.Name "isinstance" p) [e, .Name T q] [] pos) (f1 (gIsi n) fa) := pe_mono (pe_callB call_isi hg hm hb (pa_cons ha (pa_cons (pe_bltn (v := .ty n) hgT hmT hvT rfl hn hdb) pa_nil h2) h1) (by decide) (by decide) h1 hpl) fun σ H Q h => by
  obtain ⟨B, Hf, ρ, r, er, hf, k⟩ := h
  unfold f1 at hf
  obtain ⟨ra, h1, hf⟩ := Option.bind_eq_some_iff.mp hf
  obtain ⟨b, h3, h4⟩ := Option.map_eq_some_iff.mp hf
  subst h4
  exact ⟨B, Hf, ρ, ra, er, h1, fun v Hf1 H1 g1 q1 => ⟨v, .ty n, _, _, b, rfl, .ty n, tyx_of (q1.dp g1.fh), kit_ty h3, k _ _ _ g1 (Dp.bl _)⟩⟩
end
end DL
namespace DL
open PySem PySem.Spec PyProof.Rows L2

/-! ### what is walked -/
/-- an iterator that yields these data while the heap Hb stands; Hf: what stands still -/
structure Itd (K : PySem.W.Frag) (Hb Hf : Hp) (J : It) (ds : List PyData) : Prop where
  go : ∀ i H, Same Hb H → i < ds.length → J.go i H
  stop : ∀ i H, Same Hb H → ds.length ≤ i → J.stop i H
  yld : ∀ i H x H' Hg d, Same Hb H → Same Hf Hg → Same Hg H → ds[i]? = some d → J.yld i H x H' → ∃ Hg', Gr Hg H Hg' H' ∧ Dp K Hg' x d
theorem Itd.more {K : PySem.W.Frag} {Hb Hf Hb2 Hf2 : Hp} {J : It} {ds : List PyData} (I : Itd K Hb Hf J ds) (h1 : Same Hb Hb2) (h2 : Same Hf Hf2) : Itd K Hb2 Hf2 J ds :=
  ⟨fun i H s h => I.go i H (h1.trans s) h, fun i H s h => I.stop i H (h1.trans s) h, fun i H x H' Hg d s1 s2 s3 e y => I.yld i H x H' Hg d (h1.trans s1) (h2.trans s2) s3 e y⟩
/-- for: what is walked stands still -/
def tDI (K : PySem.W.Frag) (f : Rho → Option (List PyData)) : TI := fun σ H R => ∃ B Hf ρ ds, ER K B Hf H σ ρ ∧ f ρ = some ds ∧ ∀ J Hf' H', Gr Hf H Hf' H' → Itd K Hf' Hf' J ds → R J H'
/-- a comprehension: what is walked may be a slot's own list -/
def tDJ (K : PySem.W.Frag) (f : Rho → Option (List PyData)) : TI := fun σ H R => ∃ B Hf ρ ds, ER K B Hf H σ ρ ∧ f ρ = some ds ∧ ∀ J Hf' H', Gr Hf H Hf' H' → Itd K H' Hf' J ds → R J H'
abbrev DI (X : Cx) (tg e : Expr) (f : Rho → Option (List PyData)) : Prop := PI X tg e (tDI X.K f)
abbrev DJ (X : Cx) (tg e : Expr) (f : Rho → Option (List PyData)) : Prop := PI X tg e (tDJ X.K f)
theorem PI.or {X : Cx} {tg e : Expr} {t u : TI} (h : PI X tg e t) (h' : PI X tg e u) : PI X tg e (fun σ H R => t σ H R ∨ u σ H R) := ⟨fun pins s σ H R I q => by
  rcases q with q | q
  · exact h.run pins s σ H R I q
  · exact h'.run pins s σ H R I q⟩
theorem DI.dj {X : Cx} {tg e : Expr} {f : Rho → Option (List PyData)} (h : DI X tg e f) : DJ X tg e f := pi_mono h fun σ H R q => by
  obtain ⟨B, Hf, ρ, ds, er, hf, k⟩ := q
  exact ⟨B, Hf, ρ, ds, er, hf, fun J Hf' H' g I => k J Hf' H' g (I.more g.fh (Same.refl _))⟩
theorem getE {α : Type} {ds : List α} {i : Nat} (h : i < ds.length) : ds[i]? = some ds[i] := List.getElem?_eq_getElem h
theorem itd_list {K : PySem.W.Frag} {Hb Hf : Hp} {a : Addr} {vs : List V} {ds : List PyData} (h : SqL K Hb a vs) (hd : DpAll K Hf vs ds) : Itd K Hb Hf (Itl K a) ds where
  go := fun i H s hi => by
    obtain ⟨v, h1, h2⟩ := dpa_get hd (getE hi)
    exact ⟨vs, v, s.seq h, h1⟩
  stop := fun i H s hi => ⟨vs, s.seq h, by rw [dpa_len hd]; exact hi⟩
  yld := fun i H x H' Hg d s1 s2 s3 e y => by
    obtain ⟨rfl, y⟩ := y
    obtain ⟨v, h1, h2⟩ := dpa_get hd e
    have := y vs (s1.seq h)
    rw [h1] at this
    cases this
    exact ⟨Hg, Gr.refl s3, dp_mono s2 _ _ h2⟩
theorem itd_tup {K : PySem.W.Frag} {Hb Hf : Hp} {a : Addr} {vs : List V} {ds : List PyData} (h : SqT K Hb a vs) (hd : DpAll K Hf vs ds) : Itd K Hb Hf (Itt K a) ds where
  go := fun i H s hi => by
    obtain ⟨v, h1, h2⟩ := dpa_get hd (getE hi)
    exact ⟨vs, v, sqt_mono s h, h1⟩
  stop := fun i H s hi => ⟨vs, sqt_mono s h, by rw [dpa_len hd]; exact hi⟩
  yld := fun i H x H' Hg d s1 s2 s3 e y => by
    obtain ⟨rfl, y⟩ := y
    obtain ⟨v, h1, h2⟩ := dpa_get hd e
    have := y vs (sqt_mono s1 h)
    rw [h1] at this
    cases this
    exact ⟨Hg, Gr.refl s3, dp_mono s2 _ _ h2⟩
def rgD (lo : Int) (n : Nat) : List PyData := (List.range n).map fun i => .int (lo + (i : Nat))
theorem rgD_len (lo : Int) (n : Nat) : (rgD lo n).length = n := by unfold rgD; rw [List.length_map, List.length_range]
theorem itd_range {K : PySem.W.Frag} {Hb Hf : Hp} {lo : Int} {n : Nat} : Itd K Hb Hf (Itr lo n) (rgD lo n) where
  go := fun i H s hi => by rw [rgD_len] at hi; exact hi
  stop := fun i H s hi => by rw [rgD_len] at hi; exact hi
  yld := fun i H x H' Hg d s1 s2 s3 e y => by
    obtain ⟨rfl, rfl⟩ := y
    have hi : i < n := by
      have := (List.getElem?_eq_some_iff.mp e).1
      rw [rgD_len] at this
      exact this
    have e2 : (rgD lo n)[i]? = some (.int (lo + (i : Nat))) := by
      unfold rgD
      rw [List.getElem?_map, List.getElem?_range hi]
      rfl
    rw [e2] at e
    cases e
    exact ⟨Hg, Gr.refl s3, .int _⟩
def enD : Nat → List PyData → List PyData
  | _, [] => []
  | i, d :: ds => .tuple [.int i, d] :: enD (i + 1) ds
theorem enD_len : ∀ (i : Nat) (ds : List PyData), (enD i ds).length = ds.length
  | _, [] => rfl
  | i, d :: ds => by
    show (enD (i + 1) ds).length + 1 = ds.length + 1
    rw [enD_len]
theorem enD_get : ∀ (k : Nat) (ds : List PyData) (i : Nat), (enD k ds)[i]? = (ds[i]?).map fun d => .tuple [.int (((k + i : Nat)) : Int), d]
  | _, [], i => by simp [enD]
  | k, d :: ds, 0 => by simp [enD]
  | k, d :: ds, i + 1 => by
    show (enD (k + 1) ds)[i]? = _
    rw [enD_get (k + 1) ds i]
    have e : k + 1 + i = k + (i + 1) := by omega
    rw [e]
    rfl
/-- enumerate: the pairs are new at each turn, and go with it -/
structure ItdE (K : PySem.W.Frag) (Hf : Hp) (J : It) (ds : List PyData) : Prop where
  go : ∀ i H, Same Hf H → i < ds.length → J.go i H
  stop : ∀ i H, Same Hf H → ds.length ≤ i → J.stop i H
  yld : ∀ i H x H' Hg d, Same Hf Hg → Same Hg H → ds[i]? = some d → J.yld i H x H' → Gr Hg H Hg H' ∧ ∃ T vs, x = .ref T ∧ SqT K H' T vs ∧ DpAll K Hg vs [.int (i : Nat), d]
theorem itd_enum {K : PySem.W.Frag} {Hf : Hp} {a : Addr} {vs : List V} {ds : List PyData} (h : SqL K Hf a vs) (hd : DpAll K Hf vs ds) : ItdE K Hf (Ite K a) ds where
  go := fun i H s hi => by
    obtain ⟨v, h1, h2⟩ := dpa_get hd (getE hi)
    exact ⟨vs, v, s.seq h, h1⟩
  stop := fun i H s hi => ⟨vs, s.seq h, by rw [dpa_len hd]; exact hi⟩
  yld := fun i H x H' Hg d s1 s2 e y => by
    obtain ⟨T, y, rfl, hT, rfl, yy⟩ := y
    obtain ⟨v, h1, h2⟩ := dpa_get hd e
    have ev : v = y := by
      have q := yy vs ((s1.trans s2).seq h)
      rw [h1] at q
      exact Option.some.inj q
    subst ev
    exact ⟨Gr.newU s2 hT, T, _, rfl, SqT.of upd_same, .cons (.int _) (.cons (dp_mono s1 _ _ h2) .nil)⟩

section
variable {X : Cx} {tg a b c e : Expr} {es : List Expr} {fa fb fc : FE} {fs : FA} {pos : Pos}
/-- the items of a result: of one that stands still (or may be made to), of any -/
def itF (f : FE) : Rho → Option (List PyData) := fun ρ => (f ρ).bind fun r => match r with
  | .fz (.list xs) => some xs
  | .fz (.tuple xs) => some xs
  | .nw xs => some xs
  | _ => none
def itR (f : FE) : Rho → Option (List PyData) := fun ρ => (f ρ).bind fun r => match r.rd with
  | .list xs => some xs
  | .tuple xs => some xs
  | _ => none
theorem i_seq (ha : DE X e fa) : DI X tg e (itF fa) := pi_mono (PI.or (pi_list ha) (pi_tup ha)) fun σ H R q => by
  obtain ⟨B, Hf, ρ, ds, er, hf, k⟩ := q
  unfold itF at hf
  obtain ⟨r, h1, h2⟩ := Option.bind_eq_some_iff.mp hf
  split at h2
  · cases h2
    refine .inl ⟨B, Hf, ρ, _, er, h1, fun v Hf' H' g q => ?_⟩
    have q' : Dp X.K Hf' v (.list _) := q
    cases q' with
    | lst hs hd => exact ⟨_, rfl, ⟨_, g.fh.seq hs⟩, k _ _ _ g (itd_list hs hd)⟩
  · cases h2
    refine .inr ⟨B, Hf, ρ, _, er, h1, fun v Hf' H' g q => ?_⟩
    obtain ⟨p, vs, rfl, s1, d1⟩ := q.tup rfl
    exact ⟨p, rfl, ⟨vs, sqt_mono g.fh s1⟩, k _ _ _ g (itd_tup s1 d1)⟩
  · cases h2
    refine .inl ⟨B, Hf, ρ, _, er, h1, fun v Hf' H' g q => ?_⟩
    obtain ⟨Hf2, g2, s2, d2⟩ := q.freeze er g rfl
    cases d2 with
    | lst hs hd => exact ⟨_, rfl, ⟨_, g2.fh.seq hs⟩, k _ _ _ g2 (itd_list hs hd)⟩
  · cases h2
theorem j_seq (ha : DE X e fa) : DJ X tg e (itR fa) := pi_mono (PI.or (pi_list ha) (pi_tup ha)) fun σ H R q => by
  obtain ⟨B, Hf, ρ, ds, er, hf, k⟩ := q
  unfold itR at hf
  obtain ⟨r, h1, h2⟩ := Option.bind_eq_some_iff.mp hf
  split at h2
  · rename_i hr
    cases h2
    refine .inl ⟨B, Hf, ρ, _, er, h1, fun v Hf' H' g q => ?_⟩
    obtain ⟨p, vs, rfl, s1, d1⟩ := q.lst g.fh hr
    exact ⟨p, rfl, ⟨_, s1⟩, k _ _ _ g (itd_list s1 d1)⟩
  · rename_i hr
    cases h2
    refine .inr ⟨B, Hf, ρ, _, er, h1, fun v Hf' H' g q => ?_⟩
    obtain ⟨p, vs, rfl, s1, d1⟩ := q.tup hr
    exact ⟨p, rfl, ⟨vs, sqt_mono g.fh s1⟩, k _ _ _ g (itd_tup (sqt_mono g.fh s1) d1)⟩
  · cases h2
def rg1 (fs : FA) : Rho → Option (List PyData) := fun ρ => (fs ρ).bind fun rs => match rs.map Res.rd with
  | [.int j] => if -(2 ^ 62) ≤ j ∧ j < 2 ^ 62 then some (rgD 0 j.toNat) else none
  | _ => none
def rg2 (fs : FA) : Rho → Option (List PyData) := fun ρ => (fs ρ).bind fun rs => match rs.map Res.rd with
  | [.int i, .int j] => if -(2 ^ 62) ≤ i ∧ i < 2 ^ 62 ∧ -(2 ^ 62) ≤ j ∧ j < 2 ^ 62 then some (rgD i (j - i).toNat) else none
  | _ => none
theorem i_rg1 {p : Pos} (hm : X.mg "range" = none) (ha : DA X [a] fs) (hg : Gl X "range" := by rfl) (hs : starEach [a] X.env = [(false, eval a X.env)] := by rfl) : DI X tg (.Call (.Name "range" p) [a] [] pos) (rg1 fs) := pi_mono (pi_range1 hg hm ha hs) fun σ H R q => by
  obtain ⟨B, Hf, ρ, ds, er, hf, k⟩ := q
  unfold rg1 at hf
  obtain ⟨rs, h1, h2⟩ := Option.bind_eq_some_iff.mp hf
  split at h2
  · rename_i j hj
    split at h2
    · rename_i hz
      cases h2
      refine ⟨B, Hf, ρ, rs, er, h1, fun vs Hf' H' g q => ?_⟩
      obtain ⟨v, r, rfl, rfl, hr, q1⟩ := q.one hj
      cases q1.int hr
      exact ⟨j, rfl, hz.1, hz.2, k _ _ _ g itd_range⟩
    · cases h2
  · cases h2
theorem i_rg2 {p : Pos} (hm : X.mg "range" = none) (ha : DA X [a, b] fs) (hg : Gl X "range" := by rfl) (hs : starEach [a, b] X.env = [(false, eval a X.env), (false, eval b X.env)] := by rfl) (hs2 : starEach [b] X.env = [(false, eval b X.env)] := by rfl) : DI X tg (.Call (.Name "range" p) [a, b] [] pos) (rg2 fs) := pi_mono (pi_range2 hg hm ha hs hs2) fun σ H R q => by
  obtain ⟨B, Hf, ρ, ds, er, hf, k⟩ := q
  unfold rg2 at hf
  obtain ⟨rs, h1, h2⟩ := Option.bind_eq_some_iff.mp hf
  split at h2
  · rename_i i j hj
    split at h2
    · rename_i hz
      cases h2
      refine ⟨B, Hf, ρ, rs, er, h1, fun vs Hf' H' g q => ?_⟩
      obtain ⟨v, r, w, s, rfl, rfl, e1, e2, q1, q2⟩ := q.two hj
      cases q1.int e1
      cases q2.int e2
      exact ⟨i, j, rfl, hz, k _ _ _ g itd_range⟩
    · cases h2
  · cases h2
def enF (fs : FA) : Rho → Option (List PyData) := fun ρ => (fs ρ).bind fun rs => match rs with
  | [.fz (.list xs)] => some (enD 0 xs)
  | [.nw xs] => some (enD 0 xs)
  | _ => none
def tDIE (K : PySem.W.Frag) (f : FA) : TI := fun σ H R => ∃ B Hf ρ ds, ER K B Hf H σ ρ ∧ enF f ρ = some (enD 0 ds) ∧ ∀ J Hf' H', Gr Hf H Hf' H' → ItdE K Hf' J ds → R J H'
theorem i_enum {p tpos : Pos} {elts : List Expr} {kk : Nat} (hm : X.mg "enumerate" = none) (ha : DA X [e] fs) (hg : Gl X "enumerate" := by rfl) (hs : starEach [e] X.env = [(false, eval e X.env)] := by rfl) :
    PI X (.Tuple elts kk tpos) (.Call (.Name "enumerate" p) [e] [] pos) (tDIE X.K fs) := pi_mono (pi_enum hg hm ha hs) fun σ H R q => by
  obtain ⟨B, Hf, ρ, ds, er, hf, k⟩ := q
  unfold enF at hf
  obtain ⟨rs, h1, h2⟩ := Option.bind_eq_some_iff.mp hf
  have inj : ∀ {xs : List PyData} {j : Nat} {ys : List PyData}, enD j xs = enD j ys → xs = ys := fun {xs} => by
    induction xs with
    | nil => intro j ys e; cases ys with
      | nil => rfl
      | cons y ys => cases e
    | cons x xs ih => intro j ys e; cases ys with
      | nil => cases e
      | cons y ys =>
        injection e with e1 e2
        injection e1 with e1
        injection e1 with _ e1
        injection e1 with e1 _
        rw [e1, ih e2]
  split at h2
  · rename_i xs
    have e := inj (Option.some.inj h2)
    subst e
    refine ⟨B, Hf, ρ, _, er, h1, fun vs Hf' H' g q => ?_⟩
    cases q with
    | cons q t =>
      cases t
      have q' : Dp X.K Hf' _ (.list _) := q
      cases q' with
      | lst hs hd => exact ⟨_, _, rfl, g.fh.seq hs, k _ _ _ g (itd_enum hs hd)⟩
  · rename_i xs
    have e := inj (Option.some.inj h2)
    subst e
    refine ⟨B, Hf, ρ, _, er, h1, fun vs Hf' H' g q => ?_⟩
    cases q with
    | cons q t =>
      cases t
      obtain ⟨Hf2, g2, s2, d2⟩ := q.freeze er g rfl
      cases d2 with
      | lst hs hd => exact ⟨_, _, rfl, g2.fh.seq hs, k _ _ _ g2 (itd_enum hs hd)⟩
  · cases h2
end

/-! ### targets: names, tuples of names -/
abbrev FU := PyData → Rho → Option Rho
def tDG (K : PySem.W.Frag) (u : FU) : TG := fun v σ H Q => ∃ B Hf ρ d ρ', ER K B Hf H σ ρ ∧ Dp K Hf v d ∧ u d ρ = some ρ' ∧ ∀ σ', ER K B Hf H σ' ρ' → Q σ' H
abbrev DG (X : Cx) (e : Expr) (u : FU) : Prop := PG X e (tDG X.K u)
theorem ER.set {K : PySem.W.Frag} {B Hf H : Hp} {σ : L2.St} {ρ : Rho} {v : V} {d : PyData} (er : ER K B Hf H σ ρ) (i : Nat) (h : Dp K Hf v d) : ER K B Hf H (σ.set i (some v)) (ρ.set i (.d d)) := by
  refine ⟨er.fh, er.bh, by rw [List.length_set, List.length_set]; exact er.len, fun j s o h1 h2 => ?_, er.bn, fun j k xs ys p hjk h1 h2 h3 h4 => ?_⟩
  · by_cases z : i = j
    · subst z
      by_cases hi : i < ρ.length
      · rw [List.getElem?_set_self hi] at h1
        rw [List.getElem?_set_self (by rw [er.len]; exact hi)] at h2
        cases h1; cases h2
        exact ⟨v, rfl, h⟩
      · rw [List.getElem?_eq_none (by rw [List.length_set]; omega)] at h1
        cases h1
    · rw [List.getElem?_set_ne z] at h1 h2
      exact er.sl j s o h1 h2
  · have nj : ∀ {j : Nat} {xs : List PyData}, (ρ.set i (Slot.d d))[j]? = some (.own xs) → i ≠ j := fun {j xs} q z => by
      subst z
      by_cases hi : i < ρ.length
      · rw [List.getElem?_set_self hi] at q; cases q
      · rw [List.getElem?_eq_none (by rw [List.length_set]; omega)] at q; cases q
    have n1 := nj h1
    have n2 := nj h2
    rw [List.getElem?_set_ne n1] at h1 h3
    rw [List.getElem?_set_ne n2] at h2 h4
    exact er.dj j k xs ys p hjk h1 h2 h3 h4
def uName (i : Nat) : FU := fun d ρ => some (ρ.set i (.d d))
section
variable {X : Cx} {e : Expr} {es : List Expr} {pos : Pos} {u : FU}
theorem g_name {x : Str} (i : Nat) (hN : X.N.Nodup) (hi : X.N[i]? = some x := by rfl) (hx : Loc X.env.scope x := by first | exact Or.inl rfl | exact Or.inr rfl) (hf : X.fn x = true ∨ X.env.scope.names.lookup x = some .local := by first | exact .inl rfl | exact .inr rfl | assumption) : DG X (.Name x pos) (uName i) := pg_mono (pg_name (i := i) hN hi hx hf) fun v σ H Q h => by
  obtain ⟨B, Hf, ρ, d, ρ', er, hd, hu, k⟩ := h
  cases hu
  exact k _ (er.set i hd)
abbrev FUs := List PyData → Rho → Option Rho
def tDGs (K : PySem.W.Frag) (u : FUs) : TGs := fun vs σ H Q => ∃ B Hf ρ ds ρ', ER K B Hf H σ ρ ∧ DpAll K Hf vs ds ∧ u ds ρ = some ρ' ∧ ∀ σ', ER K B Hf H σ' ρ' → Q σ' H
abbrev DGs (X : Cx) (es : List Expr) (u : FUs) : Prop := PGs X es (tDGs X.K u)
theorem pgs_mono {X : Cx} {e : List Expr} {t t' : TGs} (h : PGs X e t) (k : ∀ v σ H Q, t' v σ H Q → t v σ H Q) : PGs X e t' := ⟨fun pins s σ H v u Q I r q => h.run pins s σ H v u Q I r (k _ _ _ _ q)⟩
def uNil : FUs := fun ds ρ => match ds with
  | [] => some ρ
  | _ => none
def uCons (u : FU) (us : FUs) : FUs := fun ds ρ => match ds with
  | d :: r => (u d ρ).bind fun ρ1 => us r ρ1
  | _ => none
theorem gs_nil : DGs X [] uNil := pgs_mono pgs_nil fun v σ H Q h => by
  obtain ⟨B, Hf, ρ, d, ρ', er, hd, hu, k⟩ := h
  unfold uNil at hu
  split at hu
  · cases hu
    cases hd
    exact ⟨rfl, k _ er⟩
  · cases hu
theorem gs_cons {us : FUs} (h1 : DG X e u) (h2 : DGs X es us) (hs : (assignEach (e :: es) X.env).map (·.2) = assign e X.env :: (assignEach es X.env).map (·.2) := by rfl) : DGs X (e :: es) (uCons u us) := pgs_mono (pgs_cons h1 h2 hs) fun v σ H Q h => by
  obtain ⟨B, Hf, ρ, d, ρ', er, hd, hu, k⟩ := h
  unfold uCons at hu
  split at hu
  · cases hd with
    | cons a t =>
      obtain ⟨ρ1, e1, e2⟩ := Option.bind_eq_some_iff.mp hu
      exact ⟨_, _, rfl, B, Hf, ρ, _, ρ1, er, a, e1, fun σ' er' => ⟨B, Hf, ρ1, _, ρ', er', t, e2, k⟩⟩
  · cases hu
/-- (a, b, ..) = a tuple or a list of that length -/
def uTup (n : Nat) (us : FUs) : FU := fun d ρ => match d with
  | .tuple ds => if ds.length = n then us ds ρ else none
  | .list ds => if ds.length = n then us ds ρ else none
  | _ => none
theorem PG.or {X : Cx} {e : Expr} {t u : TG} (h : PG X e t) (h' : PG X e u) : PG X e (fun v σ H Q => t v σ H Q ∨ u v σ H Q) := ⟨fun pins s σ H v w Q I r q => by
  rcases q with q | q
  · exact h.run pins s σ H v w Q I r q
  · exact h'.run pins s σ H v w Q I r q⟩
def tDGt (K : PySem.W.Frag) (u : FU) : TG := fun v σ H Q => ∃ B Hf ρ ds ρ' a vs, ER K B Hf H σ ρ ∧ v = .ref a ∧ SqT K H a vs ∧ DpAll K Hf vs ds ∧ u (.tuple ds) ρ = some ρ' ∧ ∀ σ', ER K B Hf H σ' ρ' → Q σ' H
theorem g_tupT {k : Nat} {n : Nat} {us : FUs} (h : DGs X es us) (hc : X.calm = true := by rfl) (hn : (assignEach es X.env).length = n := by rfl) (hst : (assignEach es X.env).findIdx? (·.1) = none := by rfl) : PG X (.Tuple es k pos) (tDGt X.K (uTup n us)) := pg_mono (pg_tup hc h hn hst) fun v σ H Q h => by
  obtain ⟨B, Hf, ρ, ds, ρ', a, vs, er, rfl, hs, hd, hu, k⟩ := h
  unfold uTup at hu
  simp only at hu
  split at hu
  · rename_i hl
    exact ⟨a, vs, rfl, hs, by rw [dpa_len hd]; exact hl, B, Hf, ρ, ds, ρ', er, hd, hu, k⟩
  · cases hu
theorem g_tup {k : Nat} {n : Nat} {us : FUs} (h : DGs X es us) (hc : X.calm = true := by rfl) (hn : (assignEach es X.env).length = n := by rfl) (hst : (assignEach es X.env).findIdx? (·.1) = none := by rfl) : DG X (.Tuple es k pos) (uTup n us) := pg_mono (PG.or (pg_tup hc h hn hst) (pg_unl hc h hn hst)) fun v σ H Q h => by
  obtain ⟨B, Hf, ρ, d, ρ', er, hd, hu, k⟩ := h
  unfold uTup at hu
  split at hu
  · split at hu
    · rename_i hl
      cases hd with
      | tup hs ha => exact .inl ⟨_, _, rfl, sqt_mono er.fh hs, by rw [dpa_len ha]; exact hl, B, Hf, ρ, _, ρ', er, ha, hu, k⟩
    · cases hu
  · split at hu
    · rename_i hl
      cases hd with
      | lst hs ha => exact .inr ⟨_, _, rfl, er.fh.seq hs, by rw [dpa_len ha]; exact hl, B, Hf, ρ, _, ρ', er, ha, hu, k⟩
    · cases hu
  · cases hu
end

/-! ### comprehensions -/
def wipeR (ρ : Rho) : List Nat → Rho
  | [] => ρ
  | v :: vs => (wipeR ρ vs).set v .und
theorem ER.wipe {K : PySem.W.Frag} {B Hf H : Hp} {σ : L2.St} {ρ : Rho} (er : ER K B Hf H σ ρ) : ∀ vs : List Nat, ER K B Hf H (L2.wipe σ vs) (wipeR ρ vs)
  | [] => er
  | v :: vs => by
    have ih := er.wipe vs
    unfold L2.wipe wipeR
    refine ⟨ih.fh, ih.bh, by rw [List.length_set, List.length_set]; exact ih.len, fun j s o h1 h2 => ?_, ih.bn, fun j k xs ys p hjk h1 h2 h3 h4 => ?_⟩
    · by_cases z : v = j
      · subst z
        by_cases hi : v < (wipeR ρ vs).length
        · rw [List.getElem?_set_self hi] at h1
          cases h1
          trivial
        · rw [List.getElem?_eq_none (by rw [List.length_set]; omega)] at h1
          cases h1
      · rw [List.getElem?_set_ne z] at h1 h2
        exact ih.sl j s o h1 h2
    · have nj : ∀ {j : Nat} {xs : List PyData}, ((wipeR ρ vs).set v Slot.und)[j]? = some (.own xs) → v ≠ j := fun {j xs} q z => by
        subst z
        by_cases hi : v < (wipeR ρ vs).length
        · rw [List.getElem?_set_self hi] at q; cases q
        · rw [List.getElem?_eq_none (by rw [List.length_set]; omega)] at q; cases q
      have n1 := nj h1
      have n2 := nj h2
      rw [List.getElem?_set_ne n1] at h1 h3
      rw [List.getElem?_set_ne n2] at h2 h4
      exact ih.dj j k xs ys p hjk h1 h2 h3 h4
def lcD (j : Nat) (c : Rho → Option Bool) (e : FE) (ρ : Rho) : List PyData → Option (List PyData)
  | [] => some []
  | x :: xs => (c (ρ.set j (.d x))).bind fun b => if b = true then (e (ρ.set j (.d x))).bind fun r => r.fr.bind fun d => (lcD j c e ρ xs).map fun ds => d :: ds else lcD j c e ρ xs
theorem lcD_len {j : Nat} {c : Rho → Option Bool} {e : FE} {ρ : Rho} : ∀ {xs ds : List PyData}, lcD j c e ρ xs = some ds → ds.length ≤ xs.length
  | [], _, h => by cases h; exact Nat.le_refl _
  | x :: xs, _, h => by
    unfold lcD at h
    obtain ⟨b, h1, h⟩ := Option.bind_eq_some_iff.mp h
    split at h
    · obtain ⟨r, h2, h⟩ := Option.bind_eq_some_iff.mp h
      obtain ⟨d, h3, h⟩ := Option.bind_eq_some_iff.mp h
      obtain ⟨ds, h4, h⟩ := Option.map_eq_some_iff.mp h
      subst h
      exact Nat.succ_le_succ (lcD_len h4)
    · exact Nat.le_succ_of_le (lcD_len h)
def fLc (it : Rho → Option (List PyData)) (j : Nat) (c : Rho → Option Bool) (e : FE) (vs : List Nat) : FE := fun ρ => (it ρ).bind fun xs => if small xs.length then (lcD j c e (wipeR ρ vs) xs).map fun ds => .nw ds else none
theorem lc_ent {K : PySem.W.Frag} {it : Rho → Option (List PyData)} {j : Nat} {c : Rho → Option Bool} {e : FE} : ∀ σ H Q, tD K (fLc it j c e [j]) σ H Q → tLc (tDJ K it) (gName j) (tDT K c) (tD K e) [j] σ H Q := fun σ H Q h => by
  obtain ⟨B, Hf, ρ, r, er, hf, k⟩ := h
  unfold fLc at hf
  obtain ⟨xs, h1, h2⟩ := Option.bind_eq_some_iff.mp hf
  split at h2
  · rename_i hz
    obtain ⟨ds, h3, h4⟩ := Option.map_eq_some_iff.mp h2
    subst h4
    refine ⟨B, Hf, ρ, xs, er, h1, fun J Hf1 H1 g1 I1 D hD => ?_⟩
    have er1 : ER K B Hf1 H1 (L2.wipe σ [j]) (wipeR ρ [j]) := (er.grow g1).wipe [j]
    let P : Nat → Hp → Prop := fun i H2 => ∃ Hg vs acc, Same Hf1 Hg ∧ Same H1 H2 ∧ Same Hg H2 ∧ (∀ a o, H1 a = some o → Hf1 a = none → Hg a = none) ∧ Bn Hg ∧ Hg D = none ∧ H2 D = some (.lst vs) ∧ DpAll K Hg vs acc ∧ acc.length ≤ i ∧ ∃ rest, lcD j c e (wipeR ρ [j]) (xs.drop i) = some rest ∧ acc ++ rest = ds
    refine ⟨fun i m H2 => m = xs.length - i ∧ i ≤ xs.length ∧ P i H2, ⟨xs.length, by simp, Nat.zero_le _, Hf1, [], [], Same.refl _, same_upd hD, g1.fh.trans (same_upd hD), fun a o _ n => n, (er.grow g1).bn, g1.fh.free hD, upd_same, .nil, Nat.le_refl _, ds, by rw [List.drop_zero]; exact h3, rfl⟩, ?_⟩
    rintro i m H2 ⟨rfl, hi, Hg, vs, acc, s1, s2, s3, un, bn, gD, hDv, da, hacc, rest, hl, ha⟩
    by_cases hlt : i < xs.length
    · refine .inr ⟨I1.go i H2 s2 hlt, P (i + 1), fun H' p => ⟨xs.length - (i + 1), by omega, rfl, hlt, p⟩, fun x H3 y => ?_⟩
      obtain ⟨Hg3, g3, dx⟩ := I1.yld i H2 x H3 Hg xs[i] s2 s1 s3 (getE hlt) y
      have gBase : Gr Hg H2 Hg3 H3 := g3
      -- the frame's own slots at this heap
      have erA : ER K B Hg3 H3 (L2.wipe σ [j]) (wipeR ρ [j]) := er1.grow ⟨s1.trans g3.f, s2.trans g3.h, g3.fh, fun a o q n => g3.un a o (s2 _ _ q) (un a o q n), fun _ => g3.bn bn⟩
      have erB := erA.set j dx
      refine ⟨?_, ?_⟩
      · show (((σ.set j none).set j (some x)).set j none) = σ.set j none
        rw [List.set_set, List.set_set]
      · rw [List.drop_eq_getElem_cons hlt] at hl
        unfold lcD at hl
        obtain ⟨bb, hb, hl⟩ := Option.bind_eq_some_iff.mp hl
        refine ⟨B, Hg3, _, bb, erB, hb, fun Hg4 H4 g4 => ?_⟩
        have D3 : H3 D = some (.lst vs) := g3.h _ _ hDv
        have gD3 : Hg3 D = none := g3.un D _ hDv gD
        have D4 : H4 D = some (.lst vs) := g4.h _ _ D3
        have gD4 : Hg4 D = none := g4.un D _ D3 gD3
        cases bb with
        | false =>
          have hl' : lcD j c e (wipeR ρ [j]) (xs.drop (i + 1)) = some rest := by simpa using hl
          show P (i + 1) H4
          refine ⟨Hg4, vs, acc, (s1.trans g3.f).trans g4.f, (s2.trans g3.h).trans g4.h, g4.fh, fun a o q n => g4.un a o (g3.h _ _ (s2 _ _ q)) (g3.un a o (s2 _ _ q) (un a o q n)), g4.bn (g3.bn bn), gD4, D4, dpa_mono (g3.f.trans g4.f) _ _ da, Nat.le_succ_of_le hacc, rest, hl', ha⟩
        | true =>
          rw [if_pos rfl] at hl
          obtain ⟨r5, h5, hl⟩ := Option.bind_eq_some_iff.mp hl
          obtain ⟨d5, h6, hl⟩ := Option.bind_eq_some_iff.mp hl
          obtain ⟨ds5, h7, hl⟩ := Option.map_eq_some_iff.mp hl
          refine ⟨B, Hg4, _, r5, erB.grow g4, h5, fun y5 Hg5 H5 g5 q5 => ?_⟩
          obtain ⟨Hg6, g6, s6, d6⟩ := q5.freeze (erB.grow g4) g5 h6
          have D5 : H5 D = some (.lst vs) := g6.h _ _ D4
          have gD6 : Hg6 D = none := g6.un D _ D4 gD4
          have lv := dpa_len da
          refine ⟨vs, D5, Nat.lt_of_le_of_lt (by omega : vs.length ≤ xs.length) (Nat.lt_of_le_of_lt hz (by decide)), ?_⟩
          have H1D : ∀ a o, H1 a = some o → a ≠ D := fun a o q z => by rw [z, hD] at q; cases q
          refine ⟨Hg6, vs ++ [y5], acc ++ [d5], ((s1.trans g3.f).trans g4.f).trans g6.f, fun a o q => ?_, fun a o q => ?_, fun a o q n => g6.un a o (g4.h _ _ (g3.h _ _ (s2 _ _ q))) (g4.un a o (g3.h _ _ (s2 _ _ q)) (g3.un a o (s2 _ _ q) (un a o q n))), g6.bn (g4.bn (g3.bn bn)), gD6, upd_same, dpa_app (dpa_mono ((g3.f.trans g4.f).trans g6.f) _ _ da) (.cons d6 .nil), ?_, ds5, h7, ?_⟩
          · rw [upd_ne (H1D a o q)]
            exact g6.h _ _ (g4.h _ _ (g3.h _ _ (s2 _ _ q)))
          · have nD : a ≠ D := fun z => by rw [z, gD6] at q; cases q
            rw [upd_ne nD]
            exact g6.fh _ _ q
          · rw [List.length_append, List.length_singleton]; omega
          · rw [List.append_assoc, ← ha, ← hl]
            rfl
    · have ei : i = xs.length := by omega
      subst ei
      refine .inl ⟨I1.stop _ H2 s2 (Nat.le_refl _), ?_⟩
      rw [List.drop_length] at hl
      cases hl
      rw [List.append_nil] at ha
      subst ha
      have gT : Gr Hf1 H1 Hg H2 := ⟨s1, s2, s3, un, fun _ => bn⟩
      exact k _ _ _ (g1.trans gT) ⟨D, vs, rfl, g1.h.free hD, gD, hDv, da⟩
  · cases h2
section
variable {X : Cx} {a b c e elt tg iter : Expr} {fa fb fc : FE} {pos : Pos} {it : Rho → Option (List PyData)} {ct : Rho → Option Bool} {scope : Scope} {x : Str} {ifs : List Expr}
def cYes : Rho → Option Bool := fun _ => some true
abbrev DTs (X : Cx) (ifs : List Expr) (f : Rho → Option Bool) : Prop := PTs X ifs (tDT X.K f)
theorem ts_nil : DTs X [] cYes := ⟨fun pins s σ H Q I h => pts_nil.run pins s σ H Q I (by
  obtain ⟨B, Hf, ρ, b, er, hf, k⟩ := h
  cases hf
  exact k _ _ (Gr.refl er.fh))⟩
theorem ts_one {c : Expr} (h : DT X c ct) : DTs X [c] ct := pts_one h
theorem d_lc (j : Nat) (x : Str) (hN : X.N.Nodup) (hi : DJ X tg iter it) (ok : blkC X.N X.env.scope scope [(x, j)] = true)
    (hg : ∀ (s : Shared) (H : Hp) (C : Addr) (cl : List (Str × Addr)) (fp : List Addr), PG (X.blk s H scope (compEnvC scope cl C X.env) fp) tg (gName j))
    (ht : ∀ (s : Shared) (H : Hp) (C : Addr) (cl : List (Str × Addr)) (fp : List Addr), DTs (X.blk s H scope (compEnvC scope cl C X.env) fp) ifs ct)
    (he : ∀ (s : Shared) (H : Hp) (C : Addr) (cl : List (Str × Addr)) (fp : List Addr), DE (X.blk s H scope (compEnvC scope cl C X.env) fp) elt fa) (hc : X.calm = true := by rfl) (hs : ∀ x, foldedSetIterable iter X.env x = pure x := by intro _; rfl) :
    DE X (.ListComp elt [⟨tg, iter, ifs, 0⟩] scope pos) (fLc it j ct fa [j]) := pe_mono (pe_lc (own := [(x, j)]) hc hN hi (blkOk_by ok) hg ht he hs) lc_ent
end
end DL
namespace DL
open PySem PySem.Spec PyProof.Rows L2

inductive Out where
  | nx (ρ : Rho)
  | rt (d : PyData)
  | bk (ρ : Rho)
  | ct (ρ : Rho)
  | ex (x : Str) (ρ : Rho)
abbrev FS := Rho → Option Out
structure GB (B Hf Hf' : Hp) : Prop where
  f : Same Hf Hf'
  un : ∀ a o, B a = some o → Hf a = none → Hf' a = none
  bn : Bn Hf → Bn Hf'
theorem GB.refl {B Hf : Hp} : GB B Hf Hf := ⟨Same.refl _, fun _ _ _ n => n, fun b => b⟩
theorem GB.trans {B Hf H1 H2 : Hp} (a : GB B Hf H1) (b : GB B H1 H2) : GB B Hf H2 := ⟨a.f.trans b.f, fun x o e n => b.un x o e (a.un x o e n), fun z => b.bn (a.bn z)⟩
theorem Gr.gb {B Hf H Hf' H' : Hp} (g : Gr Hf H Hf' H') (bh : Same B H) : GB B Hf Hf' := ⟨g.f, fun a o e n => g.un a o (bh _ _ e) n, g.bn⟩
/-- an own error's class, by its name; the widest wish that the context takes -/
def WgX (X : Cx) : WX := fun cls d σ H => ∀ u s', XE X (fun c e σ' H' => c = cls ∧ e = d ∧ σ' = σ ∧ H' = H) u s' → X.xe u s'
theorem takesW {X : Cx} : Takes X (WgX X) := fun u s' ⟨a, B, sI, pins, σ, H, cls, d, e, I, nb, up, sky, na, os, ag, w⟩ => w u s' ⟨a, B, sI, pins, σ, H, cls, d, e, I, nb, up, sky, na, os, ag, rfl, rfl, rfl, rfl⟩
theorem wgx_of {X : Cx} {W : WX} {cls : Value} {d : Option Addr} {σ : L2.St} {H : Hp} (t : Takes X W) (w : W cls d σ H) : WgX X cls d σ H := fun u s' ⟨a, B, sI, pins, σ', H', cls', d', e, I, nb, up, sky, na, os, ag, e1, e2, e3, e4⟩ => by
  subst e1 e2 e3 e4
  exact t u s' ⟨a, B, sI, pins, _, _, _, _, e, I, nb, up, sky, na, os, ag, w⟩
def Fin (K : PySem.W.Frag) (mg : Str → Option Value) (W : WX) (B Hf : Hp) (D : Ends) : Out → Prop
  | .nx ρ' => ∀ σ' Hf' H', GB B Hf Hf' → ER K B Hf' H' σ' ρ' → D.nx σ' H'
  | .rt d => ∀ v Hf' H', GB B Hf Hf' → Same Hf' H' → Same B H' → Dp K Hf' v d → D.rt v H'
  | .bk ρ' => ∀ σ' Hf' H', GB B Hf Hf' → ER K B Hf' H' σ' ρ' → D.bk σ' H'
  | .ct ρ' => ∀ σ' Hf' H', GB B Hf Hf' → ER K B Hf' H' σ' ρ' → D.ct σ' H'
  | .ex x ρ' => ∀ C σ' Hf' H', mg x = some (.ref C) → GB B Hf Hf' → ER K B Hf' H' σ' ρ' → W (.ref C) none σ' H'
theorem Fin.more {K : PySem.W.Frag} {mg : Str → Option Value} {W : WX} {B Hf Hf1 : Hp} {D : Ends} {o : Out} (h : Fin K mg W B Hf D o) (g : GB B Hf Hf1) : Fin K mg W B Hf1 D o := by
  cases o with
  | nx ρ => exact fun σ' Hf' H' g' er => h σ' Hf' H' (g.trans g') er
  | rt d => exact fun v Hf' H' g' e1 e2 dp => h v Hf' H' (g.trans g') e1 e2 dp
  | bk ρ => exact fun σ' Hf' H' g' er => h σ' Hf' H' (g.trans g') er
  | ct ρ => exact fun σ' Hf' H' g' er => h σ' Hf' H' (g.trans g') er
  | ex x ρ => exact fun C σ' Hf' H' e g' er => h C σ' Hf' H' e (g.trans g') er
def tDS (K : PySem.W.Frag) (mg : Str → Option Value) (W : WX) (g : FS) : TS := fun D σ H => ∃ B Hf ρ o, ER K B Hf H σ ρ ∧ g ρ = some o ∧ Fin K mg W B Hf D o
abbrev DS (X : Cx) (st : Stmt) (g : FS) : Prop := PS X st (tDS X.K X.mg (WgX X) g)
abbrev DSs (X : Cx) (st : List Stmt) (g : FS) : Prop := PSs X st (tDS X.K X.mg (WgX X) g)

section
variable {X : Cx} {a b c e tg iter : Expr} {es : List Expr} {st : Stmt} {rest : List Stmt} {fa fb fc : FE} {fs : FA} {pos : Pos} {g g1 g2 : FS} {t : Rho → Option Bool}
def gNil : FS := fun ρ => some (.nx ρ)
def gSeq (g1 g2 : FS) : FS := fun ρ => (g1 ρ).bind fun o => match o with
  | .nx ρ' => g2 ρ'
  | o => some o
theorem tds_next {K : PySem.W.Frag} {mg : Str → Option Value} {W : WX} {D : Ends} {σ : L2.St} {H : Hp} (h : tDS K mg W gNil D σ H) : D.nx σ H := by
  obtain ⟨B, Hf, ρ, o, er, hg, k⟩ := h
  cases hg
  exact k σ Hf H GB.refl er
theorem ss_nil : DSs X [] gNil := pss_mono pss_nil fun D σ H h => tds_next h
theorem s_pass : DS X (.Pass pos) gNil := ps_mono ps_pass fun D σ H h => tds_next h
theorem ss_one (h : DS X st g) : DSs X [st] g := pss_one h
theorem ss_cons (h1 : DS X st g1) (h2 : DSs X rest g2) : DSs X (st :: rest) (gSeq g1 g2) := pss_mono (pss_cons h1 h2) fun D σ H h => by
  obtain ⟨B, Hf, ρ, o, er, hg, k⟩ := h
  unfold gSeq at hg
  obtain ⟨o1, e1, e2⟩ := Option.bind_eq_some_iff.mp hg
  refine ⟨B, Hf, ρ, o1, er, e1, ?_⟩
  cases o1 with
  | nx ρ1 => exact fun σ' Hf' H' g' er' => ⟨B, Hf', ρ1, o, er', e2, k.more g'⟩
  | rt d => cases e2; exact k
  | bk ρ1 => cases e2; exact k
  | ct ρ1 => cases e2; exact k
  | ex x ρ1 => cases e2; exact k
def gBk : FS := fun ρ => some (.bk ρ)
def gCt : FS := fun ρ => some (.ct ρ)
theorem s_break : DS X (.Break pos) gBk := ps_mono ps_break fun D σ H h => by
  obtain ⟨B, Hf, ρ, o, er, hg, k⟩ := h
  cases hg
  exact k σ Hf H GB.refl er
theorem s_continue : DS X (.Continue pos) gCt := ps_mono ps_continue fun D σ H h => by
  obtain ⟨B, Hf, ρ, o, er, hg, k⟩ := h
  cases hg
  exact k σ Hf H GB.refl er
/-- any result made to stand still (a slot's own list too: the slots are not asked any more) -/
theorem RR.still {K : PySem.W.Frag} {B Hf H Hf' H' : Hp} {σ : L2.St} {ρ : Rho} {v : V} {r : Res} (er : ER K B Hf H σ ρ) (g : Gr Hf H Hf' H') (q : RR K B H Hf' H' v r) : ∃ Hf2, GB B Hf Hf2 ∧ Same Hf2 H' ∧ Same B H' ∧ Dp K Hf2 v r.rd := by
  have bh := er.bh.trans g.h
  cases r with
  | fz y => exact ⟨Hf', g.gb er.bh, g.fh, bh, q⟩
  | nw ys =>
    obtain ⟨Hf2, g2, s2, d2⟩ := q.freeze er g rfl
    exact ⟨Hf2, g2.gb er.bh, g2.fh, bh, d2⟩
  | br ys =>
    obtain ⟨p, vs, rfl, h3, h4, h5, h6⟩ := q
    refine ⟨upd Hf' p (.lst vs), ⟨g.f.trans (same_upd h3), fun a o e n => ?_, fun b => (g.bn b).upd .lst⟩, fun a o e => ?_, bh, .lst (SqL.of upd_same) (dpa_mono (same_upd h3) _ _ h6)⟩
    · rw [upd_ne (ne_of_none e h4)]; exact g.un a o (er.bh _ _ e) n
    · by_cases z : a = p
      · subst z; rw [upd_same] at e; cases e; exact h5
      · rw [upd_ne z] at e; exact g.fh _ _ e
def gRet (f : FE) : FS := fun ρ => (f ρ).map fun r => .rt r.rd
theorem s_ret (ha : DE X e fa) : DS X (.Return (some e) pos) (gRet fa) := ps_mono (ps_ret ha) fun D σ H h => by
  obtain ⟨B, Hf, ρ, o, er, hg, k⟩ := h
  unfold gRet at hg
  obtain ⟨r, h1, h2⟩ := Option.map_eq_some_iff.mp hg
  subst h2
  refine ⟨B, Hf, ρ, r, er, h1, fun v Hf' H' g' q => ?_⟩
  obtain ⟨Hf2, g2, s1, s2, d⟩ := q.still er g'
  exact k v Hf2 H' g2 s1 s2 d
def gRetN : FS := fun _ => some (.rt .none)
theorem s_retN : DS X (.Return none pos) gRetN := ps_mono ps_retN fun D σ H h => by
  obtain ⟨B, Hf, ρ, o, er, hg, k⟩ := h
  cases hg
  exact k _ Hf H GB.refl er.fh er.bh .non
def gIf (t : Rho → Option Bool) (g1 g2 : FS) : FS := fun ρ => (t ρ).bind fun b => if b = true then g1 ρ else g2 ρ
theorem s_if {p q : List Stmt} (hc : DT X c t) (ha : DSs X p g1) (hb : DSs X q g2) : DS X (.If c p q pos) (gIf t g1 g2) := ps_mono (ps_if hc ha hb) fun D σ H h => by
  obtain ⟨B, Hf, ρ, o, er, hg, k⟩ := h
  unfold gIf at hg
  obtain ⟨bb, h1, h2⟩ := Option.bind_eq_some_iff.mp hg
  refine ⟨B, Hf, ρ, bb, er, h1, fun Hf' H' g' => ?_⟩
  cases bb with
  | true => exact ⟨B, Hf', ρ, o, er.grow g', h2, k.more (g'.gb er.bh)⟩
  | false => exact ⟨B, Hf', ρ, o, er.grow g', h2, k.more (g'.gb er.bh)⟩
def gDrop (f : FE) : FS := fun ρ => (f ρ).map fun _ => .nx ρ
theorem s_expr (ha : DE X e fa) (hs : swapsWith e none pos.line X.env = pure false := by rfl) : DS X (.Expr e pos) (gDrop fa) := ps_mono (ps_expr ha hs) fun D σ H h => by
  obtain ⟨B, Hf, ρ, o, er, hg, k⟩ := h
  unfold gDrop at hg
  obtain ⟨r, h1, h2⟩ := Option.map_eq_some_iff.mp hg
  subst h2
  exact ⟨B, Hf, ρ, r, er, h1, fun v Hf' H' g' q => k σ Hf' H' (g'.gb er.bh) (er.grow g')⟩

/-! ### assignments -/
def gSet (i : Nat) (f : FE) : FS := fun ρ => (f ρ).bind fun r => r.fr.map fun d => .nx (ρ.set i (.d d))
def gSetO (i : Nat) (f : FE) : FS := fun ρ => (f ρ).bind fun r => match r with
  | .nw xs => some (.nx (ρ.set i (.own xs)))
  | .fz d => some (.nx (ρ.set i (.d d)))
  | .br _ => none
theorem ent_set {K : PySem.W.Frag} {mg : Str → Option Value} {W : WX} {te : TE} {i : Nat} (ent : ∀ σ H Q, tD K fa σ H Q → te σ H Q) : ∀ D σ H, tDS K mg W (gSet i fa) D σ H → tAsg te (gName i) D σ H := fun D σ H h => by
  obtain ⟨B, Hf, ρ, o, er, hg, k⟩ := h
  unfold gSet at hg
  obtain ⟨r, h1, h2⟩ := Option.bind_eq_some_iff.mp hg
  obtain ⟨d, h3, h4⟩ := Option.map_eq_some_iff.mp h2
  subst h4
  refine ent σ H _ ⟨B, Hf, ρ, r, er, h1, fun v Hf' H' g' q => ?_⟩
  obtain ⟨Hf2, g2, s2, d2⟩ := q.freeze er g' h3
  exact k _ Hf2 H' (g2.gb er.bh) ((er.grow g2).set i d2)
theorem ER.setO {K : PySem.W.Frag} {B Hf H : Hp} {σ : L2.St} {ρ : Rho} {p : Addr} {vs : List V} {xs : List PyData} (er : ER K B Hf H σ ρ) (i : Nat) (h1 : Hf p = none) (h2 : B p = none) (h3 : H p = some (.lst vs)) (h4 : DpAll K Hf vs xs)
    (hn : ∀ (j : Nat) (ys : List PyData), ρ[j]? = some (Slot.own ys) → σ[j]? ≠ some (some (V.ref p))) : ER K B Hf H (σ.set i (some (.ref p))) (ρ.set i (.own xs)) := by
  refine ⟨er.fh, er.bh, by rw [List.length_set, List.length_set]; exact er.len, fun j s o q1 q2 => ?_, er.bn, fun j k ys zs p' hjk q1 q2 q3 q4 => ?_⟩
  · by_cases z : i = j
    · subst z
      by_cases hi : i < ρ.length
      · rw [List.getElem?_set_self hi] at q1
        rw [List.getElem?_set_self (by rw [er.len]; exact hi)] at q2
        cases q1; cases q2
        exact ⟨p, vs, rfl, h1, h2, h3, h4⟩
      · rw [List.getElem?_eq_none (by rw [List.length_set]; omega)] at q1
        cases q1
    · rw [List.getElem?_set_ne z] at q1 q2
      exact er.sl j s o q1 q2
  · have self : ∀ {j : Nat} {ys : List PyData} {p' : Addr}, i = j → (ρ.set i (Slot.own xs))[j]? = some (.own ys) → (σ.set i (some (.ref p)))[j]? = some (some (.ref p')) → p' = p := fun {j ys p'} z r1 r2 => by
      subst z
      by_cases hi : i < ρ.length
      · rw [List.getElem?_set_self (by rw [er.len]; exact hi)] at r2
        cases r2; rfl
      · rw [List.getElem?_eq_none (by rw [List.length_set]; omega)] at r1
        cases r1
    by_cases zj : i = j
    · by_cases zk : i = k
      · exact hjk (zj.symm.trans zk)
      · have := self zj q1 q3
        subst this
        rw [List.getElem?_set_ne zk] at q2 q4
        exact hn k zs q2 q4
    · by_cases zk : i = k
      · have := self zk q2 q4
        subst this
        rw [List.getElem?_set_ne zj] at q1 q3
        exact hn j ys q1 q3
      · rw [List.getElem?_set_ne zj] at q1 q3
        rw [List.getElem?_set_ne zk] at q2 q4
        exact er.dj j k ys zs p' hjk q1 q2 q3 q4
theorem ER.own_there {K : PySem.W.Frag} {B Hf H : Hp} {σ : L2.St} {ρ : Rho} (er : ER K B Hf H σ ρ) {j : Nat} {ys : List PyData} {p : Addr} (h : ρ[j]? = some (.own ys)) (h2 : σ[j]? = some (some (.ref p))) : Hf p = none ∧ B p = none ∧ ∃ vs, H p = some (.lst vs) ∧ DpAll K Hf vs ys := by
  obtain ⟨p', vs, e, a1, a2, a3, a4⟩ := er.sl j _ _ h h2
  cases e
  exact ⟨a1, a2, vs, a3, a4⟩
theorem ent_setO {K : PySem.W.Frag} {mg : Str → Option Value} {W : WX} {te : TE} {i : Nat} (ent : ∀ σ H Q, tD K fa σ H Q → te σ H Q) : ∀ D σ H, tDS K mg W (gSetO i fa) D σ H → tAsg te (gName i) D σ H := fun D σ H h => by
  obtain ⟨B, Hf, ρ, o, er, hg, k⟩ := h
  unfold gSetO at hg
  obtain ⟨r, h1, h2⟩ := Option.bind_eq_some_iff.mp hg
  refine ent σ H _ ⟨B, Hf, ρ, r, er, h1, fun v Hf' H' g' q => ?_⟩
  cases r with
  | nw xs =>
    cases h2
    obtain ⟨p, vs, rfl, h0, h3, h5, h6⟩ := q
    refine k _ Hf' H' (g'.gb er.bh) ((er.grow g').setO i h3 (er.bh.free h0) h5 h6 fun j ys e1 e2 => ?_)
    obtain ⟨_, _, ws, e3, _⟩ := er.own_there e1 e2
    rw [h0] at e3; cases e3
  | fz d => cases h2; exact k _ Hf' H' (g'.gb er.bh) ((er.grow g').set i q)
  | br ys => cases h2
theorem s_set {x : Str} {p : Pos} (i : Nat) (hN : X.N.Nodup) (ha : DE X e fa) (hi : X.N[i]? = some x := by rfl) (hx : Loc X.env.scope x := by first | exact Or.inl rfl | exact Or.inr rfl) (hs : swapsWith e (some (.Name x p)) pos.line X.env = pure false := by rfl) (hf : X.fn x = true ∨ X.env.scope.names.lookup x = some .local := by first | exact .inl rfl | exact .inr rfl | assumption) :
    DS X (.Assign [.Name x p] e pos) (gSet i fa) := ps_mono (ps_set (i := i) hN hi hx ha hs hf) (ent_set fun _ _ _ h => h)
theorem s_setO {x : Str} {p : Pos} (i : Nat) (hN : X.N.Nodup) (ha : DE X e fa) (hi : X.N[i]? = some x := by rfl) (hx : Loc X.env.scope x := by first | exact Or.inl rfl | exact Or.inr rfl) (hs : swapsWith e (some (.Name x p)) pos.line X.env = pure false := by rfl) (hf : X.fn x = true ∨ X.env.scope.names.lookup x = some .local := by first | exact .inl rfl | exact .inr rfl | assumption) :
    DS X (.Assign [.Name x p] e pos) (gSetO i fa) := ps_mono (ps_set (i := i) hN hi hx ha hs hf) (ent_setO fun _ _ _ h => h)
/-- y = [..] -/
theorem s_lc {i : Nat} {y : Str} {py ppos : Pos} {elt : Expr} {ifs : List Expr} {scope : Scope} {it : Rho → Option (List PyData)} {ct : Rho → Option Bool} (j : Nat) (x : Str) (hN : X.N.Nodup) (hi : DJ X tg iter it) (ok : blkC X.N X.env.scope scope [(x, j)] = true)
    (hg : ∀ (s : Shared) (H : Hp) (C : Addr) (cl : List (Str × Addr)) (fp : List Addr), PG (X.blk s H scope (compEnvC scope cl C X.env) fp) tg (gName j))
    (ht : ∀ (s : Shared) (H : Hp) (C : Addr) (cl : List (Str × Addr)) (fp : List Addr), DTs (X.blk s H scope (compEnvC scope cl C X.env) fp) ifs ct)
    (he : ∀ (s : Shared) (H : Hp) (C : Addr) (cl : List (Str × Addr)) (fp : List Addr), DE (X.blk s H scope (compEnvC scope cl C X.env) fp) elt fa)
    (hyi : X.N[i]? = some y) (hyl : X.env.scope.names.lookup y = some .local) (hsw : swapsWith (.ListComp elt [⟨tg, iter, ifs, 0⟩] scope ppos) (some (.Name y py)) pos.line X.env = pure true) (hc : X.calm = true) (hs : ∀ x, foldedSetIterable iter X.env x = pure x) :
    PS X (.Assign [.Name y py] (.ListComp elt [⟨tg, iter, ifs, 0⟩] scope ppos) pos) (tAsg (tLc (tDJ X.K it) (gName j) (tDT X.K ct) (tD X.K fa) [j]) (gName i)) :=
  ps_setLc (own := [(x, j)]) hc hN hyi hyl hsw hi (blkOk_by ok) hg ht he hs
theorem s_setLc {y : Str} {py ppos : Pos} {elt : Expr} {ifs : List Expr} {scope : Scope} {it : Rho → Option (List PyData)} {ct : Rho → Option Bool} (i j : Nat) (x : Str) (hN : X.N.Nodup) (hi : DJ X tg iter it) (ok : blkC X.N X.env.scope scope [(x, j)] = true)
    (hg : ∀ (s : Shared) (H : Hp) (C : Addr) (cl : List (Str × Addr)) (fp : List Addr), PG (X.blk s H scope (compEnvC scope cl C X.env) fp) tg (gName j))
    (ht : ∀ (s : Shared) (H : Hp) (C : Addr) (cl : List (Str × Addr)) (fp : List Addr), DTs (X.blk s H scope (compEnvC scope cl C X.env) fp) ifs ct)
    (he : ∀ (s : Shared) (H : Hp) (C : Addr) (cl : List (Str × Addr)) (fp : List Addr), DE (X.blk s H scope (compEnvC scope cl C X.env) fp) elt fa)
    (hyi : X.N[i]? = some y := by rfl) (hyl : X.env.scope.names.lookup y = some .local := by rfl) (hsw : swapsWith (.ListComp elt [⟨tg, iter, ifs, 0⟩] scope ppos) (some (.Name y py)) pos.line X.env = pure true := by exact sw_true rfl rfl rfl (by decide +kernel)) (hc : X.calm = true := by rfl) (hs : ∀ x, foldedSetIterable iter X.env x = pure x := by intro _; rfl) :
    DS X (.Assign [.Name y py] (.ListComp elt [⟨tg, iter, ifs, 0⟩] scope ppos) pos) (gSet i (fLc it j ct fa [j])) := ps_mono (s_lc j x hN hi ok hg ht he hyi hyl hsw hc hs) (ent_set lc_ent)
theorem s_setLcO {y : Str} {py ppos : Pos} {elt : Expr} {ifs : List Expr} {scope : Scope} {it : Rho → Option (List PyData)} {ct : Rho → Option Bool} (i j : Nat) (x : Str) (hN : X.N.Nodup) (hi : DJ X tg iter it) (ok : blkC X.N X.env.scope scope [(x, j)] = true)
    (hg : ∀ (s : Shared) (H : Hp) (C : Addr) (cl : List (Str × Addr)) (fp : List Addr), PG (X.blk s H scope (compEnvC scope cl C X.env) fp) tg (gName j))
    (ht : ∀ (s : Shared) (H : Hp) (C : Addr) (cl : List (Str × Addr)) (fp : List Addr), DTs (X.blk s H scope (compEnvC scope cl C X.env) fp) ifs ct)
    (he : ∀ (s : Shared) (H : Hp) (C : Addr) (cl : List (Str × Addr)) (fp : List Addr), DE (X.blk s H scope (compEnvC scope cl C X.env) fp) elt fa)
    (hyi : X.N[i]? = some y := by rfl) (hyl : X.env.scope.names.lookup y = some .local := by rfl) (hsw : swapsWith (.ListComp elt [⟨tg, iter, ifs, 0⟩] scope ppos) (some (.Name y py)) pos.line X.env = pure true := by exact sw_true rfl rfl rfl (by decide +kernel)) (hc : X.calm = true := by rfl) (hs : ∀ x, foldedSetIterable iter X.env x = pure x := by intro _; rfl) :
    DS X (.Assign [.Name y py] (.ListComp elt [⟨tg, iter, ifs, 0⟩] scope ppos) pos) (gSetO i (fLc it j ct fa [j])) := ps_mono (s_lc j x hN hi ok hg ht he hyi hyl hsw hc hs) (ent_setO lc_ent)
/-- a, b = e -/
def gAsg (u : FU) (f : FE) : FS := fun ρ => (f ρ).bind fun r => r.fr.bind fun d => (u d ρ).map .nx
theorem s_asg {u : FU} (ha : DE X e fa) (hg : DG X tg u) (hs : swapsWithSole [tg] e pos.line X.env = pure false := by rfl) (hw : swappedStores [tg] e X.env = pure none := by rfl)
    (h1 : (assignEach [tg] X.env).map (·.2) = [assign tg X.env] := by rfl) : DS X (.Assign [tg] e pos) (gAsg u fa) := ps_mono (ps_asg ha hg hs hw h1) fun D σ H h => by
  obtain ⟨B, Hf, ρ, o, er, hg, k⟩ := h
  unfold gAsg at hg
  obtain ⟨r, h1, h2⟩ := Option.bind_eq_some_iff.mp hg
  obtain ⟨d, h3, h4⟩ := Option.bind_eq_some_iff.mp h2
  obtain ⟨ρ1, h5, h6⟩ := Option.map_eq_some_iff.mp h4
  subst h6
  refine ⟨B, Hf, ρ, r, er, h1, fun v Hf' H' g' q => ?_⟩
  obtain ⟨Hf2, g2, s2, d2⟩ := q.freeze er g' h3
  exact ⟨B, Hf2, ρ, d, ρ1, er.grow g2, d2, h5, fun σ' er' => k σ' Hf2 H' (g2.gb er.bh) er'⟩
/-- a, b = x, y, written on both sides -/
def gPar (i j : Nat) (fs : FA) : FS := fun ρ => (fs ρ).bind fun rs => (frs rs).bind fun ds => match ds with
  | [x, y] => some (.nx ((ρ.set i (.d x)).set j (.d y)))
  | _ => none
theorem s_par {x y : Str} {px py pt pt2 : Pos} {kt k2} (i j : Nat) (hN : X.N.Nodup) (ha : DA X [a, b] fs) (hij : i ≠ j := by decide) (hi : X.N[i]? = some x := by rfl) (hj : X.N[j]? = some y := by rfl) (hx : X.env.scope.names.lookup x = some .local := by rfl) (hy : X.env.scope.names.lookup y = some .local := by rfl)
    (hw : swappedStores [.Tuple [.Name x px, .Name y py] kt pt] (.Tuple [a, b] k2 pt2) X.env = pure (some [x, y]) := by rfl) (hs : swapsWithSole [.Tuple [.Name x px, .Name y py] kt pt] (.Tuple [a, b] k2 pt2) pos.line X.env = pure false := by rfl) (hc : X.calm = true := by rfl) :
    DS X (.Assign [.Tuple [.Name x px, .Name y py] kt pt] (.Tuple [a, b] k2 pt2) pos) (gPar i j fs) := ps_mono (ps_par (i := i) (j := j) hc hN hi hj hij hx hy ha hw hs) fun D σ H h => by
  obtain ⟨B, Hf, ρ, o, er, hg, k⟩ := h
  unfold gPar at hg
  obtain ⟨rs, h1, h2⟩ := Option.bind_eq_some_iff.mp hg
  obtain ⟨ds, h3, h4⟩ := Option.bind_eq_some_iff.mp h2
  refine ⟨B, Hf, ρ, rs, er, h1, fun vs Hf' H' g' q => ?_⟩
  obtain ⟨Hf2, g2, s2, d2⟩ := RRs.freeze er g' q h3
  split at h4
  · cases h4
    cases d2 with
    | cons a1 t1 =>
      cases t1 with
      | cons a2 t2 =>
        cases t2
        exact ⟨_, _, rfl, k _ Hf2 H' (g2.gb er.bh) (((er.grow g2).set i a1).set j a2)⟩
  · cases h4
/-- x += e -/
def gAug (i : Nat) (h : PyData → PyData → Option PyData) (f : FE) : FS := fun ρ => match ρ[i]? with
  | some (.d x) => (f ρ).bind fun r => (h x r.rd).map fun d => .nx (ρ.set i (.d d))
  | _ => none
def hAdd : PyData → PyData → Option PyData
  | .int i, .int j => some (.int (i + j))
  | _, _ => none
def hSub : PyData → PyData → Option PyData
  | .int i, .int j => some (.int (i - j))
  | _, _ => none
theorem s_augI {x : Str} {p : Pos} {op : Operator} {h2 : Int → Int → Int} {h : PyData → PyData → Option PyData} (i : Nat) (hN : X.N.Nodup) (ho : PIp X op (rI0 fun i j => .int (h2 i j))) (hh : ∀ x y d, h x y = some d → ∃ i j, x = .int i ∧ y = .int j ∧ d = .int (h2 i j)) (ha : DE X e fa) (hi : X.N[i]? = some x := by rfl) (hx : Loc X.env.scope x := by first | exact Or.inl rfl | exact Or.inr rfl) (hf : X.fn x = true ∨ X.env.scope.names.lookup x = some .local := by first | exact .inl rfl | exact .inr rfl | assumption) :
    DS X (.AugAssign (.Name x p) op e pos) (gAug i h fa) := ps_mono (ps_aug (i := i) hN hi hx ha ho hf) fun D σ H q => by
  obtain ⟨B, Hf, ρ, o, er, hg, k⟩ := q
  unfold gAug at hg
  split at hg
  · rename_i x0 hs
    obtain ⟨r, h3, h4⟩ := Option.bind_eq_some_iff.mp hg
    obtain ⟨d, h5, h6⟩ := Option.map_eq_some_iff.mp h4
    subst h6
    obtain ⟨n, m, rfl, e2, rfl⟩ := hh _ _ _ h5
    have hiσ : i < σ.length := by rw [er.len]; exact (List.getElem?_eq_some_iff.mp hs).1
    have hoσ : σ[i]? = some σ[i] := List.getElem?_eq_getElem hiσ
    obtain ⟨v, ev, hd⟩ := er.sl i _ _ hs hoσ
    cases hd
    refine ⟨.int n, by rw [hoσ, ev], B, Hf, ρ, r, er, h3, fun w Hf' H' g' q => ⟨n, m, rfl, q.int e2, ?_⟩⟩
    exact k _ Hf' H' (g'.gb er.bh) ((er.grow g').set i (.int _))
  · cases hg
theorem s_aug_add {x : Str} {p : Pos} (i : Nat) (hN : X.N.Nodup) (ha : DE X e fa) (hi : X.N[i]? = some x := by rfl) (hx : Loc X.env.scope x := by first | exact Or.inl rfl | exact Or.inr rfl) (hf : X.fn x = true ∨ X.env.scope.names.lookup x = some .local := by first | exact .inl rfl | exact .inr rfl | assumption) :
    DS X (.AugAssign (.Name x p) .Add e pos) (gAug i hAdd fa) := s_augI i hN iop_add (fun x y d h => by
  unfold hAdd at h
  split at h
  · cases h; exact ⟨_, _, rfl, rfl, rfl⟩
  · cases h) ha hi hx hf
theorem s_aug_sub {x : Str} {p : Pos} (i : Nat) (hN : X.N.Nodup) (ha : DE X e fa) (hi : X.N[i]? = some x := by rfl) (hx : Loc X.env.scope x := by first | exact Or.inl rfl | exact Or.inr rfl) (hf : X.fn x = true ∨ X.env.scope.names.lookup x = some .local := by first | exact .inl rfl | exact .inr rfl | assumption) :
    DS X (.AugAssign (.Name x p) .Sub e pos) (gAug i hSub fa) := s_augI i hN iop_sub (fun x y d h => by
  unfold hSub at h
  split at h
  · cases h; exact ⟨_, _, rfl, rfl, rfl⟩
  · cases h) ha hi hx hf

/-! ### a slot's own list changed -/
/-- its new content at p -/
theorem ER.put {K : PySem.W.Frag} {B Hf H : Hp} {σ : L2.St} {ρ : Rho} {i : Nat} {p : Addr} {xs ys : List PyData} {vs : List V} (er : ER K B Hf H σ ρ) (h : ρ[i]? = some (.own xs)) (h2 : σ[i]? = some (some (.ref p))) (hd : DpAll K Hf vs ys) : ER K B Hf (upd H p (.lst vs)) σ (ρ.set i (.own ys)) := by
  obtain ⟨a1, a2, ws, a3, a4⟩ := er.own_there h h2
  have hi : i < ρ.length := (List.getElem?_eq_some_iff.mp h).1
  refine ⟨same_mut er.fh a1, same_mut er.bh a2, by rw [List.length_set]; exact er.len, fun j s o q1 q2 => ?_, er.bn, fun j k zs us p' hjk q1 q2 q3 q4 => ?_⟩
  · by_cases z : i = j
    · subst z
      rw [List.getElem?_set_self hi] at q1
      cases q1
      rw [h2] at q2
      cases q2
      exact ⟨p, vs, rfl, a1, a2, upd_same, hd⟩
    · rw [List.getElem?_set_ne z] at q1
      have q := er.sl j s o q1 q2
      cases s with
      | und => trivial
      | pin v => exact q
      | d x => exact q
      | own zs =>
        obtain ⟨p', ws', e, b1, b2, b3, b4⟩ := q
        subst e
        have ne : p' ≠ p := fun z2 => by
          subst z2
          exact er.dj i j xs zs p' z h q1 h2 q2
        exact ⟨p', ws', rfl, b1, b2, by rw [upd_ne ne]; exact b3, b4⟩
  · have back : ∀ {j : Nat} {zs : List PyData}, (ρ.set i (Slot.own ys))[j]? = some (.own zs) → ∃ zs', ρ[j]? = some (.own zs') := fun {j zs} r => by
      by_cases z : i = j
      · subst z; exact ⟨xs, h⟩
      · rw [List.getElem?_set_ne z] at r; exact ⟨zs, r⟩
    obtain ⟨zs', r1⟩ := back q1
    obtain ⟨us', r2⟩ := back q2
    exact er.dj j k zs' us' p' hjk r1 r2 q3 q4
theorem ER.at {K : PySem.W.Frag} {B Hf H : Hp} {σ : L2.St} {ρ : Rho} {i : Nat} {xs : List PyData} (er : ER K B Hf H σ ρ) (h : ρ[i]? = some (.own xs)) : ∃ p, σ[i]? = some (some (.ref p)) := by
  have hiσ : i < σ.length := by rw [er.len]; exact (List.getElem?_eq_some_iff.mp h).1
  have hoσ : σ[i]? = some σ[i] := List.getElem?_eq_getElem hiσ
  obtain ⟨p, vs, e, _⟩ := er.sl i _ _ h hoσ
  exact ⟨p, by rw [hoσ, e]⟩
/-- xs.append(e) -/
def gApp (i : Nat) (f : FE) : FS := fun ρ => match ρ[i]? with
  | some (.own xs) => (f ρ).bind fun r => r.fr.bind fun d => if small xs.length then some (.nx (ρ.set i (.own (xs ++ [d])))) else none
  | _ => none
theorem s_app {x : Str} {p apos cpos : Pos} (i : Nat) (ha : DE X e fa) (hp : PS X (.Expr (.Call (.Attribute (.Name x p) "append" apos) [e] [] cpos) pos) (tDrop (tBM X.K "list" rAppend (tVar i) (tCons (tD X.K fa) tNil)))) :
    DS X (.Expr (.Call (.Attribute (.Name x p) "append" apos) [e] [] cpos) pos) (gApp i fa) := ps_mono hp fun D σ H q => by
  obtain ⟨B, Hf, ρ, o, er, hg, k⟩ := q
  unfold gApp at hg
  split at hg
  · rename_i xs hs
    obtain ⟨r, h3, h4⟩ := Option.bind_eq_some_iff.mp hg
    obtain ⟨d, h5, h6⟩ := Option.bind_eq_some_iff.mp h4
    split at h6
    · rename_i hz
      cases h6
      obtain ⟨l, hl⟩ := er.at hs
      obtain ⟨a1, a2, ws, a3, a4⟩ := er.own_there hs hl
      refine ⟨.ref l, hl, .inl ⟨rfl, _, SqL.of a3⟩, B, Hf, ρ, r, er, h3, fun v Hf' H' g' q => ?_⟩
      obtain ⟨Hf2, g2, s2, d2⟩ := q.freeze er g' h5
      have er2 := er.grow g2
      obtain ⟨b1, b2, ws2, b3, b4⟩ := er2.own_there hs hl
      refine ⟨l, ws2, v, rfl, rfl, b3, by rw [dpa_len b4]; exact Nat.lt_of_le_of_lt hz (by decide), ?_⟩
      exact k _ Hf2 _ (g2.gb er.bh) (er2.put hs hl (dpa_app b4 (.cons d2 .nil)))
    · cases h6
  · cases hg
/-- xs[j] = e -/
def gPut (i : Nat) (fj : FE) (f : FE) : FS := fun ρ => (f ρ).bind fun r => r.fr.bind fun d => (fj ρ).bind fun j => match ρ[i]?, j.rd with
  | some (.own xs), .int n => (ixN xs.length n).map fun m => .nx (ρ.set i (.own (xs.set m d)))
  | _, _ => none
theorem s_put {x : Str} {p tpos : Pos} (i : Nat) (ha : DE X e fa) (hb : DE X b fb) (hp : PS X (.Assign [.Subscript (.Name x p) b tpos] e pos) (tAsg (tD X.K fa) (gSub (tVar i) (tD X.K fb) rSetL))) :
    DS X (.Assign [.Subscript (.Name x p) b tpos] e pos) (gPut i fb fa) := ps_mono hp fun D σ H q => by
  obtain ⟨B, Hf, ρ, o, er, hg, k⟩ := q
  unfold gPut at hg
  obtain ⟨r, h3, h4⟩ := Option.bind_eq_some_iff.mp hg
  obtain ⟨d, h5, h6⟩ := Option.bind_eq_some_iff.mp h4
  obtain ⟨j, h7, h8⟩ := Option.bind_eq_some_iff.mp h6
  split at h8
  · rename_i xs n hs hj
    obtain ⟨m, h9, h10⟩ := Option.map_eq_some_iff.mp h8
    subst h10
    refine ⟨B, Hf, ρ, r, er, h3, fun v Hf' H' g' q => ?_⟩
    obtain ⟨Hf2, g2, s2, d2⟩ := q.freeze er g' h5
    have er2 := er.grow g2
    obtain ⟨l, hl⟩ := er2.at hs
    refine ⟨.ref l, hl, B, Hf2, ρ, j, er2, h7, fun w Hf3 H3 g3 q3 => ?_⟩
    have er3 := er2.grow g3
    obtain ⟨b1, b2, ws2, b3, b4⟩ := er3.own_there hs hl
    refine ⟨l, ws2, n, m, rfl, q3.int hj, b3, by rw [dpa_len b4]; exact h9, ?_⟩
    exact k _ Hf3 _ ((g2.trans g3).gb er.bh) (er3.put hs hl (dpa_set (dp_mono g3.f _ _ d2) m b4))
  · cases h8
/-- a slot's own list is left as it is from here on -/
def frz (i : Nat) (ρ : Rho) : Rho := match ρ[i]? with
  | some (.own xs) => ρ.set i (.d (.list xs))
  | _ => ρ
theorem ER.frz {K : PySem.W.Frag} {B Hf H : Hp} {σ : L2.St} {ρ : Rho} (er : ER K B Hf H σ ρ) (i : Nat) : ∃ Hf2, GB B Hf Hf2 ∧ ER K B Hf2 H σ (DL.frz i ρ) := by
  unfold DL.frz
  split
  · rename_i xs hs
    obtain ⟨p, hp⟩ := er.at hs
    obtain ⟨a1, a2, ws, a3, a4⟩ := er.own_there hs hp
    have hi : i < ρ.length := (List.getElem?_eq_some_iff.mp hs).1
    refine ⟨upd Hf p (.lst ws), ⟨same_upd a1, fun a o e n => by rw [upd_ne (ne_of_none e a2)]; exact n, fun b => b.upd .lst⟩, fun a o e => ?_, er.bh, by rw [List.length_set]; exact er.len, fun j s o q1 q2 => ?_, er.bn.upd .lst, fun j k ys zs p' hjk q1 q2 q3 q4 => ?_⟩
    · by_cases z : a = p
      · subst z; rw [upd_same] at e; cases e; exact a3
      · rw [upd_ne z] at e; exact er.fh _ _ e
    · by_cases z : i = j
      · subst z
        rw [List.getElem?_set_self hi] at q1
        cases q1
        rw [hp] at q2
        cases q2
        exact ⟨_, rfl, .lst (SqL.of upd_same) (dpa_mono (same_upd a1) _ _ a4)⟩
      · rw [List.getElem?_set_ne z] at q1
        have q := er.sl j s o q1 q2
        cases s with
        | und => trivial
        | pin v => exact q
        | d x => obtain ⟨v, e, hd⟩ := q; exact ⟨v, e, dp_mono (same_upd a1) _ _ hd⟩
        | own zs =>
          obtain ⟨p', ws', e, b1, b2, b3, b4⟩ := q
          subst e
          have ne : p' ≠ p := fun z2 => by
            subst z2
            exact er.dj i j xs zs p' z hs q1 hp q2
          exact ⟨p', ws', rfl, by rw [upd_ne ne]; exact b1, b2, b3, dpa_mono (same_upd a1) _ _ b4⟩
    · have back : ∀ {j : Nat} {zs : List PyData}, (ρ.set i (Slot.d (.list xs)))[j]? = some (.own zs) → ρ[j]? = some (.own zs) := fun {j zs} r => by
        by_cases z : i = j
        · subst z; rw [List.getElem?_set_self hi] at r; cases r
        · rw [List.getElem?_set_ne z] at r; exact r
      exact er.dj j k ys zs p' hjk (back q1) (back q2) q3 q4
  · exact ⟨Hf, GB.refl, er⟩
theorem s_frz (i : Nat) (h : DS X st g) : DS X st (fun ρ => g (frz i ρ)) := ps_mono h fun D σ H q => by
  obtain ⟨B, Hf, ρ, o, er, hg, k⟩ := q
  obtain ⟨Hf2, g2, er2⟩ := er.frz i
  exact ⟨B, Hf2, _, o, er2, hg, k.more g2⟩

/-- as s_frz, by a name -/
def gFrz (i : Nat) (g : FS) : FS := fun ρ => g (frz i ρ)
theorem s_frzN (i : Nat) (h : DS X st g) : DS X st (gFrz i g) := s_frz i h

/-! ### loops -/
def forD (u : FU) (body : FS) : List PyData → Rho → Option Out
  | [], ρ => some (.nx ρ)
  | x :: xs, ρ => (u x ρ).bind fun ρ1 => (body ρ1).bind fun o => match o with
    | .nx ρ2 => forD u body xs ρ2
    | .ct ρ2 => forD u body xs ρ2
    | .bk ρ2 => some (.nx ρ2)
    | .rt d => some (.rt d)
    | .ex x ρ2 => some (.ex x ρ2)
def gFor (it : Rho → Option (List PyData)) (u : FU) (body : FS) : FS := fun ρ => (it ρ).bind fun xs => forD u body xs ρ
theorem s_for {it : Rho → Option (List PyData)} {u : FU} {body : List Stmt} (hi : DI X tg iter it) (hg : DG X tg u) (hb : DSs X body g) (hp : PassesOwn (model X.prog X.w) X.A X.env X.xe := by exact PassesOwn.never) (hc : X.calm = true := by rfl) (hs : ∀ x, foldedSetIterable iter X.env x = pure x := by intro _; rfl) :
    DS X (.For tg iter body [] pos) (gFor it u g) := ps_mono (ps_for hp hc hi hg hb hs) fun D σ H h => by
  obtain ⟨B, Hf, ρ, o, er, hg, k⟩ := h
  unfold gFor at hg
  obtain ⟨xs, h1, h2⟩ := Option.bind_eq_some_iff.mp hg
  refine ⟨B, Hf, ρ, xs, er, h1, fun J Hf1 H1 g1 I1 => ?_⟩
  have gb1 := g1.gb er.bh
  let P : Nat → L2.St → Hp → Prop := fun i σ' H' => ∃ Hg ρ', GB B Hf1 Hg ∧ ER X.K B Hg H' σ' ρ' ∧ forD u g (xs.drop i) ρ' = some o
  refine ⟨fun i m σ' H' => m = xs.length - i ∧ i ≤ xs.length ∧ P i σ' H', ⟨xs.length, by simp, Nat.zero_le _, Hf1, ρ, GB.refl, er.grow g1, by rw [List.drop_zero]; exact h2⟩, ?_⟩
  rintro i m σ2 H2 ⟨rfl, hi, Hg, ρ2, gb, er2, hl⟩
  have s2 : Same Hf1 H2 := gb.f.trans er2.fh
  by_cases hlt : i < xs.length
  · refine .inr ⟨I1.go i H2 s2 hlt, P (i + 1), fun σ' H' p => ⟨xs.length - (i + 1), by omega, rfl, hlt, p⟩, fun x H3 y => ?_⟩
    obtain ⟨Hg3, g3, dx⟩ := I1.yld i H2 x H3 Hg xs[i] s2 gb.f er2.fh (getE hlt) y
    rw [List.drop_eq_getElem_cons hlt] at hl
    unfold forD at hl
    obtain ⟨ρ3, h3, h4⟩ := Option.bind_eq_some_iff.mp hl
    obtain ⟨o4, h5, h6⟩ := Option.bind_eq_some_iff.mp h4
    have er3 := er2.grow g3
    have gb3 : GB B Hf1 Hg3 := gb.trans (g3.gb er2.bh)
    refine ⟨B, Hg3, ρ2, xs[i], ρ3, er3, dx, h3, fun σ4 er4 => ⟨B, Hg3, ρ3, o4, er4, h5, ?_⟩⟩
    cases o4 with
    | nx ρ5 => exact fun σ' Hf' H' g' er' => ⟨Hf', ρ5, gb3.trans g', er', h6⟩
    | ct ρ5 => exact fun σ' Hf' H' g' er' => ⟨Hf', ρ5, gb3.trans g', er', h6⟩
    | bk ρ5 =>
      cases h6
      exact fun σ' Hf' H' g' er' => k σ' Hf' H' ((gb1.trans gb3).trans g') er'
    | rt d =>
      cases h6
      exact fun v Hf' H' g' e1 e2 dp => k v Hf' H' ((gb1.trans gb3).trans g') e1 e2 dp
    | ex x ρ5 =>
      cases h6
      exact fun C σ' Hf' H' e g' er' => k C σ' Hf' H' e ((gb1.trans gb3).trans g') er'
  · have ei : i = xs.length := by omega
    subst ei
    rw [List.drop_length] at hl
    cases hl
    exact .inl ⟨I1.stop _ H2 s2 (Nat.le_refl _), k σ2 Hg H2 (gb1.trans gb) er2⟩
/-- for i, x in enumerate(xs) -/
theorem s_forE {us : FUs} {n kk : Nat} {elts : List Expr} {p tpos cpos : Pos} {body : List Stmt} (hm : X.mg "enumerate" = none) (ha : DA X [a] fs) (h : DGs X elts us) (hb : DSs X body g) (hp : PassesOwn (model X.prog X.w) X.A X.env X.xe := by exact PassesOwn.never) (hc : X.calm = true := by rfl)
    (hg : Gl X "enumerate" := by rfl) (hq : starEach [a] X.env = [(false, eval a X.env)] := by rfl) (hs : ∀ x, foldedSetIterable (.Call (.Name "enumerate" p) [a] [] cpos) X.env x = pure x := by intro _; rfl) (hn : (assignEach elts X.env).length = n := by rfl) (hst : (assignEach elts X.env).findIdx? (·.1) = none := by rfl) :
    DS X (.For (.Tuple elts kk tpos) (.Call (.Name "enumerate" p) [a] [] cpos) body [] pos) (gFor (enF fs) (uTup n us) g) := ps_mono (ps_for hp hc (i_enum hm ha hg hq) (g_tupT h hc hn hst) hb hs) fun D σ H h => by
  obtain ⟨B, Hf, ρ, o, er, hg, k⟩ := h
  unfold gFor at hg
  obtain ⟨ys, h1, h2⟩ := Option.bind_eq_some_iff.mp hg
  obtain ⟨xs, rfl⟩ : ∃ xs, ys = enD 0 xs := by
    unfold enF at h1
    obtain ⟨rs, _, h4⟩ := Option.bind_eq_some_iff.mp h1
    split at h4
    · cases h4; exact ⟨_, rfl⟩
    · cases h4; exact ⟨_, rfl⟩
    · cases h4
  refine ⟨B, Hf, ρ, xs, er, h1, fun J Hf1 H1 g1 I1 => ?_⟩
  have gb1 := g1.gb er.bh
  let P : Nat → L2.St → Hp → Prop := fun i σ' H' => ∃ Hg ρ', GB B Hf1 Hg ∧ ER X.K B Hg H' σ' ρ' ∧ forD (uTup n us) g ((enD 0 xs).drop i) ρ' = some o
  refine ⟨fun i m σ' H' => m = xs.length - i ∧ i ≤ xs.length ∧ P i σ' H', ⟨xs.length, by simp, Nat.zero_le _, Hf1, ρ, GB.refl, er.grow g1, by rw [List.drop_zero]; exact h2⟩, ?_⟩
  rintro i m σ2 H2 ⟨rfl, hi, Hg, ρ2, gb, er2, hl⟩
  have s2 : Same Hf1 H2 := gb.f.trans er2.fh
  by_cases hlt : i < xs.length
  · refine .inr ⟨I1.go i H2 s2 hlt, P (i + 1), fun σ' H' p => ⟨xs.length - (i + 1), by omega, rfl, hlt, p⟩, fun x H3 y => ?_⟩
    obtain ⟨g3, T, vs, rfl, hT, dT⟩ := I1.yld i H2 x H3 Hg xs[i] gb.f er2.fh (getE hlt) y
    have hlt' : i < (enD 0 xs).length := by rw [enD_len]; exact hlt
    have hit : (enD 0 xs)[i] = .tuple [.int (i : Nat), xs[i]] := by
      have q := enD_get 0 xs i
      rw [getE hlt', getE hlt, Option.map_some, Nat.zero_add] at q
      exact Option.some.inj q
    rw [List.drop_eq_getElem_cons hlt', hit] at hl
    unfold forD at hl
    obtain ⟨ρ3, h3, h4⟩ := Option.bind_eq_some_iff.mp hl
    obtain ⟨o4, h5, h6⟩ := Option.bind_eq_some_iff.mp h4
    have er3 := er2.grow g3
    refine ⟨B, Hg, ρ2, _, ρ3, T, vs, er3, rfl, hT, dT, h3, fun σ4 er4 => ⟨B, Hg, ρ3, o4, er4, h5, ?_⟩⟩
    cases o4 with
    | nx ρ5 => exact fun σ' Hf' H' g' er' => ⟨Hf', ρ5, gb.trans g', er', h6⟩
    | ct ρ5 => exact fun σ' Hf' H' g' er' => ⟨Hf', ρ5, gb.trans g', er', h6⟩
    | bk ρ5 =>
      cases h6
      exact fun σ' Hf' H' g' er' => k σ' Hf' H' ((gb1.trans gb).trans g') er'
    | rt d =>
      cases h6
      exact fun v Hf' H' g' e1 e2 dp => k v Hf' H' ((gb1.trans gb).trans g') e1 e2 dp
    | ex x ρ5 =>
      cases h6
      exact fun C σ' Hf' H' e g' er' => k C σ' Hf' H' e ((gb1.trans gb).trans g') er'
  · have ei : i = xs.length := by omega
    subst ei
    rw [List.drop_of_length_le (by rw [enD_len]; omega)] at hl
    cases hl
    exact .inl ⟨I1.stop _ H2 s2 (Nat.le_refl _), k σ2 Hg H2 (gb1.trans gb) er2⟩
def whD (c : Rho → Option Bool) (body : FS) : Nat → Rho → Option Out
  | 0, _ => none
  | n + 1, ρ => (c ρ).bind fun b => if b = true then (body ρ).bind fun o => match o with
    | .nx ρ2 => whD c body n ρ2
    | .ct ρ2 => whD c body n ρ2
    | .bk ρ2 => some (.nx ρ2)
    | .rt d => some (.rt d)
    | .ex x ρ2 => some (.ex x ρ2)
    else some (.nx ρ)
def gWh (m : Rho → Nat) (c : Rho → Option Bool) (body : FS) : FS := fun ρ => whD c body (m ρ) ρ
theorem s_while (m : Rho → Nat) {body : List Stmt} (ht : DT X c t) (hb : DSs X body g) (hp : PassesOwn (model X.prog X.w) X.A X.env X.xe := by exact PassesOwn.never) : DS X (.While c body [] pos) (gWh m t g) := ps_mono (ps_while hp ht hb) fun D σ H h => by
  obtain ⟨B, Hf, ρ, o, er, hg, k⟩ := h
  unfold gWh at hg
  let P : Nat → L2.St → Hp → Prop := fun n σ' H' => ∃ Hg ρ', GB B Hf Hg ∧ ER X.K B Hg H' σ' ρ' ∧ whD t g n ρ' = some o
  refine ⟨P, ⟨m ρ, Hf, ρ, GB.refl, er, hg⟩, ?_⟩
  rintro n σ2 H2 ⟨Hg, ρ2, gb, er2, hl⟩
  cases n with
  | zero => cases hl
  | succ n =>
    unfold whD at hl
    obtain ⟨bb, h3, h4⟩ := Option.bind_eq_some_iff.mp hl
    refine ⟨B, Hg, ρ2, bb, er2, h3, fun Hf3 H3 g3 => ?_⟩
    have er3 := er2.grow g3
    have gb3 : GB B Hf Hf3 := gb.trans (g3.gb er2.bh)
    cases bb with
    | true =>
      rw [if_pos rfl] at h4
      obtain ⟨o4, h5, h6⟩ := Option.bind_eq_some_iff.mp h4
      refine iteT ?_
      refine ⟨P n, fun σ' H' p => ⟨n, Nat.lt_succ_self _, p⟩, B, Hf3, ρ2, o4, er3, h5, ?_⟩
      cases o4 with
      | nx ρ5 => exact fun σ' Hf' H' g' er' => ⟨Hf', ρ5, gb3.trans g', er', h6⟩
      | ct ρ5 => exact fun σ' Hf' H' g' er' => ⟨Hf', ρ5, gb3.trans g', er', h6⟩
      | bk ρ5 =>
        cases h6
        exact fun σ' Hf' H' g' er' => k σ' Hf' H' (gb3.trans g') er'
      | rt d =>
        cases h6
        exact fun v Hf' H' g' e1 e2 dp => k v Hf' H' (gb3.trans g') e1 e2 dp
      | ex x ρ5 =>
        cases h6
        exact fun C σ' Hf' H' e g' er' => k C σ' Hf' H' e (gb3.trans g') er'
    | false =>
      rw [if_neg Bool.false_ne_true] at h4
      cases h4
      exact iteF (k σ2 Hf3 H3 gb3 er3)
end

/-! ### defs -/
abbrev FD := List PyData → Option PyData
def spD (K : PySem.W.Frag) (n : Nat) (F : FD) : Sp := fun vs H Q _ => ∃ Hf ds d, (Same Hf H ∧ Bn Hf) ∧ DpAll K Hf vs ds ∧ ds.length = n ∧ F ds = some d ∧ ∀ v Hf' H', Gr Hf H Hf' H' → Dp K Hf' v d → Q v H'
def startR (n : Nat) (ds : List PyData) : Rho := ds.map Slot.d ++ List.replicate (n - ds.length) .und
def runD (n : Nat) (g : FS) : FD := fun ds => (g (startR n ds)).bind fun o => match o with
  | .rt d => some d
  | .nx _ => some .none
  | _ => none
theorem er_start {K : PySem.W.Frag} {Hf H : Hp} {N : List Str} {vs : List V} {ds : List PyData} (e : Same Hf H ∧ Bn Hf) (h : DpAll K Hf vs ds) : ER K H Hf H (L2.start N vs) (startR N.length ds) := by
  have hl := dpa_len h
  have noOwn : ∀ {i : Nat} {xs : List PyData}, (startR N.length ds)[i]? = some (.own xs) → False := fun {i xs} q => by
    unfold startR at q
    by_cases hi : i < ds.length
    · rw [List.getElem?_append_left (by simpa using hi), List.getElem?_map] at q
      obtain ⟨d, _, e2⟩ := Option.map_eq_some_iff.mp q
      cases e2
    · rw [List.getElem?_append_right (by simpa using hi), List.getElem?_replicate] at q
      split at q <;> cases q
  refine ⟨e.1, Same.refl _, ?_, fun i s o h1 h2 => ?_, e.2, fun i j xs ys p _ h1 _ _ _ => noOwn h1⟩
  · unfold L2.start startR
    rw [List.length_append, List.length_append, List.length_map, List.length_map, List.length_replicate, List.length_replicate, hl]
  · unfold startR at h1
    unfold L2.start at h2
    by_cases hi : i < ds.length
    · rw [List.getElem?_append_left (by simpa using hi), List.getElem?_map] at h1
      rw [List.getElem?_append_left (by simp; omega), List.getElem?_map] at h2
      obtain ⟨d, e1, rfl⟩ := Option.map_eq_some_iff.mp h1
      obtain ⟨v, e2, rfl⟩ := Option.map_eq_some_iff.mp h2
      obtain ⟨w, e3, hd⟩ := dpa_get h e1
      rw [e2] at e3
      cases e3
      exact ⟨v, rfl, hd⟩
    · rw [List.getElem?_append_right (by simpa using hi), List.getElem?_replicate] at h1
      split at h1
      · cases h1; trivial
      · cases h1
section
variable {P : Program} {w : World} {K : PySem.W.Frag} {mg : Str → Option Value} {base : Heap}
/-- THE RULE for a def that raises nothing -/
theorem def_ok {x qual : Str} {st : Stmt} {f : Addr} {fd : FuncData} {N ps : List Str} {k : Nat} {g : FS} (F : Fun K x qual st f fd) (S : FnScope N ps (defScope st))
    (hbody : ∀ (cdv : Value) (A : Around) (outer : List Env) (s : Shared) (H : Hp) (E : XK), Room k (A.deeper (envOfC qual (defScope st) s.heap.objs.size f cdv)) → DSs (cxOf CX0 P w K mg base N qual (defScope st) f cdv A outer s H E).nox (defBody st) g) :
    FnOk P w K mg base CX0 (k + 1) f fd ps (spD K ps.length (runD N.length g)) := by
  refine F.ok S (fun vs H Q E h => ?_) (fun cdv A outer s H vs Q E hr h => ?_)
  · obtain ⟨Hf, ds, d, e, hd, hl, _⟩ := h
    rw [dpa_len hd, hl]
  · obtain ⟨Hf, ds, d, e, hd, hl, hF, q⟩ := h
    refine ⟨_, hbody cdv A outer s H E hr, ?_⟩
    unfold runD at hF
    obtain ⟨o, h1, h2⟩ := Option.bind_eq_some_iff.mp hF
    have er : ER K H Hf H (L2.start N vs) (startR N.length ds) := er_start e hd
    refine ⟨H, Hf, _, o, er, h1, ?_⟩
    cases o with
    | rt d' =>
      cases h2
      exact fun v Hf' H' g' e1 e2 dp => q v Hf' H' ⟨g'.f, e2, e1, g'.un, g'.bn⟩ dp
    | nx ρ' =>
      cases h2
      exact fun σ' Hf' H' g' er' => q .non Hf' H' ⟨g'.f, er'.bh, er'.fh, g'.un, g'.bn⟩ .non
    | bk _ => cases h2
    | ct _ => cases h2
    | ex _ _ => cases h2
theorem spD_imp {CX : CXT} {k n : Nat} {f : Addr} {fd : FuncData} {ps : List Str} {F G : FD} (h : FnOk P w K mg base CX k f fd ps (spD K n F)) (e : ∀ ds d, ds.length = n → G ds = some d → F ds = some d) : FnOk P w K mg base CX k f fd ps (spD K n G) :=
  h.imp fun vs H Q E q => by
    obtain ⟨Hf, ds, d, h1, h2, h3, h4, h5⟩ := q
    exact ⟨Hf, ds, d, h1, h2, h3, e ds d h3 h4, h5⟩
end
section
variable {X : Cx} {e : Expr} {es : List Expr} {fs : FA} {pos p : Pos} {k n : Nat} {f : Addr} {fd : FuncData} {ps : List Str} {F : FD} {x : Str}
def fCall (F : FD) (fs : FA) : FE := fun ρ => (fs ρ).bind fun rs => (frs rs).bind fun ds => (F ds).map .fz
theorem ent_call {K : PySem.W.Frag} {E : XK} (hn : ∀ rs, (∃ ρ, fs ρ = some rs) → rs.length = n) : ∀ σ H Q, tD K (fCall F fs) σ H Q → tCall (spD K n F) [] E (tDA K fs) σ H Q := fun σ H Q h => by
  obtain ⟨B, Hf, ρ, r, er, hf, q⟩ := h
  unfold fCall at hf
  obtain ⟨rs, h1, h2⟩ := Option.bind_eq_some_iff.mp hf
  obtain ⟨ds, h3, h4⟩ := Option.bind_eq_some_iff.mp h2
  obtain ⟨d, h5, h6⟩ := Option.map_eq_some_iff.mp h4
  subst h6
  refine ⟨B, Hf, ρ, rs, er, h1, fun vs Hf' H' g' qq => ?_⟩
  obtain ⟨Hf2, g2, s2, d2⟩ := RRs.freeze er g' qq h3
  have hl : ds.length = n := by
    rw [← hn rs ⟨ρ, h1⟩]
    clear h5 qq d2 h1 h4 h2 hf
    induction rs generalizing ds with
    | nil => cases h3; rfl
    | cons r rs ih =>
      unfold frs at h3
      obtain ⟨x, e1, e2⟩ := Option.bind_eq_some_iff.mp h3
      obtain ⟨ys, e3, e4⟩ := Option.map_eq_some_iff.mp e2
      subst e4
      rw [List.length_cons, List.length_cons, ih ys e3]
  show spD K n F (vs ++ []) H' Q E
  rw [List.append_nil]
  exact ⟨Hf2, ds, d, ⟨g2.fh, g2.bn er.bn⟩, d2, hl, h5, fun v Hf3 H3 g3 dp => q v Hf3 H3 (g2.trans g3) dp⟩
/-- the number of written arguments -/
def ALen (fs : FA) (n : Nat) : Prop := ∀ rs, (∃ ρ, fs ρ = some rs) → rs.length = n
theorem al_nil : ALen aNil 0 := fun rs h => by
  obtain ⟨ρ, e⟩ := h
  cases e; rfl
theorem al_cons {fa : FE} (h : ALen fs n) : ALen (aCons fa fs) (n + 1) := fun rs q => by
  obtain ⟨ρ, e⟩ := q
  unfold aCons at e
  obtain ⟨x, h1, h2⟩ := Option.bind_eq_some_iff.mp e
  obtain ⟨y, h3, h4⟩ := Option.map_eq_some_iff.mp h2
  subst h4
  rw [List.length_cons, h y ⟨ρ, h3⟩]
theorem d_call (G : FnOk X.prog X.w X.K X.mg X.base CX0 k f fd ps (spD X.K n F)) (hr : Room k X.A) (hm : X.mg x = some (.ref f)) (hk : PySem.W.keepIn X.K (.ref f) = true) (hb : Binds X.K fd ps []) (ha : DA X (e :: es) fs) (hn : ALen fs n)
    (hg : Gl X x := by rfl) (hdb : (x == ("__debug__" : Str)) = false := by decide) (he : starEach (e :: es) X.env = (false, eval e X.env) :: starEach es X.env := by rfl) (hpl : (backTo pos (starEach es X.env)).any (·.1) = false := by rfl) :
    DE X (.Call (.Name x p) (e :: es) [] pos) (fCall F fs) := pe_mono (pe_call G hr hg hm hk hb .nil pass0 ha hdb he hpl) (ent_call hn)
end
end DL
/-! the combinators, turned into plain terms -/
namespace DL
open PySem PySem.Spec PyProof.Rows L2
@[simp] theorem ite_bind {α β : Type} {p : Prop} [Decidable p] (x y : Option α) (f : α → Option β) : (if p then x else y).bind f = if p then x.bind f else y.bind f := by split <;> rfl
@[simp] theorem ite_map {α β : Type} {p : Prop} [Decidable p] (x y : Option α) (f : α → β) : (if p then x else y).map f = if p then x.map f else y.map f := by split <;> rfl
section
variable {ρ : Rho} {f fa fb fc : FE} {fs : FA} {g g1 g2 : FS} {t u : Rho → Option Bool} {i j : Int} {a b : PyData} {r : Res} {xs ys : List PyData} {n k : Nat}
@[simp] theorem rd_fz : (Res.fz a).rd = a := (rfl)
@[simp] theorem rd_nw : (Res.nw xs).rd = .list xs := (rfl)
@[simp] theorem rd_br : (Res.br xs).rd = .list xs := (rfl)
@[simp] theorem fr_fz : (Res.fz a).fr = some a := (rfl)
@[simp] theorem fr_nw : (Res.nw xs).fr = some (.list xs) := (rfl)
@[simp] theorem fr_br : (Res.br xs).fr = none := (rfl)
def rdS : Option Slot → Option Res
  | some (.d x) => some (.fz x)
  | some (.own xs) => some (.br xs)
  | _ => none
@[simp] theorem rdS_d : rdS (some (.d a)) = some (.fz a) := (rfl)
@[simp] theorem rdS_own : rdS (some (.own xs)) = some (.br xs) := (rfl)
@[simp] theorem fVar_eq : fVar n ρ = rdS ρ[n]? := by
  unfold fVar rdS
  cases h : ρ[n]? with
  | none => rfl
  | some s => cases s <;> rfl
@[simp] theorem fC_eq : fC a ρ = some (.fz a) := (rfl)
@[simp] theorem f2_eq {h : PyData → PyData → Option Res} : f2 h fa fb ρ = (fa ρ).bind fun x => (fb ρ).bind fun y => h x.rd y.rd := (rfl)
@[simp] theorem f1_eq {h : PyData → Option Res} : f1 h fa ρ = (fa ρ).bind fun x => h x.rd := (rfl)
def toB : PyData → Option Bool
  | .bool b => some b
  | _ => none
@[simp] theorem toB_b {b : Bool} : toB (.bool b) = some b := (rfl)
@[simp] theorem fB_eq : fB f ρ = (f ρ).bind fun r => toB r.rd := by
  unfold fB
  congr 1
@[simp] theorem fTru_eq : fTru f ρ = (f ρ).bind fun r => tru r.rd := (rfl)
@[simp] theorem tru_none : tru .none = some false := (rfl)
@[simp] theorem tru_bool {b : Bool} : tru (.bool b) = some b := (rfl)
@[simp] theorem tru_int : tru (.int i) = some (i != 0) := (rfl)
@[simp] theorem tru_list : tru (.list xs) = some (!xs.isEmpty) := (rfl)
@[simp] theorem tru_tuple : tru (.tuple xs) = some (!xs.isEmpty) := (rfl)
@[simp] theorem tNotF_eq : tNotF t ρ = (t ρ).map (!·) := (rfl)
@[simp] theorem tAndF_eq : tAndF t u ρ = (t ρ).bind fun a => if a = true then u ρ else some false := (rfl)
@[simp] theorem tOrF_eq : tOrF t u ρ = (t ρ).bind fun a => if a = true then some true else u ρ := (rfl)
@[simp] theorem fAnd_eq : fAnd fa fb ρ = (fa ρ).bind fun a => (tru a.rd).bind fun k => if k = true then fb ρ else some a := (rfl)
@[simp] theorem fOr_eq : fOr fa fb ρ = (fa ρ).bind fun a => (tru a.rd).bind fun k => if k = true then some a else fb ρ := (rfl)
@[simp] theorem fNot_eq : fNot fa ρ = (fa ρ).bind fun a => (tru a.rd).map fun k => .fz (.bool (!k)) := (rfl)
@[simp] theorem fIf_eq : fIf t fa fb ρ = (t ρ).bind fun k => if k = true then fa ρ else fb ρ := (rfl)
@[simp] theorem aNil_eq : aNil ρ = some [] := (rfl)
@[simp] theorem aCons_eq : aCons f fs ρ = (f ρ).bind fun r => (fs ρ).map fun rs => r :: rs := (rfl)
@[simp] theorem frs_nil : frs [] = some [] := (rfl)
@[simp] theorem frs_cons {rs : List Res} : frs (r :: rs) = r.fr.bind fun x => (frs rs).map fun xs => x :: xs := (rfl)
@[simp] theorem fTup_eq : fTup fs ρ = (fs ρ).bind fun rs => (frs rs).bind fun xs => if small xs.length then some (.fz (.tuple xs)) else none := (rfl)
@[simp] theorem fLst_eq : fLst fs ρ = (fs ρ).bind fun rs => (frs rs).bind fun xs => if small xs.length then some (.nw xs) else none := (rfl)
@[simp] theorem gAdd_int : gAdd (.int i) (.int j) = some (.fz (.int (i + j))) := (rfl)
@[simp] theorem gAdd_list : gAdd (.list xs) (.list ys) = if small (xs.length + ys.length) then some (.nw (xs ++ ys)) else none := (rfl)
@[simp] theorem gAdd_tuple : gAdd (.tuple xs) (.tuple ys) = if small (xs.length + ys.length) then some (.fz (.tuple (xs ++ ys))) else none := (rfl)
@[simp] theorem gMinus_int : gMinus (.int i) (.int j) = some (.fz (.int (i - j))) := (rfl)
@[simp] theorem gDiv_int : gDiv (.int i) (.int j) = if 0 < j ∧ j < 2 ^ 200 then some (.fz (.int (i / j))) else none := (rfl)
@[simp] theorem gMod_int : gMod (.int i) (.int j) = if 0 < j then some (.fz (.int (i % j))) else none := (rfl)
@[simp] theorem gPow_int : gPow (.int i) (.int j) = if 0 ≤ j ∧ j ≤ 1000000 ∧ i.natAbs < 2 ^ 64 then some (.fz (.int (i ^ j.toNat))) else none := (rfl)
@[simp] theorem gMul_int : gMul (.int i) (.int j) = if CMul i j then some (.fz (.int (i * j))) else none := (rfl)
@[simp] theorem gMul_tuple : gMul (.tuple xs) (.int j) = if xs ≠ [] ∧ 2 ≤ j ∧ j ≤ 1000 ∧ xs.length ≤ 1000 then some (.fz (.tuple (List.replicate j.toNat xs).flatten)) else none := (rfl)
@[simp] theorem gLt_int : gLt (.int i) (.int j) = some (.fz (.bool (decide (i < j)))) := (rfl)
@[simp] theorem gLe_int : gLe (.int i) (.int j) = some (.fz (.bool (decide (i ≤ j)))) := (rfl)
@[simp] theorem gGt_int : gGt (.int i) (.int j) = some (.fz (.bool (decide (j < i)))) := (rfl)
@[simp] theorem gGe_int : gGe (.int i) (.int j) = some (.fz (.bool (decide (j ≤ i)))) := (rfl)
@[simp] theorem gNeg_int : gNeg (.int i) = some (.fz (.int (-i))) := (rfl)
@[simp] theorem shaped_none : SeqAt.shaped .none = true := by simp [SeqAt.shaped, PyData.canLay0, PyData.depth]
@[simp] theorem shaped_bool {b : Bool} : SeqAt.shaped (.bool b) = true := by simp [SeqAt.shaped, PyData.canLay0, PyData.depth]
@[simp] theorem shaped_int : SeqAt.shaped (.int i) = true := by simp [SeqAt.shaped, PyData.canLay0, PyData.depth]
@[simp] theorem eqv_int : PyData.eqv (.int i) (.int j) = decide (i = j) := by
  rw [PyData.eqv]; exact Bool.beq_eq_decide_eq _ _
@[simp] theorem eqv_bool {b c : Bool} : PyData.eqv (.bool b) (.bool c) = decide (b = c) := by
  rw [PyData.eqv]; exact Bool.beq_eq_decide_eq _ _
@[simp] theorem eqv_none : PyData.eqv .none .none = true := by rw [PyData.eqv]
@[simp] theorem gEq_eq : gEq a b = if SeqAt.shaped a = true ∧ SeqAt.shaped b = true then some (.fz (.bool (PyData.eqv a b))) else none := (rfl)
@[simp] theorem gNe_eq : gNe a b = if SeqAt.shaped a = true ∧ SeqAt.shaped b = true then some (.fz (.bool (!PyData.eqv a b))) else none := (rfl)
@[simp] theorem gIs_none : gIs a .none = some (.fz (.bool (isNone a))) := by cases a <;> rfl
@[simp] theorem gIs_bool {x y : Bool} : gIs (.bool x) (.bool y) = some (.fz (.bool (decide (x = y)))) := (rfl)
@[simp] theorem gIsNot_none : gIsNot a .none = some (.fz (.bool (!isNone a))) := by cases a <;> rfl
@[simp] theorem gIsNot_bool {x y : Bool} : gIsNot (.bool x) (.bool y) = some (.fz (.bool (!decide (x = y)))) := (rfl)
@[simp] theorem isNone_none : isNone .none = true := (rfl)
@[simp] theorem isNone_int : isNone (.int i) = false := (rfl)
@[simp] theorem isNone_bool {x : Bool} : isNone (.bool x) = false := (rfl)
@[simp] theorem isNone_list : isNone (.list xs) = false := (rfl)
@[simp] theorem isNone_tuple : isNone (.tuple xs) = false := (rfl)
@[simp] theorem flatD_int : flatD (.int i) = true := (rfl)
@[simp] theorem gIn_list {ng : Bool} : gIn ng a (.list ys) = if flatD a = true ∧ ys.all flatD = true then some (.fz (.bool (if ng then !inD a ys else inD a ys))) else none := by cases a <;> rfl
@[simp] theorem gIn_tuple {ng : Bool} : gIn ng a (.tuple ys) = if flatD a = true ∧ ys.all flatD = true then some (.fz (.bool (if ng then !inD a ys else inD a ys))) else none := by cases a <;> rfl
@[simp] theorem gIx_list : gIx (.list xs) (.int i) = (atI xs i).map .fz := (rfl)
@[simp] theorem gIx_tuple : gIx (.tuple xs) (.int i) = (atI xs i).map .fz := (rfl)
@[simp] theorem oNone_eq : oNone ρ = some none := (rfl)
def toI : PyData → Option (Option Int)
  | .int i => some (some i)
  | _ => none
@[simp] theorem toI_i : toI (.int i) = some (some i) := (rfl)
@[simp] theorem oSome_eq : oSome f ρ = (f ρ).bind fun r => toI r.rd := by
  unfold oSome
  congr 1
@[simp] theorem fSl_eq {o1 o2 : Rho → Option (Option Int)} : fSl fa o1 o2 ρ = (fa ρ).bind fun a => (o1 ρ).bind fun lo => (o2 ρ).bind fun hi => gSl a.rd lo hi := (rfl)
@[simp] theorem gSl_list {lo hi : Option Int} : gSl (.list xs) lo hi = some (.nw (cutD xs lo hi)) := (rfl)
@[simp] theorem gSl_tuple {lo hi : Option Int} : gSl (.tuple xs) lo hi = some (.fz (.tuple (cutD xs lo hi))) := (rfl)
@[simp] theorem gRev_list : gRev (.list xs) = some (.nw xs.reverse) := (rfl)
@[simp] theorem gRev_tuple : gRev (.tuple xs) = some (.fz (.tuple xs.reverse)) := (rfl)
@[simp] theorem fC1_eq {h : List PyData → Option Res} : fC1 h fs ρ = (fs ρ).bind fun rs => h (rs.map Res.rd) := (rfl)
@[simp] theorem gLen_list : gLen [.list xs] = some (.fz (.int xs.length)) := (rfl)
@[simp] theorem gLen_tuple : gLen [.tuple xs] = some (.fz (.int xs.length)) := (rfl)
@[simp] theorem gAbs_int : gAbs [.int i] = some (.fz (.int (if i < 0 then -i else i))) := (rfl)
@[simp] theorem gInt_int : gInt [.int i] = some (.fz (.int i)) := (rfl)
@[simp] theorem gInt_bool {b : Bool} : gInt [.bool b] = some (.fz (.int (if b then 1 else 0))) := (rfl)
@[simp] theorem gTuple_list : gTuple [.list xs] = some (.fz (.tuple xs)) := (rfl)
@[simp] theorem gTuple_tuple : gTuple [.tuple xs] = some (.fz (.tuple xs)) := (rfl)
@[simp] theorem gList_list : gList [.list xs] = some (.nw xs) := (rfl)
@[simp] theorem gList_tuple : gList [.tuple xs] = some (.nw xs) := (rfl)
@[simp] theorem gSum_list : gSum [.list xs] = (intsOf xs).map fun ns => .fz (.int ns.sum) := (rfl)
@[simp] theorem gAll_list : gAll [.list xs] = (boolsOf xs).map fun ns => .fz (.bool (ns.all id)) := (rfl)
@[simp] theorem gAny_list : gAny [.list xs] = (boolsOf xs).map fun ns => .fz (.bool (ns.any id)) := (rfl)
@[simp] theorem gMin_list : gMin [.list xs] = (intsOf xs).bind fun ns => if ns = [] then none else some (.fz (.int (minL ns))) := (rfl)
@[simp] theorem gMax_list : gMax [.list xs] = (intsOf xs).bind fun ns => if ns = [] then none else some (.fz (.int (maxL ns))) := (rfl)
@[simp] theorem gMin_two : gMin [.int i, .int j] = some (.fz (.int (if j < i then j else i))) := (rfl)
@[simp] theorem gMax_two : gMax [.int i, .int j] = some (.fz (.int (if j > i then j else i))) := (rfl)
@[simp] theorem intsOf_m {ns : List Int} : intsOf (ns.map PyData.int) = some ns := intsOf_map ns
@[simp] theorem boolsOf_m {ns : List Bool} : boolsOf (ns.map PyData.bool) = some ns := boolsOf_map ns
theorem kit_ii : kitB "int" "int" = some true := by decide +kernel
theorem kit_bi : kitB "bool" "int" = some true := by decide +kernel
theorem kit_ni : kitB "NoneType" "int" = some false := by decide +kernel
theorem kit_li : kitB "list" "int" = some false := by decide +kernel
theorem kit_ti : kitB "tuple" "int" = some false := by decide +kernel
theorem kit_ib : kitB "int" "bool" = some false := by decide +kernel
theorem kit_bb : kitB "bool" "bool" = some true := by decide +kernel
theorem kit_nb : kitB "NoneType" "bool" = some false := by decide +kernel
theorem kit_lb : kitB "list" "bool" = some false := by decide +kernel
theorem kit_tb : kitB "tuple" "bool" = some false := by decide +kernel
theorem kit_it : kitB "int" "tuple" = some false := by decide +kernel
theorem kit_bt : kitB "bool" "tuple" = some false := by decide +kernel
theorem kit_nt : kitB "NoneType" "tuple" = some false := by decide +kernel
theorem kit_lt : kitB "list" "tuple" = some false := by decide +kernel
theorem kit_tt : kitB "tuple" "tuple" = some true := by decide +kernel
theorem kit_il : kitB "int" "list" = some false := by decide +kernel
theorem kit_bl : kitB "bool" "list" = some false := by decide +kernel
theorem kit_nl : kitB "NoneType" "list" = some false := by decide +kernel
theorem kit_ll : kitB "list" "list" = some true := by decide +kernel
theorem kit_tl : kitB "tuple" "list" = some false := by decide +kernel
def isI : PyData → Bool | .int _ => true | .bool _ => true | _ => false
def isB : PyData → Bool | .bool _ => true | _ => false
def isT : PyData → Bool | .tuple _ => true | _ => false
def isL : PyData → Bool | .list _ => true | _ => false
/-- plain data of the kinds met here -/
def okD : PyData → Bool | .str _ => false | .dict _ => false | _ => true
theorem gIsi_int (h : okD a = true) : gIsi "int" a = some (.fz (.bool (isI a))) := by
  cases a <;> first
    | (exact absurd h Bool.false_ne_true)
    | (unfold gIsi kindS; simp only [kit_ii, kit_bi, kit_ni, kit_li, kit_ti]; rfl)
theorem gIsi_bool (h : okD a = true) : gIsi "bool" a = some (.fz (.bool (isB a))) := by
  cases a <;> first
    | (exact absurd h Bool.false_ne_true)
    | (unfold gIsi kindS; simp only [kit_ib, kit_bb, kit_nb, kit_lb, kit_tb]; rfl)
theorem gIsi_tuple (h : okD a = true) : gIsi "tuple" a = some (.fz (.bool (isT a))) := by
  cases a <;> first
    | (exact absurd h Bool.false_ne_true)
    | (unfold gIsi kindS; simp only [kit_it, kit_bt, kit_nt, kit_lt, kit_tt]; rfl)
theorem gIsi_list (h : okD a = true) : gIsi "list" a = some (.fz (.bool (isL a))) := by
  cases a <;> first
    | (exact absurd h Bool.false_ne_true)
    | (unfold gIsi kindS; simp only [kit_il, kit_bl, kit_nl, kit_ll, kit_tl]; rfl)
@[simp] theorem isi_ii : gIsi "int" (.int i) = some (.fz (.bool true)) := gIsi_int rfl
@[simp] theorem isi_bi {b : Bool} : gIsi "int" (.bool b) = some (.fz (.bool true)) := gIsi_int rfl
@[simp] theorem isi_ni : gIsi "int" .none = some (.fz (.bool false)) := gIsi_int rfl
@[simp] theorem isi_li : gIsi "int" (.list xs) = some (.fz (.bool false)) := gIsi_int rfl
@[simp] theorem isi_ti : gIsi "int" (.tuple xs) = some (.fz (.bool false)) := gIsi_int rfl
@[simp] theorem isi_ib : gIsi "bool" (.int i) = some (.fz (.bool false)) := gIsi_bool rfl
@[simp] theorem isi_bb {b : Bool} : gIsi "bool" (.bool b) = some (.fz (.bool true)) := gIsi_bool rfl
@[simp] theorem isi_nb : gIsi "bool" .none = some (.fz (.bool false)) := gIsi_bool rfl
@[simp] theorem isi_lb : gIsi "bool" (.list xs) = some (.fz (.bool false)) := gIsi_bool rfl
@[simp] theorem isi_tb : gIsi "bool" (.tuple xs) = some (.fz (.bool false)) := gIsi_bool rfl
@[simp] theorem isi_it : gIsi "tuple" (.int i) = some (.fz (.bool false)) := gIsi_tuple rfl
@[simp] theorem isi_bt {b : Bool} : gIsi "tuple" (.bool b) = some (.fz (.bool false)) := gIsi_tuple rfl
@[simp] theorem isi_nt : gIsi "tuple" .none = some (.fz (.bool false)) := gIsi_tuple rfl
@[simp] theorem isi_lt : gIsi "tuple" (.list xs) = some (.fz (.bool false)) := gIsi_tuple rfl
@[simp] theorem isi_tt : gIsi "tuple" (.tuple xs) = some (.fz (.bool true)) := gIsi_tuple rfl
@[simp] theorem isi_il : gIsi "list" (.int i) = some (.fz (.bool false)) := gIsi_list rfl
@[simp] theorem isi_bl {b : Bool} : gIsi "list" (.bool b) = some (.fz (.bool false)) := gIsi_list rfl
@[simp] theorem isi_nl : gIsi "list" .none = some (.fz (.bool false)) := gIsi_list rfl
@[simp] theorem isi_ll : gIsi "list" (.list xs) = some (.fz (.bool true)) := gIsi_list rfl
@[simp] theorem isi_tl : gIsi "list" (.tuple xs) = some (.fz (.bool false)) := gIsi_list rfl
def itS : Res → Option (List PyData)
  | .fz (.list xs) => some xs
  | .fz (.tuple xs) => some xs
  | .nw xs => some xs
  | _ => none
@[simp] theorem itS_l : itS (.fz (.list xs)) = some xs := (rfl)
@[simp] theorem itS_t : itS (.fz (.tuple xs)) = some xs := (rfl)
@[simp] theorem itS_n : itS (.nw xs) = some xs := (rfl)
@[simp] theorem itF_eq : itF f ρ = (f ρ).bind itS := by
  unfold itF
  congr 1
def itQ : PyData → Option (List PyData)
  | .list xs => some xs
  | .tuple xs => some xs
  | _ => none
@[simp] theorem itQ_l : itQ (.list xs) = some xs := (rfl)
@[simp] theorem itQ_t : itQ (.tuple xs) = some xs := (rfl)
@[simp] theorem itR_eq : itR f ρ = (f ρ).bind fun r => itQ r.rd := by
  unfold itR
  congr 1
def rgS : List PyData → Option (List PyData)
  | [.int j] => if -(2 ^ 62) ≤ j ∧ j < 2 ^ 62 then some (rgD 0 j.toNat) else none
  | [.int i, .int j] => if -(2 ^ 62) ≤ i ∧ i < 2 ^ 62 ∧ -(2 ^ 62) ≤ j ∧ j < 2 ^ 62 then some (rgD i (j - i).toNat) else none
  | _ => none
theorem rgS_1 : rgS [.int j] = if -(2 ^ 62) ≤ j ∧ j < 2 ^ 62 then some (rgD 0 j.toNat) else none := rfl
theorem rgS_2 : rgS [.int i, .int j] = if -(2 ^ 62) ≤ i ∧ i < 2 ^ 62 ∧ -(2 ^ 62) ≤ j ∧ j < 2 ^ 62 then some (rgD i (j - i).toNat) else none := rfl
def rg1S : List PyData → Option (List PyData)
  | [.int j] => if -(2 ^ 62) ≤ j ∧ j < 2 ^ 62 then some (rgD 0 j.toNat) else none
  | _ => none
def rg2S : List PyData → Option (List PyData)
  | [.int i, .int j] => if -(2 ^ 62) ≤ i ∧ i < 2 ^ 62 ∧ -(2 ^ 62) ≤ j ∧ j < 2 ^ 62 then some (rgD i (j - i).toNat) else none
  | _ => none
theorem rg1S_1 : rg1S [.int j] = if -(2 ^ 62) ≤ j ∧ j < 2 ^ 62 then some (rgD 0 j.toNat) else none := rfl
theorem rg2S_2 : rg2S [.int i, .int j] = if -(2 ^ 62) ≤ i ∧ i < 2 ^ 62 ∧ -(2 ^ 62) ≤ j ∧ j < 2 ^ 62 then some (rgD i (j - i).toNat) else none := rfl
theorem rg1_ok (h : 0 ≤ j) (h2 : j ≤ 1000000) : rg1S [.int j] = some (rgD 0 j.toNat) := by
  rw [rg1S_1, if_pos ⟨by omega, by omega⟩]
theorem rg1_nat {m : Nat} (h2 : m ≤ 1000000) : rg1S [.int (m : Int)] = some (rgD 0 m) := by
  rw [rg1_ok (by omega) (by omega), Int.toNat_natCast]
theorem rg2_ok (h : 0 ≤ i) (h2 : i ≤ 1000000) (h3 : 0 ≤ j) (h4 : j ≤ 1000000) : rg2S [.int i, .int j] = some (rgD i (j - i).toNat) := by
  rw [rg2S_2, if_pos ⟨by omega, by omega, by omega, by omega⟩]
@[simp] theorem rg1_eq : rg1 fs ρ = (fs ρ).bind fun rs => rg1S (rs.map Res.rd) := by
  unfold rg1
  congr 1
@[simp] theorem rg2_eq : rg2 fs ρ = (fs ρ).bind fun rs => rg2S (rs.map Res.rd) := by
  unfold rg2
  congr 1
def enS : List Res → Option (List PyData)
  | [.fz (.list xs)] => some (enD 0 xs)
  | [.nw xs] => some (enD 0 xs)
  | _ => none
@[simp] theorem enS_l : enS [.fz (.list xs)] = some (enD 0 xs) := (rfl)
@[simp] theorem enS_n : enS [.nw xs] = some (enD 0 xs) := (rfl)
@[simp] theorem enF_eq : enF fs ρ = (fs ρ).bind enS := by
  unfold enF
  congr 1
@[simp] theorem uName_eq : uName n a ρ = some (ρ.set n (.d a)) := (rfl)
@[simp] theorem uNil_eq : uNil [] ρ = some ρ := (rfl)
@[simp] theorem uCons_eq {us : FUs} {u : FU} : uCons u us (a :: xs) ρ = (u a ρ).bind fun ρ1 => us xs ρ1 := (rfl)
@[simp] theorem uTup_t {us : FUs} : uTup n us (.tuple xs) ρ = if xs.length = n then us xs ρ else none := (rfl)
@[simp] theorem uTup_l {us : FUs} : uTup n us (.list xs) ρ = if xs.length = n then us xs ρ else none := (rfl)
@[simp] theorem cYes_eq : cYes ρ = some true := (rfl)
@[simp] theorem gNil_eq : gNil ρ = some (.nx ρ) := (rfl)
def thn' (g : FS) : Out → Option Out
  | .nx ρ' => g ρ'
  | o => some o
@[simp] theorem thn_nx : thn' g (.nx ρ) = g ρ := (rfl)
@[simp] theorem thn_rt : thn' g (.rt a) = some (.rt a) := (rfl)
@[simp] theorem thn_bk : thn' g (.bk ρ) = some (.bk ρ) := (rfl)
@[simp] theorem thn_ex {x : Str} : thn' g (.ex x ρ) = some (.ex x ρ) := (rfl)
@[simp] theorem thn_ct : thn' g (.ct ρ) = some (.ct ρ) := (rfl)
@[simp] theorem gSeq_eq : gSeq g1 g2 ρ = (g1 ρ).bind (thn' g2) := by
  unfold gSeq
  congr 1
@[simp] theorem gBk_eq : gBk ρ = some (.bk ρ) := (rfl)
@[simp] theorem gCt_eq : gCt ρ = some (.ct ρ) := (rfl)
@[simp] theorem gRet_eq : gRet f ρ = (f ρ).map fun r => .rt r.rd := (rfl)
@[simp] theorem gRetN_eq : gRetN ρ = some (.rt .none) := (rfl)
@[simp] theorem gIf_eq : gIf t g1 g2 ρ = (t ρ).bind fun b => if b = true then g1 ρ else g2 ρ := (rfl)
@[simp] theorem gDrop_eq : gDrop f ρ = (f ρ).map fun _ => .nx ρ := (rfl)
@[simp] theorem gSet_eq : gSet n f ρ = (f ρ).bind fun r => r.fr.map fun d => .nx (ρ.set n (.d d)) := (rfl)
def ownS : Res → Option Slot
  | .nw xs => some (.own xs)
  | .fz d => some (.d d)
  | .br _ => none
@[simp] theorem ownS_n : ownS (.nw xs) = some (.own xs) := (rfl)
@[simp] theorem ownS_f : ownS (.fz a) = some (.d a) := (rfl)
@[simp] theorem gSetO_eq : gSetO n f ρ = (f ρ).bind fun r => (ownS r).map fun s => .nx (ρ.set n s) := by
  unfold gSetO
  congr 1
  funext r
  cases r <;> rfl
@[simp] theorem gAsg_eq {u : FU} : gAsg u f ρ = (f ρ).bind fun r => r.fr.bind fun d => (u d ρ).map .nx := (rfl)
def parS (n k : Nat) (ρ : Rho) : List PyData → Option Out
  | [x, y] => some (.nx ((ρ.set n (.d x)).set k (.d y)))
  | _ => none
@[simp] theorem parS_2 : parS n k ρ [a, b] = some (.nx ((ρ.set n (.d a)).set k (.d b))) := (rfl)
@[simp] theorem gPar_eq : gPar n k fs ρ = (fs ρ).bind fun rs => (frs rs).bind (parS n k ρ) := by
  unfold gPar
  congr 1
def augS : Option Slot → Option PyData
  | some (.d x) => some x
  | _ => none
@[simp] theorem augS_d : augS (some (.d a)) = some a := (rfl)
@[simp] theorem gAug_eq {h : PyData → PyData → Option PyData} : gAug n h f ρ = (augS ρ[n]?).bind fun x => (f ρ).bind fun r => (h x r.rd).map fun d => .nx (ρ.set n (.d d)) := by
  unfold gAug augS
  cases hs : ρ[n]? with
  | none => rfl
  | some s => cases s <;> rfl
@[simp] theorem hAdd_int : hAdd (.int i) (.int j) = some (.int (i + j)) := (rfl)
@[simp] theorem hSub_int : hSub (.int i) (.int j) = some (.int (i - j)) := (rfl)
def ownL : Option Slot → Option (List PyData)
  | some (.own xs) => some xs
  | _ => none
@[simp] theorem ownL_o : ownL (some (.own xs)) = some xs := (rfl)
@[simp] theorem gApp_eq : gApp n f ρ = (ownL ρ[n]?).bind fun xs => (f ρ).bind fun r => r.fr.bind fun d => if small xs.length then some (.nx (ρ.set n (.own (xs ++ [d])))) else none := by
  unfold gApp ownL
  cases hs : ρ[n]? with
  | none => rfl
  | some s => cases s <;> rfl
def putS (n : Nat) (ρ : Rho) (d : PyData) : PyData → Option Out
  | .int m => (ownL ρ[n]?).bind fun xs => (ixN xs.length m).map fun q => .nx (ρ.set n (.own (xs.set q d)))
  | _ => none
@[simp] theorem putS_i : putS n ρ a (.int j) = (ownL ρ[n]?).bind fun xs => (ixN xs.length j).map fun q => .nx (ρ.set n (.own (xs.set q a))) := (rfl)
@[simp] theorem gPut_eq : gPut n fb f ρ = (f ρ).bind fun r => r.fr.bind fun d => (fb ρ).bind fun j => putS n ρ d j.rd := by
  unfold gPut
  congr 1
  funext r
  congr 1
  funext d
  congr 1
  funext j
  unfold putS ownL
  cases hs : ρ[n]? with
  | none => cases j.rd <;> rfl
  | some s => cases s <;> cases j.rd <;> rfl
def endS : Out → Option PyData
  | .rt d => some d
  | .nx _ => some .none
  | _ => none
@[simp] theorem endS_r : endS (.rt a) = some a := (rfl)
@[simp] theorem endS_n : endS (.nx ρ) = some .none := (rfl)
theorem runD_eq : runD n g xs = (g (startR n xs)).bind endS := by
  unfold runD
  congr 1
@[simp] theorem startR_eq : startR n xs = xs.map Slot.d ++ List.replicate (n - xs.length) .und := (rfl)
@[simp] theorem fCall_eq {F : FD} : fCall F fs ρ = (fs ρ).bind fun rs => (frs rs).bind fun ds => (F ds).map .fz := (rfl)
@[simp] theorem gFor_eq {it : Rho → Option (List PyData)} {u : FU} : gFor it u g ρ = (it ρ).bind fun xs => forD u g xs ρ := (rfl)
@[simp] theorem fLc_eq {it : Rho → Option (List PyData)} {vs : List Nat} : fLc it n t f vs ρ = (it ρ).bind fun xs => if small xs.length then (lcD n t f (wipeR ρ vs) xs).map fun ds => .nw ds else none := (rfl)
@[simp] theorem wipeR_nil : wipeR ρ [] = ρ := (rfl)
@[simp] theorem wipeR_cons {vs : List Nat} : wipeR ρ (n :: vs) = (wipeR ρ vs).set n .und := (rfl)
/-- a comprehension, item by item -/
def flG (c : PyData → Bool) (h : PyData → PyData) (xs : List PyData) : List PyData := (xs.filter c).map h
theorem lcD_map {c : PyData → Bool} {h : PyData → PyData} : ∀ {xs : List PyData}, (∀ x ∈ xs, t (ρ.set n (.d x)) = some (c x)) → (∀ x ∈ xs, c x = true → (f (ρ.set n (.d x))).bind Res.fr = some (h x)) → lcD n t f ρ xs = some ((xs.filter c).map h)
  | [], _, _ => rfl
  | x :: xs, h1, h2 => by
    have ih := lcD_map (xs := xs) (fun y hy => h1 y (List.mem_cons_of_mem _ hy)) (fun y hy => h2 y (List.mem_cons_of_mem _ hy))
    unfold lcD
    rw [h1 x List.mem_cons_self, Option.bind_some]
    cases hc : c x with
    | true =>
      have q := h2 x List.mem_cons_self hc
      obtain ⟨r, e1, e2⟩ := Option.bind_eq_some_iff.mp q
      rw [if_pos rfl, e1, Option.bind_some, e2, Option.bind_some, ih, List.filter_cons, if_pos hc]
      rfl
    | false =>
      rw [if_neg Bool.false_ne_true, ih, List.filter_cons, if_neg (by rw [hc]; exact Bool.false_ne_true)]
end
@[simp] theorem gFrz_eq {i : Nat} {g : FS} {ρ : Rho} : gFrz i g ρ = g (frz i ρ) := (rfl)
theorem frz_own {i : Nat} {ρ : Rho} {xs : List PyData} (h : ρ[i]? = some (.own xs)) : frz i ρ = ρ.set i (.d (.list xs)) := by
  unfold frz
  rw [h]
/-! ### the law's own end -/
def spLaw (K : PySem.W.Frag) : Sp := fun vs H Q _ => ∃ (a : Addr) (ns : List Int), vs = [.ref a] ∧ SqL K H a (ns.map V.int) ∧ ns.length ≤ 63 ∧ ∀ H', Q (.bl true) H'
/-- of a heap the list at a alone -/
def onlyL : Option HO → Option HO
  | some (.lst xs) => some (.lst xs)
  | some (.frz o (.lst xs)) => some (.frz o (.lst xs))
  | _ => none
def onlyAt (H : Hp) (a : Addr) : Hp := fun b => if b = a then onlyL (H a) else none
theorem onlyAt_some {H : Hp} {a b : Addr} {o : HO} (h : onlyAt H a b = some o) : b = a ∧ onlyL (H a) = some o := by
  unfold onlyAt at h
  split at h
  · exact ⟨by assumption, h⟩
  · cases h
theorem onlyL_some {x : Option HO} {o : HO} (h : onlyL x = some o) : x = some o := by
  unfold onlyL at h
  split at h
  · exact h
  · exact h
  · cases h
theorem onlyL_tup {x : Option HO} {xs : List V} (h : onlyL x = some (.tup xs)) : False := by
  unfold onlyL at h
  split at h <;> cases h
theorem onlyL_frz {x : Option HO} {ob : Obj} {xs : List V} (h : onlyL x = some (.frz ob (.tup xs))) : False := by
  unfold onlyL at h
  split at h <;> cases h
theorem law_of {P : Program} {w : World} {K : PySem.W.Frag} {mg : Str → Option Value} {base : Heap} {CX : CXT} {k : Nat} {f : Addr} {fd : FuncData} {F : FD} (h : FnOk P w K mg base CX k f fd ["script"] (spD K 1 F))
    (e : ∀ ns : List Int, ns.length ≤ 63 → F [.list (ns.map PyData.int)] = some (.bool true)) : FnOk P w K mg base CX k f fd ["script"] (spLaw K) :=
  h.imp fun vs H Q E q => by
    obtain ⟨a, ns, rfl, hS, hl, k⟩ := q
    have hs : Same (onlyAt H a) H := fun b o q => by
      obtain ⟨rfl, q⟩ := onlyAt_some q
      exact onlyL_some q
    have hb : Bn (onlyAt H a) := ⟨fun b xs q => onlyL_tup (onlyAt_some q).2, fun b ob xs q => (onlyL_frz (onlyAt_some q).2).elim⟩
    have hf : SqL K (onlyAt H a) a (ns.map V.int) := by
      rcases hS with hS | hS
      · refine .inl ?_
        rcases hS with hS | ⟨o, hS⟩
        · exact .inl (by unfold onlyAt; rw [if_pos rfl, hS]; rfl)
        · exact .inr ⟨o, by unfold onlyAt; rw [if_pos rfl, hS]; rfl⟩
      · exact .inr hS
    refine ⟨onlyAt H a, [.list (ns.map PyData.int)], .bool true, ⟨hs, hb⟩, .cons (.lst hf (dpa_ints ns)) .nil, rfl, e ns hl, fun v Hf' H' g d => ?_⟩
    cases d
    exact k H'
/-- a def that is never asked -/
theorem fn_none {P : Program} {w : World} {K : PySem.W.Frag} {mg : Str → Option Value} {base : Heap} {CX : CXT} {k n : Nat} {f : Addr} {fd : FuncData} {ps : List Str} : FnOk P w K mg base CX k f fd ps (spD K n (fun _ => none)) :=
  have no : ∀ vs H Q E, ¬ spD K n (fun _ => none) vs H Q E := fun vs H Q E h => by
    obtain ⟨_, _, _, _, _, _, h4, _⟩ := h
    cases h4
  ⟨fun vs H Q E h => absurd h (no vs H Q E), fun A outer s H args us vs Q E _ _ _ _ h => absurd h (no vs H Q E)⟩
/-- a word of ints as data -/
abbrev wd (ws : List Int) : PyData := .tuple (ws.map PyData.int)
end DL
namespace DL
open PySem PySem.Spec PyProof.Rows L2
section
variable {ρ : Rho} {g : FS} {u : FU} {t : Rho → Option Bool}
/-- a loop that goes through -/
theorem forD_inv {xs : List PyData} (P : Nat → Rho → Prop) (h0 : P 0 ρ) (hs : ∀ i x ρ, xs[i]? = some x → P i ρ → ∃ ρ1 ρ2, u x ρ = some ρ1 ∧ (g ρ1 = some (.nx ρ2) ∨ g ρ1 = some (.ct ρ2)) ∧ P (i + 1) ρ2) :
    ∃ ρ', forD u g xs ρ = some (.nx ρ') ∧ P xs.length ρ' := by
  induction xs generalizing ρ P with
  | nil => exact ⟨ρ, rfl, h0⟩
  | cons x xs ih =>
    obtain ⟨ρ1, ρ2, e1, e2, p⟩ := hs 0 x ρ rfl h0
    obtain ⟨ρ', e3, p'⟩ := ih (fun i => P (i + 1)) p fun i y ρ0 hy hp => hs (i + 1) y ρ0 (by simpa using hy) hp
    refine ⟨ρ', ?_, p'⟩
    unfold forD
    rw [e1, Option.bind_some]
    rcases e2 with e2 | e2 <;> rw [e2, Option.bind_some] <;> exact e3
/-- a loop that goes through or returns -/
theorem forD_inv' {xs : List PyData} (P : Nat → Rho → Prop) (R : PyData → Prop) (h0 : P 0 ρ) (hs : ∀ i x ρ, xs[i]? = some x → P i ρ → ∃ ρ1, u x ρ = some ρ1 ∧ ((∃ ρ2, (g ρ1 = some (.nx ρ2) ∨ g ρ1 = some (.ct ρ2)) ∧ P (i + 1) ρ2) ∨ ∃ d, g ρ1 = some (.rt d) ∧ R d)) :
    (∃ ρ', forD u g xs ρ = some (.nx ρ') ∧ P xs.length ρ') ∨ ∃ d, forD u g xs ρ = some (.rt d) ∧ R d := by
  induction xs generalizing ρ P with
  | nil => exact .inl ⟨ρ, rfl, h0⟩
  | cons x xs ih =>
    obtain ⟨ρ1, e1, h⟩ := hs 0 x ρ rfl h0
    rcases h with ⟨ρ2, e2, p⟩ | ⟨d, e2, p⟩
    · rcases ih (fun i => P (i + 1)) p fun i y ρ0 hy hp => hs (i + 1) y ρ0 (by simpa using hy) hp with ⟨ρ', e3, p'⟩ | ⟨d, e3, p'⟩
      · refine .inl ⟨ρ', ?_, p'⟩
        unfold forD
        rw [e1, Option.bind_some]
        rcases e2 with e2 | e2 <;> rw [e2, Option.bind_some] <;> exact e3
      · refine .inr ⟨d, ?_, p'⟩
        unfold forD
        rw [e1, Option.bind_some]
        rcases e2 with e2 | e2 <;> rw [e2, Option.bind_some] <;> exact e3
    · refine .inr ⟨d, ?_, p⟩
      unfold forD
      rw [e1, Option.bind_some, e2]
      rfl
theorem forD_then {β : Type} {xs : List PyData} {k : Out → Option β} {r : Option β} (P : Nat → Rho → Prop) (h0 : P 0 ρ) (hs : ∀ i x ρ, xs[i]? = some x → P i ρ → ∃ ρ1 ρ2, u x ρ = some ρ1 ∧ (g ρ1 = some (.nx ρ2) ∨ g ρ1 = some (.ct ρ2)) ∧ P (i + 1) ρ2)
    (hk : ∀ ρ', P xs.length ρ' → k (.nx ρ') = r) : (forD u g xs ρ).bind k = r := by
  obtain ⟨ρ', e, p⟩ := forD_inv P h0 hs
  rw [e]
  exact hk ρ' p
theorem forD_then' {β : Type} {xs : List PyData} {k : Out → Option β} {r : Option β} (P : Nat → Rho → Prop) (R : PyData → Prop) (h0 : P 0 ρ) (hs : ∀ i x ρ, xs[i]? = some x → P i ρ → ∃ ρ1, u x ρ = some ρ1 ∧ ((∃ ρ2, (g ρ1 = some (.nx ρ2) ∨ g ρ1 = some (.ct ρ2)) ∧ P (i + 1) ρ2) ∨ ∃ d, g ρ1 = some (.rt d) ∧ R d))
    (hk : ∀ ρ', P xs.length ρ' → k (.nx ρ') = r) (hr : ∀ d, R d → k (.rt d) = r) : (forD u g xs ρ).bind k = r := by
  rcases forD_inv' P R h0 hs with ⟨ρ', e, p⟩ | ⟨d, e, p⟩
  · rw [e]; exact hk ρ' p
  · rw [e]; exact hr d p
/-- a turn goes on (P) or returns (R) -/
def Goes (P : Rho → Prop) (R : PyData → Prop) : Option Out → Prop
  | some (.nx ρ) => P ρ
  | some (.ct ρ) => P ρ
  | some (.rt d) => R d
  | _ => False
@[simp] theorem goes_nx {P : Rho → Prop} {R : PyData → Prop} : Goes P R (some (.nx ρ)) = P ρ := (rfl)
@[simp] theorem goes_ct {P : Rho → Prop} {R : PyData → Prop} : Goes P R (some (.ct ρ)) = P ρ := (rfl)
@[simp] theorem goes_rt {P : Rho → Prop} {R : PyData → Prop} {d : PyData} : Goes P R (some (.rt d)) = R d := (rfl)
theorem forD_go {β : Type} {xs : List PyData} {k : Out → Option β} {r : Option β} (P : Nat → Rho → Prop) (R : PyData → Prop) (h0 : P 0 ρ) (hs : ∀ i x ρ, xs[i]? = some x → P i ρ → Goes (P (i + 1)) R ((u x ρ).bind g))
    (hk : ∀ ρ', P xs.length ρ' → k (.nx ρ') = r) (hr : ∀ d, R d → k (.rt d) = r) : (forD u g xs ρ).bind k = r := by
  refine forD_then' P R h0 (fun i x ρ hx hp => ?_) hk hr
  have q := hs i x ρ hx hp
  cases h1 : u x ρ with
  | none => rw [h1] at q; exact q.elim
  | some ρ1 =>
    rw [h1, Option.bind_some] at q
    refine ⟨ρ1, rfl, ?_⟩
    cases h2 : g ρ1 with
    | none => rw [h2] at q; exact q.elim
    | some o =>
      rw [h2] at q
      cases o with
      | nx ρ2 => exact .inl ⟨ρ2, .inl rfl, q⟩
      | ct ρ2 => exact .inl ⟨ρ2, .inr rfl, q⟩
      | rt d => exact .inr ⟨d, rfl, q⟩
      | bk ρ2 => exact q.elim
      | ex x ρ2 => exact q.elim
/-- a loop that only goes through -/
theorem forD_all {β : Type} {xs : List PyData} {k : Out → Option β} {r : Option β} (P : Nat → Rho → Prop) (h0 : P 0 ρ) (hs : ∀ i x ρ, xs[i]? = some x → P i ρ → Goes (P (i + 1)) (fun _ => False) ((u x ρ).bind g))
    (hk : ∀ ρ', P xs.length ρ' → k (.nx ρ') = r) : (forD u g xs ρ).bind k = r := forD_go P (fun _ => False) h0 hs hk fun _ h => h.elim
theorem goes_seq {P : Rho → Prop} {R : PyData → Prop} {g1 g2 : FS} (S : Rho → Prop) (h1 : ∃ ρ', g1 ρ = some (.nx ρ') ∧ S ρ') (h2 : ∀ ρ', S ρ' → Goes P R (g2 ρ')) : Goes P R (gSeq g1 g2 ρ) := by
  obtain ⟨ρ', e, s⟩ := h1
  rw [gSeq_eq, e, Option.bind_some, thn_nx]
  exact h2 ρ' s
theorem goes_at {P : Rho → Prop} {R : PyData → Prop} {ρ1 : Rho} {x : Option Rho} (e : x = some ρ1) (h : Goes P R (g ρ1)) : Goes P R (x.bind g) := by
  rw [e]
  exact h
theorem goes_one {P : Rho → Prop} {R : PyData → Prop} (h : ∃ ρ', g ρ = some (.nx ρ') ∧ P ρ') : Goes P R (g ρ) := by
  obtain ⟨ρ', e, s⟩ := h
  rw [e]
  exact s
/-- a loop that only goes through, and something behind it that is -/
theorem forD_ex {β : Type} {xs : List PyData} {k : Out → Option β} {Q : β → Prop} (P : Nat → Rho → Prop) (h0 : P 0 ρ) (hs : ∀ i x ρ, xs[i]? = some x → P i ρ → Goes (P (i + 1)) (fun _ => False) ((u x ρ).bind g))
    (hk : ∀ ρ', P xs.length ρ' → ∃ r, k (.nx ρ') = some r ∧ Q r) : ∃ r, (forD u g xs ρ).bind k = some r ∧ Q r := by
  obtain ⟨ρ', e, p⟩ : ∃ ρ', forD u g xs ρ = some (.nx ρ') ∧ P xs.length ρ' := by
    refine forD_inv P h0 fun i x ρ hx hp => ?_
    have q := hs i x ρ hx hp
    cases h1 : u x ρ with
    | none => rw [h1] at q; exact q.elim
    | some ρ1 =>
      rw [h1, Option.bind_some] at q
      cases h2 : g ρ1 with
      | none => rw [h2] at q; exact q.elim
      | some o =>
        rw [h2] at q
        cases o with
        | nx ρ2 => exact ⟨ρ1, ρ2, rfl, .inl h2, q⟩
        | ct ρ2 => exact ⟨ρ1, ρ2, rfl, .inr h2, q⟩
        | rt d => exact q.elim
        | bk ρ2 => exact q.elim
        | ex x ρ2 => exact q.elim
  rw [e]
  exact hk ρ' p
theorem rgD_get {lo : Int} {n i : Nat} {x : PyData} (h : (rgD lo n)[i]? = some x) : i < n ∧ x = .int (lo + (i : Int)) := by
  have hi : i < n := by
    have := (List.getElem?_eq_some_iff.mp h).1
    rw [rgD_len] at this
    exact this
  refine ⟨hi, ?_⟩
  unfold rgD at h
  rw [List.getElem?_map, List.getElem?_range hi] at h
  exact (Option.some.inj h).symm
theorem rgD0 (n : Nat) : rgD 0 n = (List.range n).map fun i : Nat => PyData.int (i : Int) := by
  unfold rgD
  congr 1
  funext i
  rw [Int.zero_add]
theorem at_pos {α : Type} {xs : List α} {i : Int} (h : 0 ≤ i) : atI xs i = xs[i.toNat]? := by
  unfold atI ixN
  rw [if_pos h]
  split
  · rfl
  · rw [List.getElem?_eq_none (by omega)]
    rfl
theorem map_get {α β : Type} {f : α → β} {l : List α} {i : Nat} {x : β} (h : (l.map f)[i]? = some x) : ∃ a, l[i]? = some a ∧ x = f a := by
  rw [List.getElem?_map] at h
  obtain ⟨a, h1, h2⟩ := Option.map_eq_some_iff.mp h
  exact ⟨a, h1, h2.symm⟩
end
/-- comprehensions over data that stand for things of a type -/
theorem lcD_gen {α β : Type} {e : α → PyData} {e' : β → PyData} {ρ : Rho} {n : Nat} {t : Rho → Option Bool} {f : FE} (c : α → Bool) (h : α → β) : ∀ {l : List α}, (∀ x ∈ l, t (ρ.set n (.d (e x))) = some (c x)) → (∀ x ∈ l, c x = true → (f (ρ.set n (.d (e x)))).bind Res.fr = some (e' (h x))) → lcD n t f ρ (l.map e) = some (((l.filter c).map h).map e')
  | [], _, _ => rfl
  | x :: xs, h1, h2 => by
    have ih := lcD_gen (e := e) (e' := e') (ρ := ρ) (n := n) (t := t) (f := f) c h (l := xs) (fun y hy => h1 y (List.mem_cons_of_mem _ hy)) (fun y hy => h2 y (List.mem_cons_of_mem _ hy))
    rw [List.map_cons]
    unfold lcD
    rw [h1 x List.mem_cons_self, Option.bind_some]
    cases hc : c x with
    | true =>
      have q := h2 x List.mem_cons_self hc
      obtain ⟨r, e1, e2⟩ := Option.bind_eq_some_iff.mp q
      rw [if_pos rfl, e1, Option.bind_some, e2, Option.bind_some, ih, List.filter_cons, if_pos hc]
      rfl
    | false =>
      rw [if_neg Bool.false_ne_true, ih, List.filter_cons, if_neg (by rw [hc]; exact Bool.false_ne_true)]
theorem lcD_all {α β : Type} {e : α → PyData} {e' : β → PyData} {ρ : Rho} {n : Nat} {t : Rho → Option Bool} {f : FE} (h : α → β) {l : List α} (h1 : ∀ x ∈ l, t (ρ.set n (.d (e x))) = some true) (h2 : ∀ x ∈ l, (f (ρ.set n (.d (e x)))).bind Res.fr = some (e' (h x))) : lcD n t f ρ (l.map e) = some ((l.map h).map e') := by
  have q := lcD_gen (e := e) (e' := e') (f := f) (fun _ => true) h h1 (fun x hx _ => h2 x hx)
  rw [q, List.filter_eq_self.mpr (fun _ _ => rfl)]
section
variable {α : Type} {x y z : α} {r : List α}
@[simp] theorem at_0 : atI (x :: r) 0 = some x := atI_nat (j := 0) rfl
@[simp] theorem at_1 : atI (x :: y :: r) 1 = some y := atI_nat (j := 1) rfl
@[simp] theorem at_2 : atI (x :: y :: z :: r) 2 = some z := atI_nat (j := 2) rfl
@[simp] theorem at_if {c : Prop} [Decidable c] : atI [x, y] (if c then 1 else 0) = some (if c then y else x) := by
  split <;> simp
@[simp] theorem at_m1 : atI [x] (-1) = some x := atI_last [] x
@[simp] theorem at_m1' : atI [x, y] (-1) = some y := atI_last [x] y
end
@[simp] theorem enD_map {k : Nat} {ds : List PyData} : (enD k ds).length = ds.length := enD_len k ds
@[simp] theorem int_ite {c : Prop} [Decidable c] {a b : Int} : (if c then PyData.int a else PyData.int b) = PyData.int (if c then a else b) := by split <;> rfl
theorem enD_at {ds : List PyData} {i : Nat} {x : PyData} (h : (enD 0 ds)[i]? = some x) : ∃ d, ds[i]? = some d ∧ x = .tuple [.int (i : Int), d] := by
  rw [enD_get] at h
  obtain ⟨d, h1, h2⟩ := Option.map_eq_some_iff.mp h
  rw [Nat.zero_add] at h2
  exact ⟨d, h1, h2.symm⟩
theorem six_pos {n d : Nat} {k : Int} (h : 0 ≤ k) : HT.sIx n d (some k) = min k.toNat n := by
  show (if k < 0 then (k + (n : Int)).toNat else min k.toNat n) = _
  rw [if_neg (by omega)]
theorem cut_to {α : Type} {xs : List α} {k : Int} (h : 0 ≤ k) : cutD xs none (some k) = xs.take k.toNat := by
  unfold cutD
  rw [six_pos h, HT.sIx_none, List.drop_zero, Nat.sub_zero]
  rcases Nat.le_total k.toNat xs.length with q | q
  · rw [Nat.min_eq_left q]
  · rw [Nat.min_eq_right q, List.take_length, List.take_of_length_le q]
theorem cut_from {α : Type} {xs : List α} {k : Int} (h : 0 ≤ k) : cutD xs (some k) none = xs.drop k.toNat := by
  unfold cutD
  rw [six_pos h, HT.sIx_none]
  rcases Nat.le_total k.toNat xs.length with q | q
  · rw [Nat.min_eq_left q, List.take_of_length_le (by rw [List.length_drop]; omega)]
  · rw [Nat.min_eq_right q, List.drop_length, List.take_nil, List.drop_of_length_le q]
theorem cut_mid {α : Type} {xs : List α} {a b : Int} (h : 0 ≤ a) (h2 : 0 ≤ b) : cutD xs (some a) (some b) = (xs.drop a.toNat).take (b.toNat - a.toNat) := by
  unfold cutD
  rw [six_pos h, six_pos h2]
  rcases Nat.le_total a.toNat xs.length with q | q
  · rw [Nat.min_eq_left q]
    rcases Nat.le_total b.toNat xs.length with r | r
    · rw [Nat.min_eq_left r]
    · rw [Nat.min_eq_right r, List.take_of_length_le (by rw [List.length_drop]; omega), List.take_of_length_le (by rw [List.length_drop]; omega)]
  · rw [Nat.min_eq_right q, List.drop_length, List.take_nil, List.drop_of_length_le q, List.take_nil]
theorem cut_map {α β : Type} {f : α → β} {xs : List α} {a b : Option Int} : cutD (xs.map f) a b = (cutD xs a b).map f := by
  unfold cutD
  rw [List.length_map, List.map_take, List.map_drop]
theorem cut_len {α : Type} {xs : List α} {a b : Option Int} : (cutD xs a b).length ≤ xs.length := by
  unfold cutD
  rw [List.length_take, List.length_drop]
  omega
/-! ### lists of ints -/
@[simp] theorem eqvAll_ints : ∀ {ns ms : List Int}, PyData.eqvAll (ns.map PyData.int) (ms.map PyData.int) = decide (ns = ms)
  | [], [] => by simp [PyData.eqvAll]
  | [], _ :: _ => by simp [PyData.eqvAll]
  | _ :: _, [] => by simp [PyData.eqvAll]
  | n :: ns, m :: ms => by
    rw [List.map_cons, List.map_cons, PyData.eqvAll, eqv_int, eqvAll_ints]
    by_cases h : n = m <;> by_cases h2 : ns = ms <;> simp [h, h2]
@[simp] theorem eqv_ints_t {ns ms : List Int} : PyData.eqv (.tuple (ns.map PyData.int)) (.tuple (ms.map PyData.int)) = decide (ns = ms) := by
  rw [PyData.eqv, eqvAll_ints]
@[simp] theorem eqv_ints_l {ns ms : List Int} : PyData.eqv (.list (ns.map PyData.int)) (.list (ms.map PyData.int)) = decide (ns = ms) := by
  rw [PyData.eqv, eqvAll_ints]
theorem lay_ints : ∀ ns : List Int, PyData.canLayAll0 (ns.map PyData.int) = true
  | [] => by simp [PyData.canLayAll0]
  | n :: ns => by simp [PyData.canLayAll0, PyData.canLay0, lay_ints ns]
theorem depth_ints : ∀ ns : List Int, PyData.depthAll (ns.map PyData.int) = 0
  | [] => by simp [PyData.depthAll]
  | n :: ns => by simp [PyData.depthAll, PyData.depth, depth_ints ns]
@[simp] theorem shaped_ints_t {ns : List Int} : SeqAt.shaped (.tuple (ns.map PyData.int)) = true := by
  simp [SeqAt.shaped, PyData.canLay0, PyData.depth, lay_ints, depth_ints]
@[simp] theorem shaped_ints_l {ns : List Int} : SeqAt.shaped (.list (ns.map PyData.int)) = true := by
  simp [SeqAt.shaped, PyData.canLay0, PyData.depth, lay_ints, depth_ints]
@[simp] theorem shaped_nil_l : SeqAt.shaped (.list []) = true := shaped_ints_l (ns := [])
@[simp] theorem shaped_nil_t : SeqAt.shaped (.tuple []) = true := shaped_ints_t (ns := [])
@[simp] theorem eqv_nil_l {ns : List Int} : PyData.eqv (.list (ns.map PyData.int)) (.list []) = decide (ns = []) := eqv_ints_l (ms := [])
@[simp] theorem eqv_nil_t {ns : List Int} : PyData.eqv (.tuple (ns.map PyData.int)) (.tuple []) = decide (ns = []) := eqv_ints_t (ms := [])
@[simp] theorem flat_ints {ns : List Int} : (ns.map PyData.int).all flatD = true := by
  rw [List.all_map]
  exact List.all_eq_true.mpr fun _ _ => rfl
@[simp] theorem inD_ints {n : Int} {ns : List Int} : inD (.int n) (ns.map PyData.int) = decide (n ∈ ns) := by
  unfold inD
  rw [List.any_map]
  induction ns with
  | nil => simp
  | cons m ns ih =>
    rw [List.any_cons, ih]
    show (PyData.eqv (.int m) (.int n) || _) = _
    rw [eqv_int]
    by_cases h : n = m
    · subst h; simp
    · have h' : ¬ m = n := fun e => h e.symm
      simp [h, h']
end DL
namespace DL
open PySem PySem.Spec PyProof.Rows L2
/-! ### the laws' draws -/
def mixed (c t : Int) : Int :=
  if 10 ^ 18 ≤ c then c else
  let first := (c % 1000003 * 48271 + 69621 * (t + 1)) % 2147483647
  let second := (first * 48271 + c % 999983) % 2147483647
  let third := (second * 69621 + first) % 2147483647
  first + 2147483647 * second + 4611686014132420609 * third
def lstep (v : Int) (k : Nat) (left : Int) : Int := if left = 0 then v + 7919 * ((k : Int) + 1) else left
def lgo (v s : Int) : Nat → Nat → Int → List Int
  | _, 0, _ => []
  | k, n + 1, left =>
    let l := lstep v k left
    let d := l % (2 * s - 2)
    (if s - 1 ≤ d then s - 2 - d else d + 1) :: lgo v s (k + 1) n (l / (2 * s - 2))
def lword (v s m : Int) : List Int := lgo v s 0 (v % (m + 1)).toNat (v / (m + 1))
theorem lgo_mem {v s : Int} (hs : 2 ≤ s) : ∀ {n k : Nat} {left x : Int}, x ∈ lgo v s k n left → x ≠ 0 ∧ -s < x ∧ x < s
  | 0, _, _, _, h => by cases h
  | n + 1, k, left, x, h => by
    unfold lgo at h
    have h1 := Int.emod_nonneg (lstep v k left) (show 2 * s - 2 ≠ 0 by omega)
    have h2 := Int.emod_lt_of_pos (lstep v k left) (show 0 < 2 * s - 2 by omega)
    rcases List.mem_cons.mp h with e | h
    · subst e
      split <;> omega
    · exact lgo_mem hs h
theorem lgo_len {v s : Int} : ∀ {n k : Nat} {left : Int}, (lgo v s k n left).length = n
  | 0, _, _ => rfl
  | n + 1, k, left => by
    unfold lgo
    rw [List.length_cons, lgo_len]
theorem lword_mem {v s m x : Int} (hs : 2 ≤ s) (h : x ∈ lword v s m) : x ≠ 0 ∧ -s < x ∧ x < s := lgo_mem hs h
theorem lword_len {v s m : Int} (hm : 0 ≤ m) : ((lword v s m).length : Int) ≤ m := by
  unfold lword
  rw [lgo_len]
  have h1 := Int.emod_nonneg v (show m + 1 ≠ 0 by omega)
  have h2 := Int.emod_lt_of_pos v (show 0 < m + 1 by omega)
  omega
def lend (v s : Int) : Nat → Nat → Int → Int
  | _, 0, left => left
  | k, n + 1, left => lend v s (k + 1) n (lstep v k left / (2 * s - 2))
theorem lgo_snoc {v s : Int} : ∀ {n k : Nat} {left : Int}, lgo v s k (n + 1) left = lgo v s k n left ++ [if s - 1 ≤ lstep v (k + n) (lend v s k n left) % (2 * s - 2) then s - 2 - lstep v (k + n) (lend v s k n left) % (2 * s - 2) else lstep v (k + n) (lend v s k n left) % (2 * s - 2) + 1]
  | 0, k, left => rfl
  | n + 1, k, left => by
    have ih := lgo_snoc (v := v) (s := s) (n := n) (k := k + 1) (left := lstep v k left / (2 * s - 2))
    have e : k + 1 + n = k + (n + 1) := by omega
    rw [e] at ih
    show _ :: lgo v s (k + 1) (n + 1) _ = _ :: (lgo v s (k + 1) n _ ++ _)
    rw [ih]
    rfl
theorem lend_snoc {v s : Int} : ∀ {n k : Nat} {left : Int}, lend v s k (n + 1) left = lstep v (k + n) (lend v s k n left) / (2 * s - 2)
  | 0, k, left => rfl
  | n + 1, k, left => by
    have ih := lend_snoc (v := v) (s := s) (n := n) (k := k + 1) (left := lstep v k left / (2 * s - 2))
    have e : k + 1 + n = k + (n + 1) := by omega
    rw [e] at ih
    show lend v s (k + 1) (n + 1) _ = _
    rw [ih]
    rfl

def G_mixed : FS := (gSeq (gSet 2 (fC1 gInt (aCons (fVar 0) aNil)))
    (gSeq (gIf (fB (f2 gGe (fVar 2) (f2 gPow (fC (.int 10)) (fC (.int 18))))) (gRet (fVar 2)) DL.gNil)
    (gSeq (gSet 3 (f2 gMod (f2 gAdd (f2 gMul (f2 gMod (fVar 2) (fC (.int 1000003))) (fC (.int 48271))) (f2 gMul (fC (.int 69621)) (f2 gAdd (fVar 1) (fC (.int 1))))) (fC (.int 2147483647))))
    (gSeq (gSet 4 (f2 gMod (f2 gAdd (f2 gMul (fVar 3) (fC (.int 48271))) (f2 gMod (fVar 2) (fC (.int 999983)))) (fC (.int 2147483647))))
    (gSeq (gSet 5 (f2 gMod (f2 gAdd (f2 gMul (fVar 4) (fC (.int 69621))) (fVar 3)) (fC (.int 2147483647))))
    (gRet (f2 gAdd (f2 gAdd (fVar 3) (f2 gMul (fC (.int 2147483647)) (fVar 4))) (f2 gMul (fC (.int 4611686014132420609)) (fVar 5)))))))))
theorem r_mixed (c t : Int) : runD 6 G_mixed [.int c, .int t] = some (.int (mixed c t)) := by
  simp [runD_eq, G_mixed, mixed, CMul]
  split <;> rfl
def G_word : FS := (gSeq (gSetO 3 (fLst aNil))
    (gSeq (gSet 4 (f2 gDiv (fVar 0) (f2 gAdd (fVar 2) (fC (.int 1)))))
    (gSeq (gFor (rg1 (aCons (f2 gMod (fVar 0) (f2 gAdd (fVar 2) (fC (.int 1)))) aNil)) (uName 5) (gSeq (gIf (fB (f2 gEq (fVar 4) (fC (.int 0)))) (gSet 4 (f2 gAdd (fVar 0) (f2 gMul (fC (.int 7919)) (f2 gAdd (fVar 5) (fC (.int 1)))))) DL.gNil)
    (gSeq (gSet 6 (f2 gMod (fVar 4) (f2 gMinus (f2 gMul (fC (.int 2)) (fVar 1)) (fC (.int 2)))))
    (gSeq (gSet 4 (f2 gDiv (fVar 4) (f2 gMinus (f2 gMul (fC (.int 2)) (fVar 1)) (fC (.int 2)))))
    (gApp 3 (f2 gIx (fLst (aCons (f2 gAdd (fVar 6) (fC (.int 1))) (aCons (f2 gMinus (f2 gMinus (fVar 1) (fC (.int 2))) (fVar 6)) aNil))) (fC1 gInt (aCons (f2 gGe (fVar 6) (f2 gMinus (fVar 1) (fC (.int 1)))) aNil))))))))
    (gRet (fC1 gTuple (aCons (fVar 3) aNil))))))
theorem r_word (v s m : Int) (h1 : 2 ≤ s) (h2 : s ≤ 1000) (h3 : 0 ≤ m) (h4 : m ≤ 1000) : runD 7 G_word [.int v, .int s, .int m] = some (.tuple ((lword v s m).map PyData.int)) := by
  have hm1 := Int.emod_nonneg v (show m + 1 ≠ 0 by omega)
  have hm2 := Int.emod_lt_of_pos v (show 0 < m + 1 by omega)
  simp [runD_eq, G_word, Option.bind_assoc]
  refine ⟨⟨by omega, by omega⟩, by omega, ?_⟩
  rw [rg1_ok (by omega) (by omega), Option.bind_some]
  refine forD_then (fun i ρ => ∃ x y, ρ = [Slot.d (PyData.int v), Slot.d (PyData.int s), Slot.d (PyData.int m), Slot.own ((lgo v s 0 i (v / (m + 1))).map PyData.int), Slot.d (PyData.int (lend v s 0 i (v / (m + 1)))), x, y] ∧ i ≤ 1000) ⟨.und, .und, rfl, by omega⟩ ?_ ?_
  · rintro i x ρ hi ⟨y, z, rfl, hb⟩
    obtain ⟨h5, rfl⟩ := rgD_get hi
    have e1 : lgo v s 0 (i + 1) (v / (m + 1)) = _ := lgo_snoc
    have e2 : lend v s 0 (i + 1) (v / (m + 1)) = _ := lend_snoc
    rw [Nat.zero_add] at e1 e2
    have hlen : (lgo v s 0 i (v / (m + 1))).length ≤ 100000 := by rw [lgo_len]; omega
    by_cases hz : lend v s 0 i (v / (m + 1)) = 0
    · refine ⟨_, _, rfl, .inl ?_, ⟨.d (.int (i : Int)), .d (.int (lstep v i (lend v s 0 i (v / (m + 1))) % (2 * s - 2))), rfl, by omega⟩⟩
      simp [CMul, hz, hlen, e1, e2, lstep]
      omega
    · refine ⟨_, _, rfl, .inl ?_, ⟨.d (.int (i : Int)), .d (.int (lstep v i (lend v s 0 i (v / (m + 1))) % (2 * s - 2))), rfl, by omega⟩⟩
      simp [CMul, hz, hlen, e1, e2, lstep]
      omega
  · rintro ρ ⟨x, y, rfl, _⟩
    simp [lword, rgD_len]
end DL
namespace DL
open PySem PySem.Spec PyProof.Rows L2
section
variable {X : Cx} {a b c e : Expr} {es : List Expr} {st : Stmt} {rest : List Stmt} {fa fb fc : FE} {fs : FA} {pos : Pos} {g g1 g2 : FS}
/-! ### a chain of two comparisons -/
def fChain (g1 g2 : PyData → PyData → Option Res) (fa fb fc : FE) : FE := fun ρ => (fa ρ).bind fun a => (fb ρ).bind fun b => (g1 a.rd b.rd).bind fun r => match r.rd with
  | .bool true => (fc ρ).bind fun c => g2 b.rd c.rd
  | .bool false => some (.fz (.bool false))
  | _ => none
theorem ent_chain {K : PySem.W.Frag} {r1 r2 : R2} {g1 g2 : PyData → PyData → Option Res} (o1 : Op2 K r1 g1) (o2 : Op2 K r2 g2) : ∀ σ H Q, tD K (fChain g1 g2 fa fb fc) σ H Q → tChain r1 r2 (tD K fa) (tD K fb) (tD K fc) σ H Q := fun σ H Q h => by
  obtain ⟨B, Hf, ρ, r, er, hf, k⟩ := h
  unfold fChain at hf
  obtain ⟨ra, h1, hf⟩ := Option.bind_eq_some_iff.mp hf
  obtain ⟨rb, h2, hf⟩ := Option.bind_eq_some_iff.mp hf
  obtain ⟨rc, h3, hf⟩ := Option.bind_eq_some_iff.mp hf
  refine ⟨B, Hf, ρ, ra, er, h1, fun v Hf1 H1 g1 q1 => ⟨B, Hf1, ρ, rb, er.grow g1, h2, fun u Hf2 H2 g2 q2 => ?_⟩⟩
  have g12 := g1.trans g2
  refine o1 B H Hf2 H2 v u ra rb rc _ g2.fh g12.h (q1.grow g2) (q2.back g1.h) h3 fun w Hf3 H3 g3 q3 => ?_
  split at hf
  · rename_i e3
    obtain ⟨rd, h4, hf⟩ := Option.bind_eq_some_iff.mp hf
    refine ⟨true, q3.bl e3, ?_⟩
    rw [if_pos rfl]
    refine ⟨B, Hf3, ρ, rd, (er.grow g12).grow g3, h4, fun x Hf4 H4 g4 q4 => ?_⟩
    have g34 := g3.trans g4
    have g14 := g12.trans g34
    exact o2 B H Hf4 H4 u x rb rd r Q g4.fh g14.h ((q2.back g1.h).grow g34) (q4.back (g12.trans g3).h) hf fun y Hf5 H5 g5 q5 => k y Hf5 H5 (g14.trans g5) (q5.back g14.h)
  · rename_i e3
    cases hf
    refine ⟨false, q3.bl e3, ?_⟩
    rw [if_neg Bool.false_ne_true]
    exact k _ Hf3 H3 (g12.trans g3) (Dp.bl _)
  · cases hf
theorem d_chain {op op' : CmpOp} {r r' : R2} {g g' : PyData → PyData → Option Res} (ho : OpR X (compareOp op) r) (ho' : OpR X (compareOp op') r') (o : Op2 X.K r g) (o' : Op2 X.K r' g') (ha : DE X a fa) (hb : DE X b fb) (hc : DE X c fc)
    (hm : lastMarks [op, op'] [b, c] = false := by with_unfolding_all rfl) : DE X (.Compare a [op, op'] [b, c] pos) (fChain g g' fa fb fc) := pe_mono (pe_chain ho ho' ha hb hc hm) (ent_chain o o')
theorem t_chain {op op' : CmpOp} {r r' : R2} {g g' : PyData → PyData → Option Res} (ho : OpR X (compareOp op) r) (ho' : OpR X (compareOp op') r') (o : Op2 X.K r g) (o' : Op2 X.K r' g') (ha : DE X a fa) (hb : DE X b fb) (hc : DE X c fc)
    (hm : lastMarks [op, op'] [b, c] = false := by with_unfolding_all rfl) : DT X (.Compare a [op, op'] [b, c] pos) (fB (fChain g g' fa fb fc)) := pt_mono (pt_chain ho ho' ha hb hc hm) fun σ H Q h => by
  obtain ⟨B, Hf, ρ, c, er, hf, k⟩ := h
  obtain ⟨r', h1, h2⟩ := fB_some hf
  exact ent_chain o o' σ H _ ⟨B, Hf, ρ, r', er, h1, fun v Hf' H' g' q => ⟨c, q.bl h2, k Hf' H' g'⟩⟩

/-! ### own errors: raise, calls that raise, try -/
def gEx (x : Str) : FS := fun ρ => some (.ex x ρ)
theorem s_raise {x m : Str} {j : Nat} {p p2 pos2 : Pos} {C : Addr} {bmB : List Value} {B newId initId : String} (F : ExcBaseFacts B newId initId bmB) (q : PySem.W.excIn X.K C bmB newId = true) (gC : X.mg x = some (.ref C)) (kC : PySem.W.keepIn X.K (.ref C) = true)
    (h1 : PySem.W.subIn X.K (.ref C) (.type "BaseException") = some true) (h2 : PySem.W.typeIn X.K (.ref C) = some (.type "type")) (hg : Gl X x := by rfl) (hc : X.calm = true := by rfl) (hdb : (x == ("__debug__" : Str)) = false := by decide) :
    DS X (.Raise (some (.Call (.Name x p) [.Constant (.str m) j p2] [] pos)) none pos2) (gEx x) := ps_mono (ps_raise hc takesW (pmk_own F q gC kC (raises_own h1 h2) hg hdb)) fun D σ H h => by
  obtain ⟨Bs, Hf, ρ, o, er, hg, k⟩ := h
  cases hg
  exact k C σ Hf H gC GB.refl er
/-- an own error's class C, its name x, over ValueError, without a body of its own -/
structure ErrC (K : PySem.W.Frag) (mg : Str → Option Value) (x : Str) (C : Addr) : Prop where
  g : mg x = some (.ref C)
  q : PySem.W.excIn K C [.type "ValueError", .type "Exception", .type "BaseException", .type "object"] "ValueError.__new__" = true
  k : PySem.W.keepIn K (.ref C) = true
  s : PySem.W.subIn K (.ref C) (.type "BaseException") = some true
  t : PySem.W.typeIn K (.ref C) = some (.type "type")
  e : PySem.W.exmOne K (.ref C) (.ref C) = some true
theorem s_err {x m : Str} {j : Nat} {p p2 pos2 : Pos} {C : Addr} (Z : ErrC X.K X.mg x C) (hg : Gl X x := by rfl) (hc : X.calm = true := by rfl) (hdb : (x == ("__debug__" : Str)) = false := by decide) :
    DS X (.Raise (some (.Call (.Name x p) [.Constant (.str m) j p2] [] pos)) none pos2) (gEx x) := s_raise PySem.F.excBase_ValueError Z.q Z.g Z.k Z.s Z.t hg hc hdb
inductive RX where
  | ok (d : PyData)
  | ex (x : Str)
abbrev FX := List PyData → Option RX
def spX (K : PySem.W.Frag) (mg : Str → Option Value) (n : Nat) (F : FX) : Sp := fun vs H Q E => ∃ Hf ds r, (Same Hf H ∧ Bn Hf) ∧ DpAll K Hf vs ds ∧ ds.length = n ∧ F ds = some r ∧ match r with
  | .ok d => ∀ v Hf' H', Gr Hf H Hf' H' → Dp K Hf' v d → Q v H'
  | .ex x => ∀ C Hf' H', mg x = some (.ref C) → Gr Hf H Hf' H' → E (.ref C) none H'
def runX (n : Nat) (g : FS) : FX := fun ds => (g (startR n ds)).bind fun o => match o with
  | .rt d => some (.ok d)
  | .nx _ => some (.ok .none)
  | .ex x _ => some (.ex x)
  | _ => none
end
section
variable {P : Program} {w : World} {K : PySem.W.Frag} {mg : Str → Option Value} {base : Heap}
/-- THE RULE for a def that may raise -/
theorem def_okX {x qual : Str} {st : Stmt} {f : Addr} {fd : FuncData} {N ps : List Str} {k : Nat} {g : FS} (F : Fun K x qual st f fd) (S : FnScope N ps (defScope st))
    (hbody : ∀ (cdv : Value) (A : Around) (outer : List Env) (s : Shared) (H : Hp) (E : XK), Room k (A.deeper (envOfC qual (defScope st) s.heap.objs.size f cdv)) → DSs (cxOf (L2.CX P w) P w K mg base N qual (defScope st) f cdv A outer s H E) (defBody st) g)
    (htk : ∀ (cdv : Value) (A : Around) (outer : List Env) (s : Shared) (H : Hp) (E : XK), Takes (cxOf (L2.CX P w) P w K mg base N qual (defScope st) f cdv A outer s H E) (fun cls d _ H' => E cls d H') := by intro _ _ _ _ _ _; exact takes_of rfl rfl rfl rfl) :
    FnOk P w K mg base (L2.CX P w) (k + 1) f fd ps (spX K mg ps.length (runX N.length g)) := by
  refine F.okX S (fun vs H Q E h => ?_) (fun cdv A outer s H vs Q E hr h => ?_)
  · obtain ⟨Hf, ds, d, e, hd, hl, _⟩ := h
    rw [dpa_len hd, hl]
  · obtain ⟨Hf, ds, d, e, hd, hl, hF, q⟩ := h
    refine ⟨_, hbody cdv A outer s H E hr, ?_⟩
    unfold runX at hF
    obtain ⟨o, h1, h2⟩ := Option.bind_eq_some_iff.mp hF
    have er : ER K H Hf H (L2.start N vs) (startR N.length ds) := er_start e hd
    refine ⟨H, Hf, _, o, er, h1, ?_⟩
    cases o with
    | rt d' =>
      cases h2
      exact fun v Hf' H' g' e1 e2 dp => q v Hf' H' ⟨g'.f, e2, e1, g'.un, g'.bn⟩ dp
    | nx ρ' =>
      cases h2
      exact fun σ' Hf' H' g' er' => q .non Hf' H' ⟨g'.f, er'.bh, er'.fh, g'.un, g'.bn⟩ .non
    | bk _ => cases h2
    | ct _ => cases h2
    | ex x ρ' =>
      cases h2
      exact fun C σ' Hf' H' hC g' er' => wgx_of (htk cdv A outer s H E) (q C Hf' H' hC ⟨g'.f, er'.bh, er'.fh, g'.un, g'.bn⟩)
end
section
variable {X : Cx} {a b c e : Expr} {es : List Expr} {st : Stmt} {rest : List Stmt} {fa fb fc : FE} {fs : FA} {pos p : Pos} {g g1 g2 : FS} {k n : Nat} {f : Addr} {fd : FuncData} {ps : List Str} {F : FX} {x : Str}
/-- y = f(..), f may raise -/
def gSetX (i : Nat) (F : FX) (fs : FA) : FS := fun ρ => (fs ρ).bind fun rs => (frs rs).bind fun ds => (F ds).map fun r => match r with
  | .ok d => .nx (ρ.set i (.d d))
  | .ex x => .ex x ρ
theorem frs_len : ∀ (rs : List Res) (ds : List PyData), frs rs = some ds → ds.length = rs.length
  | [], ds, h => by cases h; rfl
  | r :: rs, ds, h => by
    unfold frs at h
    obtain ⟨x, e1, e2⟩ := Option.bind_eq_some_iff.mp h
    obtain ⟨ys, e3, e4⟩ := Option.map_eq_some_iff.mp e2
    subst e4
    rw [List.length_cons, List.length_cons, frs_len rs ys e3]
theorem s_setX {y : Str} {py : Pos} (i : Nat) (hN : X.N.Nodup) (G : FnOk X.prog X.w X.K X.mg X.base (L2.CX X.prog X.w) k f fd ps (spX X.K X.mg n F)) (hr : Room k X.A) (hm : X.mg x = some (.ref f)) (hk : PySem.W.keepIn X.K (.ref f) = true) (hb : Binds X.K fd ps []) (ha : DA X (e :: es) fs) (hn : ALen fs n)
    (hg : Gl X x := by rfl) (hdb : (x == ("__debug__" : Str)) = false := by decide) (he : starEach (e :: es) X.env = (false, eval e X.env) :: starEach es X.env := by rfl) (hpl : (backTo p (starEach es X.env)).any (·.1) = false := by rfl)
    (hi : X.N[i]? = some y := by rfl) (hx : Loc X.env.scope y := by first | exact Or.inl rfl | exact Or.inr rfl) {px : Pos} (hs : swapsWith (.Call (.Name x px) (e :: es) [] p) (some (.Name y py)) pos.line X.env = pure false := by rfl) (hf : X.fn y = true ∨ X.env.scope.names.lookup y = some .local := by first | exact .inl rfl | exact .inr rfl | assumption) :
    DS X (.Assign [.Name y py] (.Call (.Name x px) (e :: es) [] p) pos) (gSetX i F fs) := ps_mono (ps_set (i := i) hN hi hx (pe_callS G hr hg hm hk hb (fun σ => passAt takesW σ) ha hdb he hpl) hs hf) fun D σ H h => by
  obtain ⟨B, Hf, ρ, o, er, hg, kk⟩ := h
  unfold gSetX at hg
  obtain ⟨rs, h1, h2⟩ := Option.bind_eq_some_iff.mp hg
  obtain ⟨ds, h3, h4⟩ := Option.bind_eq_some_iff.mp h2
  obtain ⟨r, h5, h6⟩ := Option.map_eq_some_iff.mp h4
  subst h6
  refine ⟨B, Hf, ρ, rs, er, h1, fun vs Hf1 H1 g1 q1 => ?_⟩
  obtain ⟨Hf2, g2, s2, d2⟩ := RRs.freeze er g1 q1 h3
  have hl : ds.length = n := by rw [frs_len rs ds h3, hn rs ⟨ρ, h1⟩]
  refine ⟨Hf2, ds, r, ⟨g2.fh, g2.bn er.bn⟩, d2, hl, h5, ?_⟩
  cases r with
  | ok d => exact fun v Hf3 H3 g3 dp => kk _ Hf3 H3 ((g2.trans g3).gb er.bh) ((er.grow (g2.trans g3)).set i dp)
  | ex y => exact fun C Hf3 H3 hC g3 => kk C σ Hf3 H3 hC ((g2.trans g3).gb er.bh) (er.grow (g2.trans g3))
/-- try: .. except C as e: .. (the named class alone is caught) -/
def wipeO (i : Nat) : Out → Out
  | .nx ρ => .nx (ρ.set i .und)
  | .bk ρ => .bk (ρ.set i .und)
  | .ct ρ => .ct (ρ.set i .und)
  | o => o
def gTry (x : Str) (i : Nat) (gb : FS) (gs : Addr → FS) : FS := fun ρ => (gb ρ).bind fun o => match o with
  | .ex y ρ1 => if y = x then (gs 0 (ρ1.set i (.pin (.ref 0)))).map (wipeO i) else none
  | o => some o
/-- the suite's own yield doesn't hang on the error's address -/
def Uni (i : Nat) (gs : Addr → FS) : Prop := ∀ (a : Addr) (ρ : Rho) o, (gs 0 (ρ.set i (.pin (.ref 0)))).map (wipeO i) = some o → (gs a (ρ.set i (.pin (.ref a)))).map (wipeO i) = some o ∧ (∀ y ρ', gs a (ρ.set i (.pin (.ref a))) = some (.ex y ρ') → False)
theorem ER.setP {K : PySem.W.Frag} {B Hf H : Hp} {σ : L2.St} {ρ : Rho} (er : ER K B Hf H σ ρ) (i : Nat) (v : V) : ER K B Hf H (σ.set i (some v)) (ρ.set i (.pin v)) := by
  refine ⟨er.fh, er.bh, by rw [List.length_set, List.length_set]; exact er.len, fun j s o q1 q2 => ?_, er.bn, fun j k ys zs p' hjk q1 q2 q3 q4 => ?_⟩
  · by_cases z : i = j
    · subst z
      by_cases hi : i < ρ.length
      · rw [List.getElem?_set_self hi] at q1
        rw [List.getElem?_set_self (by rw [er.len]; exact hi)] at q2
        cases q1; cases q2
        rfl
      · rw [List.getElem?_eq_none (by rw [List.length_set]; omega)] at q1
        cases q1
    · rw [List.getElem?_set_ne z] at q1 q2
      exact er.sl j s o q1 q2
  · have nj : ∀ {j : Nat} {xs : List PyData}, (ρ.set i (Slot.pin v))[j]? = some (.own xs) → i ≠ j := fun {j xs} q z => by
      subst z
      by_cases hi : i < ρ.length
      · rw [List.getElem?_set_self hi] at q; cases q
      · rw [List.getElem?_eq_none (by rw [List.length_set]; omega)] at q; cases q
    have z1 := nj q1
    have z2 := nj q2
    rw [List.getElem?_set_ne z1] at q1 q3
    rw [List.getElem?_set_ne z2] at q2 q4
    exact er.dj j k ys zs p' hjk q1 q2 q3 q4
theorem ER.setU {K : PySem.W.Frag} {B Hf H : Hp} {σ : L2.St} {ρ : Rho} (er : ER K B Hf H σ ρ) (i : Nat) (v : Option V) : ER K B Hf H (σ.set i v) (ρ.set i .und) := by
  refine ⟨er.fh, er.bh, by rw [List.length_set, List.length_set]; exact er.len, fun j s o q1 q2 => ?_, er.bn, fun j k ys zs p' hjk q1 q2 q3 q4 => ?_⟩
  · by_cases z : i = j
    · subst z
      by_cases hi : i < ρ.length
      · rw [List.getElem?_set_self hi] at q1
        cases q1
        trivial
      · rw [List.getElem?_eq_none (by rw [List.length_set]; omega)] at q1
        cases q1
    · rw [List.getElem?_set_ne z] at q1 q2
      exact er.sl j s o q1 q2
  · have nj : ∀ {j : Nat} {xs : List PyData}, (ρ.set i Slot.und)[j]? = some (.own xs) → i ≠ j := fun {j xs} q z => by
      subst z
      by_cases hi : i < ρ.length
      · rw [List.getElem?_set_self hi] at q; cases q
      · rw [List.getElem?_eq_none (by rw [List.length_set]; omega)] at q; cases q
    have z1 := nj q1
    have z2 := nj q2
    rw [List.getElem?_set_ne z1] at q1 q3
    rw [List.getElem?_set_ne z2] at q2 q4
    exact er.dj j k ys zs p' hjk q1 q2 q3 q4
theorem s_try {y : Str} {C : Addr} {i : Nat} {body suite : List Stmt} {b₀ : Stmt} {np pos' : Pos} {gs : Addr → FS} (hN : X.N.Nodup) (gC : X.mg x = some (.ref C)) (eP : PySem.W.exmOne X.K (.ref C) (.ref C) = some true)
    (hb : ∀ (pn : List (Addr × Obj)) (xe : Value → Shared → Prop), PassesOwn (model X.prog X.w) X.A X.env xe → DSs (X.tr pn xe) body g)
    (hsu : ∀ (a : Addr) (oe : Obj) (pn : List (Addr × Obj)), Zc (.ref C) none oe → (∃ vs, oe.data = .fields vs) → DSs (X.suite a ((a, oe) :: pn)) (b₀ :: suite) (gs a))
    (hu : Uni i gs) (hs : X.stack = X.env :: X.outer := by rfl) (hf : X.env.frame = some X.env.locals := by rfl) (hi : X.N[i]? = some y := by rfl) (hln : X.env.kindOf y = some .local := by rfl) (hg : Gl X x := by rfl) (hdb : (x == ("__debug__" : Str)) = false := by decide) :
    DS X (.Try body [.ExceptHandler (some (.Name x np)) (some y) (b₀ :: suite) pos'] [] [] pos) (gTry x i g gs) :=
  ps_mono (ps_try_as (i := i) (tb := fun W => tDS X.K X.mg W g) (ts := fun a cls d D σ H => cls = .ref C ∧ d = none ∧ tDS X.K X.mg (fun _ _ _ _ => False) (gs a) D σ H) (c := .ref C) (Wout := fun _ _ _ _ => False) hs hf hN hi hln ⟨hg, hdb, .inl gC⟩ takes0
    (fun W pn xe tk hp => pss_mono (hb pn xe hp) fun D σ H h => by
      obtain ⟨B, Hf, ρ, o, er, hg, kk⟩ := h
      refine ⟨B, Hf, ρ, o, er, hg, ?_⟩
      cases o with
      | nx _ => exact kk
      | rt _ => exact kk
      | bk _ => exact kk
      | ct _ => exact kk
      | ex y ρ' => exact fun C σ' Hf' H' hC g' er' => wgx_of tk (kk C σ' Hf' H' hC g' er'))
    (fun a oe cls d pn hz hfd => ⟨fun pins s σ H D I h => by
      obtain ⟨ec, ed, B, Hf, ρ, o, er, hg, kk⟩ := h
      subst ec ed
      refine (hsu a oe pn hz hfd).run pins s σ H D I ⟨B, Hf, ρ, o, er, hg, ?_⟩
      cases o with
      | nx _ => exact kk
      | rt _ => exact kk
      | bk _ => exact kk
      | ct _ => exact kk
      | ex y ρ' => exact fun C σ' Hf' H' hC g' er' => (kk C σ' Hf' H' hC g' er').elim⟩)) fun D σ H h => by
  obtain ⟨B, Hf, ρ, o, er, hg, k⟩ := h
  unfold gTry at hg
  obtain ⟨o1, e1, e2⟩ := Option.bind_eq_some_iff.mp hg
  refine ⟨B, Hf, ρ, o1, er, e1, ?_⟩
  cases o1 with
  | nx _ => cases e2; exact k
  | rt _ => cases e2; exact k
  | bk _ => cases e2; exact k
  | ct _ => cases e2; exact k
  | ex z ρ1 =>
    simp only at e2
    split at e2
    · rename_i hz
      subst hz
      intro C' σ' Hf' H' hC g' er'
      rw [gC] at hC
      cases hC
      refine ⟨true, eP, fun _ a ha => ⟨rfl, rfl, ?_⟩, fun q => nomatch q⟩
      obtain ⟨u1, u2⟩ := hu a ρ1 o e2
      obtain ⟨o2, u3, u4⟩ := Option.map_eq_some_iff.mp u1
      refine ⟨B, Hf', _, o2, er'.setP i (.ref a), u3, ?_⟩
      subst u4
      cases o2 with
      | nx ρ2 => exact fun σ2 Hf2 H2 g2 er2 => k _ Hf2 H2 (g'.trans g2) (er2.setU i none)
      | bk ρ2 => exact fun σ2 Hf2 H2 g2 er2 => k _ Hf2 H2 (g'.trans g2) (er2.setU i none)
      | ct ρ2 => exact fun σ2 Hf2 H2 g2 er2 => k _ Hf2 H2 (g'.trans g2) (er2.setU i none)
      | rt d => exact fun v Hf2 H2 g2 s1 s2 dp => k v Hf2 H2 (g'.trans g2) s1 s2 dp
      | ex y ρ2 => exact (u2 y ρ2 u3).elim
    · cases e2
@[simp] theorem fChain_eq {ρ : Rho} {h1 h2 : PyData → PyData → Option Res} : fChain h1 h2 fa fb fc ρ = (fa ρ).bind fun a => (fb ρ).bind fun b => (h1 a.rd b.rd).bind fun r => match r.rd with
  | .bool true => (fc ρ).bind fun c => h2 b.rd c.rd
  | .bool false => some (.fz (.bool false))
  | _ => none := (rfl)
@[simp] theorem gEx_eq {ρ : Rho} : gEx x ρ = some (.ex x ρ) := (rfl)
def setX (i : Nat) (ρ : Rho) : RX → Out
  | .ok d => .nx (ρ.set i (.d d))
  | .ex x => .ex x ρ
@[simp] theorem setX_ok {i : Nat} {ρ : Rho} {d : PyData} : setX i ρ (.ok d) = .nx (ρ.set i (.d d)) := (rfl)
@[simp] theorem setX_ex {i : Nat} {ρ : Rho} : setX i ρ (.ex x) = .ex x ρ := (rfl)
@[simp] theorem gSetX_eq {i : Nat} {ρ : Rho} : gSetX i F fs ρ = (fs ρ).bind fun rs => (frs rs).bind fun ds => (F ds).map (setX i ρ) := by
  unfold gSetX
  congr 1
@[simp] theorem wipeO_nx {i : Nat} {ρ : Rho} : wipeO i (.nx ρ) = .nx (ρ.set i .und) := (rfl)
@[simp] theorem wipeO_bk {i : Nat} {ρ : Rho} : wipeO i (.bk ρ) = .bk (ρ.set i .und) := (rfl)
@[simp] theorem wipeO_ct {i : Nat} {ρ : Rho} : wipeO i (.ct ρ) = .ct (ρ.set i .und) := (rfl)
@[simp] theorem wipeO_rt {i : Nat} {d : PyData} : wipeO i (.rt d) = .rt d := (rfl)
def tryS (x : Str) (i : Nat) (gs : Addr → FS) : Out → Option Out
  | .ex y ρ1 => if y = x then (gs 0 (ρ1.set i (.pin (.ref 0)))).map (wipeO i) else none
  | o => some o
@[simp] theorem tryS_nx {i : Nat} {gs : Addr → FS} {ρ : Rho} : tryS x i gs (.nx ρ) = some (.nx ρ) := (rfl)
@[simp] theorem tryS_rt {i : Nat} {gs : Addr → FS} {d : PyData} : tryS x i gs (.rt d) = some (.rt d) := (rfl)
@[simp] theorem tryS_ct {i : Nat} {gs : Addr → FS} {ρ : Rho} : tryS x i gs (.ct ρ) = some (.ct ρ) := (rfl)
@[simp] theorem tryS_bk {i : Nat} {gs : Addr → FS} {ρ : Rho} : tryS x i gs (.bk ρ) = some (.bk ρ) := (rfl)
@[simp] theorem tryS_ex {i : Nat} {gs : Addr → FS} {ρ : Rho} : tryS x i gs (.ex x ρ) = (gs 0 (ρ.set i (.pin (.ref 0)))).map (wipeO i) := if_pos rfl
@[simp] theorem gTry_eq {i : Nat} {gs : Addr → FS} {ρ : Rho} : gTry x i g gs ρ = (g ρ).bind (tryS x i gs) := by
  unfold gTry
  congr 1
def endX : Out → Option RX
  | .rt d => some (.ok d)
  | .nx _ => some (.ok .none)
  | .ex x _ => some (.ex x)
  | _ => none
@[simp] theorem endX_r {d : PyData} : endX (.rt d) = some (.ok d) := (rfl)
@[simp] theorem endX_n {ρ : Rho} : endX (.nx ρ) = some (.ok .none) := (rfl)
@[simp] theorem endX_x {ρ : Rho} : endX (.ex x ρ) = some (.ex x) := (rfl)
theorem runX_eq {xs : List PyData} : runX n g xs = (g (startR n xs)).bind endX := by
  unfold runX
  congr 1
/-! ### isinstance of the error that the suite holds -/
/-- the slot i holds the error at a -/
def fIsE (a : Addr) (i : Nat) (b : Bool) : FE := fun ρ => match ρ[i]? with
  | some (.pin (.ref a')) => if a' = a then some (.fz (.bool b)) else none
  | _ => none
def isS (a : Addr) (b : Bool) : Option Slot → Option Res
  | some (.pin (.ref a')) => if a' = a then some (.fz (.bool b)) else none
  | _ => none
@[simp] theorem isS_p {a : Addr} {b : Bool} : isS a b (some (.pin (.ref a))) = some (.fz (.bool b)) := if_pos rfl
@[simp] theorem fIsE_eq {a : Addr} {i : Nat} {b : Bool} {ρ : Rho} : fIsE a i b ρ = isS a b ρ[i]? := (rfl)
theorem fIsE_some {a : Addr} {i : Nat} {b : Bool} {ρ : Rho} {r : Res} (h : fIsE a i b ρ = some r) : ρ[i]? = some (.pin (.ref a)) ∧ r = .fz (.bool b) := by
  unfold fIsE at h
  split at h
  · rename_i e
    split at h
    · rename_i z
      subst z
      cases h
      exact ⟨e, rfl⟩
    · cases h
  · cases h
theorem ER.pinned {K : PySem.W.Frag} {B Hf H : Hp} {σ : L2.St} {ρ : Rho} {i : Nat} {v : V} (er : ER K B Hf H σ ρ) (h : ρ[i]? = some (.pin v)) : σ[i]? = some (some v) := by
  have hi : i < σ.length := by rw [er.len]; exact (List.getElem?_eq_some_iff.mp h).1
  have ho : σ[i]? = some σ[i] := List.getElem?_eq_getElem hi
  have q : σ[i] = some v := er.sl i _ _ h ho
  rw [ho, q]
/-- isinstance(e, (C1, C2)): the tuple just laid -/
def rIsET (K : PySem.W.Frag) (D a : Addr) : List V → Hp → VK → Prop := fun xs H Q => ∃ (tp : Addr) (cs : List V) (us : List Value) (b : Bool), xs = [.ref a, .ref tp] ∧ H tp = some (.tup cs) ∧ Paired ClsV cs us ∧ PySem.W.kitAny K (.ref D) us = some b ∧ Q (.bl b) H
theorem call_isET {a D : Addr} {oe : Obj} {pn : List (Addr × Obj)} (C : ExcC X.K D) (hz : Zc (.ref D) none oe) (hf : ∃ vs, oe.data = .fields vs) : CallR (X.suite a ((a, oe) :: pn)) (.builtin "isinstance") (rIsET X.K D a) := by
  intro pins s σ H xs us Q I r h
  obtain ⟨tp, cs, ws, b, rfl, hT, k, e, q⟩ := h
  cases r with
  | cons rx rr =>
    cases rr with
    | cons rt rr =>
      cases rr
      cases rx
      cases rt
      obtain ⟨hget, _⟩ := I.pin (a, oe) (List.mem_append.mpr (.inl List.mem_cons_self))
      obtain ⟨vs, hv⟩ := hf
      have J : PySem.W.InstAt s.heap a oe D none := by
        obtain ⟨oc, od, oda, osl⟩ := oe
        obtain ⟨h1, h2⟩ := hz
        dsimp only at h1 h2 hv
        subst h1 h2 hv
        exact ⟨hget, rfl, rfl, trivial⟩
      obtain ⟨_, its, rv, o, h1, h2, n, h3⟩ := (show ObjOk X.prog X.w H s.heap tp (.tup cs) from I.hok tp _ hT)
      have e3 := ClsV.all k rv
      subst e3
      obtain ⟨oc, od, dt, sl⟩ := o
      simp only at h2 h3
      subst h2 h3
      exact PySem.W.kia_tup (PySem.W.handS_kitx_exc C.hg C.hk C.hs C.hd C.ha C.hn C.ht C.hm) I.kIn J h1 e (fun z => nomatch z) fun tk => ⟨.bl b, H, I.kept (t' := tk) fun _ _ z => z, rfl, q⟩
section
variable {ad D : Addr} {oe : Obj} {pn : List (Addr × Obj)} {i : Nat} {b : Bool} {q pt : Pos} {T y : Str}
/-- isinstance(e, ValueError) -/
theorem d_isEB {T : Str} {m : String} (CC : ExcC X.K D) (hz : Zc (.ref D) none oe) (hf : ∃ vs, oe.data = .fields vs) (i : Nat) (he : PySem.W.kitOne X.K (.ref D) (.type m) = some b) (hm : X.mg "isinstance" = none) (hmT : X.mg T = none) (hvT : bootBuiltins T = some (.type m)) (hb : bootBuiltins "isinstance" = some (.builtin "isinstance"))
    (hi : X.N[i]? = some y := by rfl) (hv : Vis X.env.scope y := by first | exact Or.inl rfl | exact Or.inr (Or.inl rfl) | exact Or.inr (Or.inr rfl)) (hd : (y == ("__debug__" : Str)) = false := by decide) (hcd : (y == ("__classdict__" : Str)) = false := by decide)
    (hg : Gl X "isinstance" := by rfl) (hgT : Gl X T := by rfl) (hn : T ≠ "__name__" := by decide) (hdb : (T == ("__debug__" : Str)) = false := by decide)
    (h1 : starEach [.Name y pt, .Name T q] X.env = (false, eval (.Name y pt) X.env) :: starEach [.Name T q] X.env := by rfl) (h2 : starEach [.Name T q] X.env = (false, eval (.Name T q) X.env) :: starEach [] X.env := by rfl) (hpl : (backTo pos (starEach [.Name T q] X.env)).any (·.1) = false := by rfl) :
    DE (X.suite ad ((ad, oe) :: pn)) (.Call (.Name "isinstance" p) [.Name y pt, .Name T q] [] pos) (fIsE ad i b) := pe_mono (pe_callB (X := X.suite ad ((ad, oe) :: pn)) (call_isE (X := X) CC hz hf) hg hm hb (pa_cons (pe_var (i := i) hi hv hd hcd) (pa_cons (pe_bltn (v := .ty m) hgT hmT hvT rfl hn hdb) pa_nil h2) h1) (by decide) (by decide) h1 hpl) fun σ H Q h => by
  obtain ⟨B, Hf, ρ, r, er, hf, k⟩ := h
  obtain ⟨e1, e2⟩ := fIsE_some hf
  subst e2
  exact ⟨.ref ad, er.pinned e1, .ty m, _, b, rfl, fun u r => r, he, k _ _ _ (Gr.refl er.fh) (Dp.bl _)⟩
/-- isinstance(e, C), C an own class -/
theorem d_isEC {T : Str} {C : Addr} (CC : ExcC X.K D) (hz : Zc (.ref D) none oe) (hf : ∃ vs, oe.data = .fields vs) (i : Nat) (he : PySem.W.kitOne X.K (.ref D) (.ref C) = some b) (hm : X.mg "isinstance" = none) (hmT : X.mg T = some (.ref C)) (hb : bootBuiltins "isinstance" = some (.builtin "isinstance"))
    (hi : X.N[i]? = some y := by rfl) (hv : Vis X.env.scope y := by first | exact Or.inl rfl | exact Or.inr (Or.inl rfl) | exact Or.inr (Or.inr rfl)) (hd : (y == ("__debug__" : Str)) = false := by decide) (hcd : (y == ("__classdict__" : Str)) = false := by decide)
    (hg : Gl X "isinstance" := by rfl) (hgT : Gl X T := by rfl) (hdb : (T == ("__debug__" : Str)) = false := by decide)
    (h1 : starEach [.Name y pt, .Name T q] X.env = (false, eval (.Name y pt) X.env) :: starEach [.Name T q] X.env := by rfl) (h2 : starEach [.Name T q] X.env = (false, eval (.Name T q) X.env) :: starEach [] X.env := by rfl) (hpl : (backTo pos (starEach [.Name T q] X.env)).any (·.1) = false := by rfl) :
    DE (X.suite ad ((ad, oe) :: pn)) (.Call (.Name "isinstance" p) [.Name y pt, .Name T q] [] pos) (fIsE ad i b) := pe_mono (pe_callB (X := X.suite ad ((ad, oe) :: pn)) (call_isE (X := X) CC hz hf) hg hm hb (pa_cons (pe_var (i := i) hi hv hd hcd) (pa_cons (pe_glob (v := .ref C) hgT hmT rfl hdb) pa_nil h2) h1) (by decide) (by decide) h1 hpl) fun σ H Q h => by
  obtain ⟨B, Hf, ρ, r, er, hf, k⟩ := h
  obtain ⟨e1, e2⟩ := fIsE_some hf
  subst e2
  exact ⟨.ref ad, er.pinned e1, .ref C, _, b, rfl, fun u r => r, he, k _ _ _ (Gr.refl er.fh) (Dp.bl _)⟩
/-- isinstance(e, (C1, C2)) -/
theorem d_isE2 {T1 T2 : Str} {C1 C2 : Addr} {q1 q2 qt : Pos} {kt} (CC : ExcC X.K D) (hz : Zc (.ref D) none oe) (hf : ∃ vs, oe.data = .fields vs) (i : Nat) (he : PySem.W.kitAny X.K (.ref D) [.ref C1, .ref C2] = some b) (hm : X.mg "isinstance" = none) (hm1 : X.mg T1 = some (.ref C1)) (hm2 : X.mg T2 = some (.ref C2)) (hb : bootBuiltins "isinstance" = some (.builtin "isinstance"))
    (hi : X.N[i]? = some y := by rfl) (hv : Vis X.env.scope y := by first | exact Or.inl rfl | exact Or.inr (Or.inl rfl) | exact Or.inr (Or.inr rfl)) (hd : (y == ("__debug__" : Str)) = false := by decide) (hcd : (y == ("__classdict__" : Str)) = false := by decide)
    (hg : Gl X "isinstance" := by rfl) (hg1 : Gl X T1 := by rfl) (hg2 : Gl X T2 := by rfl) (hdb1 : (T1 == ("__debug__" : Str)) = false := by decide) (hdb2 : (T2 == ("__debug__" : Str)) = false := by decide)
    (h1 : starEach [.Name y pt, .Tuple [.Name T1 q1, .Name T2 q2] kt qt] X.env = (false, eval (.Name y pt) X.env) :: starEach [.Tuple [.Name T1 q1, .Name T2 q2] kt qt] X.env := by rfl) (h2 : starEach [.Tuple [.Name T1 q1, .Name T2 q2] kt qt] X.env = (false, eval (.Tuple [.Name T1 q1, .Name T2 q2] kt qt) X.env) :: starEach [] X.env := by rfl)
    (h3 : starEach [.Name T1 q1, .Name T2 q2] X.env = (false, eval (.Name T1 q1) X.env) :: starEach [.Name T2 q2] X.env := by rfl) (h4 : starEach [.Name T2 q2] X.env = (false, eval (.Name T2 q2) X.env) :: starEach [] X.env := by rfl)
    (hpl : (backTo pos (starEach [.Tuple [.Name T1 q1, .Name T2 q2] kt qt] X.env)).any (·.1) = false := by rfl) :
    DE (X.suite ad ((ad, oe) :: pn)) (.Call (.Name "isinstance" p) [.Name y pt, .Tuple [.Name T1 q1, .Name T2 q2] kt qt] [] pos) (fIsE ad i b) := pe_mono (pe_callB (X := X.suite ad ((ad, oe) :: pn)) (call_isET (X := X) CC hz hf) hg hm hb (pa_cons (pe_var (i := i) hi hv hd hcd) (pa_cons (pe_tup (pa_cons (pe_glob (v := .ref C1) hg1 hm1 rfl hdb1) (pa_cons (pe_glob (v := .ref C2) hg2 hm2 rfl hdb2) pa_nil h4) h3)) pa_nil h2) h1) (by decide) (by decide) h1 hpl) fun σ H Q h => by
  obtain ⟨B, Hf, ρ, r, er, hf, k⟩ := h
  obtain ⟨e1, e2⟩ := fIsE_some hf
  subst e2
  refine ⟨.ref ad, er.pinned e1, (by show 2 ≤ sizeLine; rw [sizeLine_eq]; omega), fun tp htp => ⟨tp, _, _, b, rfl, upd_same, .cons (.own C1) (.cons (.own C2) .nil), he, ?_⟩⟩
  exact k _ _ _ (Gr.newU er.fh htp) (Dp.bl _)
end
end
section
variable {K : PySem.W.Frag} {t : Value} {C : Addr} {b c : Bool}
theorem kit_own (hd : PySem.W.hasDictIn K C = true) (ht : PySem.W.typeIn K (.ref C) = some (.type "type")) (hs : PySem.W.subIn K t (.ref C) = some b) (hn : b = true ∨ (t == .ref C) = false) : PySem.W.kitOne K t (.ref C) = some b := by
  obtain ⟨cd, hc, _⟩ := PySem.W.any_some hd
  have e2 : ((PySem.W.clsIn K C).isSome && PySem.W.typeIn K (.ref C) == some (.type "type")) = true := by rw [hc, ht] <;> rfl
  unfold PySem.W.kitOne
  split
  · rename_i q
    rcases hn with z | z
    · rw [z]
    · rw [z] at q; cases q
  · show (if ((PySem.W.clsIn K C).isSome && PySem.W.typeIn K (.ref C) == some (.type "type")) = true then PySem.W.subIn K t (.ref C) else none) = some b
    rw [if_pos e2]
    exact hs
theorem kit_typ {D : Addr} {T : String} (hm : PySem.W.kitMeta T = true) (hs : PySem.W.subIn K (.ref D) (.type T) = some b) : PySem.W.kitOne K (.ref D) (.type T) = some b := by
  unfold PySem.W.kitOne
  rw [if_neg (by intro q; cases (beq_iff_eq.mp q))]
  show (if PySem.W.kitMeta T = true then PySem.W.subIn K (.ref D) (.type T) else none) = some b
  rw [if_pos hm]
  exact hs
theorem kit_two {x y : Value} (h1 : PySem.W.kitOne K t x = some b) (h2 : PySem.W.kitOne K t y = some c) : PySem.W.kitAny K t [x, y] = some (b || c) := by
  unfold PySem.W.kitAny
  rw [h1]
  cases b with
  | true => rfl
  | false =>
    show PySem.W.kitAny K t [y] = _
    unfold PySem.W.kitAny
    rw [h2]
    cases c <;> rfl
end
end DL
namespace DL
open PySem PySem.Spec PyProof.Rows L2
section
variable {X : Cx} {a b c e o : Expr} {es : List Expr} {st : Stmt} {fa fb fc : FE} {fs : FA} {pos apos cpos p : Pos}
/-! ### t.index(y) of a tuple of flat items -/
/-- the tuple at a has no dict of its own -/
def NoD (K : PySem.W.Frag) (H : Hp) (a : Addr) : Prop := (∃ ob u, H a = some (.frz ob u) ∧ ob.dict = none) ∨ ∃ ob, K.lookup a = some ob ∧ ob.dict = none
theorem NoD.at {pins : List (Addr × Obj)} {σ : L2.St} {H : Hp} {s : Shared} {a : Addr} (h : NoD X.K H a) (I : Inv X pins σ H s) : ∃ ob, s.heap.get? a = some ob ∧ ob.dict = none := by
  rcases h with ⟨ob, u, e, d⟩ | ⟨ob, e, d⟩
  · exact ⟨ob, (show ObjOk X.prog X.w H s.heap a (.frz ob u) from I.hok a _ e).1, d⟩
  · exact ⟨ob, I.kIn a ob e, d⟩
def KTup (K : PySem.W.Frag) : Prop := ∀ a ob, K.lookup a = some ob → ob.cls = .type "tuple" → ob.dict = none
theorem nod_of {K : PySem.W.Frag} {Hf H : Hp} {a : Addr} {vs : List V} (bn : Bn Hf) (kt : KTup K) (e : Same Hf H) (h : SqT K Hf a vs) : NoD K H a := by
  rcases h with (h | ⟨ob, h⟩) | ⟨ob, its, n, h, hc, _⟩
  · exact (bn.nt a vs h).elim
  · exact .inl ⟨ob, _, e _ _ h, bn.fz a ob vs h⟩
  · exact .inr ⟨ob, h, kt a ob h hc⟩
def rTIx (K : PySem.W.Frag) : V → List V → Hp → VK → Prop := fun x xs H Q => ∃ (p : Addr) (ys : List V) (y : V) (j : Nat) (z : V), x = .ref p ∧ xs = [y] ∧ SqT K H p ys ∧ flatV y = true ∧ ys.all flatV = true ∧ ys[j]? = some z ∧ eqV z y = true ∧
  (∀ (m : Nat) (z' : V), m < j → ys[m]? = some z' → eqV z' y = false) ∧ Q (.int (j : Nat)) H
theorem mt_tix : MtR X "tuple.index" (rTIx X.K) := fun pins s σ H x xs v us Q I rx rs h => by
  obtain ⟨p, ys, y, j, z, rfl, rfl, hq, fy, fys, hz, hzj, hno, q⟩ := h
  cases rx
  obtain ⟨u, rfl, ry⟩ := vals1 rs
  obtain ⟨its, r, ⟨⟨cls, dd, dt, sl⟩, ho, hc, n, hd⟩, hsz⟩ := I.tuple hq
  simp only at hc hd
  subst hc hd
  have at' : ∀ (m : Nat) (y' : V), ys[m]? = some y' → ∀ (hm : m < its.toArray.size), eqU y its.toArray[m] = eqV y' y := fun m y' e hm => by
    obtain ⟨w, hw, rw'⟩ := r.get e
    have e1 : its.toArray[m] = w := by
      obtain ⟨_, q⟩ := List.getElem?_eq_some_iff.mp hw
      simpa using q
    rw [e1, eqU_of rw' (flat_at fys e)]
  have hl : its.toArray.size = ys.length := by rw [List.size_toArray, r.length]
  have hj : j < its.toArray.size := by rw [hl]; exact (List.getElem?_eq_some_iff.mp hz).1
  refine call_meets PySem.F.slot_tuple_index ⟨_, ho, rfl⟩ PySem.F.entry_tuple_index (PySem.F.args_tuple_index_2 _ _) (TI.tuple_indexAt p its.toArray n dd sl u (eqU y) j hj ?_ ?_)
    ⟨ho, fun w hw => mem_eqAt ry fy r fys w (by simpa using hw), ⟨.int (j : Nat), H, I.tok _, ⟨_, rfl⟩, q⟩⟩
  · rw [at' j z hz]
    exact hzj
  · intro m hm hmj
    have hm' : m < ys.length := by rw [← hl]; exact hm
    rw [at' m ys[m] (List.getElem?_eq_getElem hm')]
    exact hno m _ hmj (List.getElem?_eq_getElem hm')
def tMT (K : PySem.W.Frag) (r : V → List V → Hp → VK → Prop) (to : TE) (t : TA) : TE := fun σ H Q => to σ H fun x H1 => (∃ a ys, x = .ref a ∧ SqT K H1 a ys ∧ NoD K H1 a) ∧ t σ H1 fun xs H2 => r x xs H2 Q
theorem pe_mt {id : String} {name : Str} {to : TE} {t : TA} {r : V → List V → Hp → VK → Prop} (slot : PySem.Slot "tuple" name id) (pa : PlainAttrs "tuple") (hty : typeOf (.builtin id) = pure (.type "method_descriptor")) (hm : MtR X id r) (ho : PE X o to) (ha : PA X (e :: es) t)
    (hbase : attributeBase o name X.env (eval o X.env) = eval o X.env := by rfl)
    (hfew : ((backTo cpos (starEach (e :: es) X.env)).all (fun x => !x.1) && (backToKw cpos (keywordEach [] X.env)).all (fun x => x.1.isSome)
      && decide ((e :: es).length + ([] : List Keyword).length + (if ([] : List Keyword).isEmpty then 0 else 1) < 30)) = true := by rfl)
    (hline : (apos.endLine == cpos.line) = true := by rfl) (hs : starEach (e :: es) X.env = (false, eval e X.env) :: starEach es X.env := by rfl) (hplain : (backTo cpos (starEach es X.env)).any (·.1) = false := by rfl) :
    PE X (.Call (.Attribute o name apos) (e :: es) [] cpos) (tMT X.K r to t) := ⟨fun pins s σ H Q I h =>
  wpAny_Call_method_late hbase hfew hline rfl (thn (ho.run pins s σ H _ I h) fun v s1 ⟨x, H1, I1, r1, ⟨ad, ys, ex, hq, nd⟩, q1⟩ => by
    subst ex
    cases r1
    obtain ⟨its, _, ⟨ob, hob, hc, _⟩, _⟩ := I1.tuple hq
    refine ⟨"tuple", id, pa, slot, hty, ⟨ob, hob, hc⟩, fun a' e' => ?_, ?_⟩
    · cases e'
      exact nd.at I1
    · have hA := ha.run cpos pins s1 σ H1 _ I1 q1
      rw [hs] at hA ⊢
      refine Calls.callWith_builtin (by show (false || (backTo cpos (starEach es X.env)).any (·.1)) = false; rw [hplain] <;> rfl) (Calls.evalArgs_plain ?_)
      exact thn hA fun us s2 ⟨vs, H2, I2, r2, q2⟩ => hm pins s2 σ H2 (.ref ad) vs (.ref ad) us Q I2 rfl r2 q2)⟩
/-- the first place -/
def ixD (y : PyData) : List PyData → Option Nat
  | [] => none
  | x :: xs => if PyData.eqv x y = true then some 0 else (ixD y xs).map (· + 1)
theorem ixD_some {y : PyData} : ∀ {xs : List PyData} {j : Nat}, ixD y xs = some j → (∃ z, xs[j]? = some z ∧ PyData.eqv z y = true) ∧ ∀ m z, m < j → xs[m]? = some z → PyData.eqv z y = false
  | [], _, h => by cases h
  | x :: xs, j, h => by
    unfold ixD at h
    split at h
    · rename_i q
      cases h
      exact ⟨⟨x, rfl, q⟩, fun m z hm => absurd hm (Nat.not_lt_zero _)⟩
    · rename_i q
      obtain ⟨k, h1, h2⟩ := Option.map_eq_some_iff.mp h
      subst h2
      obtain ⟨⟨z, e1, e2⟩, e3⟩ := ixD_some h1
      refine ⟨⟨z, e1, e2⟩, fun m z' hm e => ?_⟩
      cases m with
      | zero =>
        cases e
        cases hx : PyData.eqv x y with
        | true => exact absurd hx q
        | false => rfl
      | succ m => exact e3 m z' (Nat.lt_of_succ_lt_succ hm) e
def gTix : PyData → PyData → Option Res
  | .tuple ys, y => if flatD y = true ∧ ys.all flatD = true then (ixD y ys).map fun j => .fz (.int (j : Nat)) else none
  | _, _ => none
def fTix (fa fb : FE) : FE := fun ρ => (fa ρ).bind fun a => (fb ρ).bind fun b => gTix a.rd b.rd
theorem d_tix (kt : KTup X.K) (ha : DE X a fa) (hb : DE X b fb)
    (hbase : attributeBase a "index" X.env (eval a X.env) = eval a X.env := by rfl)
    (hfew : ((backTo cpos (starEach [b] X.env)).all (fun x => !x.1) && (backToKw cpos (keywordEach [] X.env)).all (fun x => x.1.isSome)
      && decide (([b] : List Expr).length + ([] : List Keyword).length + (if ([] : List Keyword).isEmpty then 0 else 1) < 30)) = true := by rfl)
    (hline : (apos.endLine == cpos.line) = true := by rfl) (hs : starEach [b] X.env = (false, eval b X.env) :: starEach [] X.env := by rfl) (hplain : (backTo cpos (starEach [] X.env)).any (·.1) = false := by rfl) :
    DE X (.Call (.Attribute a "index" apos) [b] [] cpos) (fTix fa fb) := pe_mono (pe_mt PySem.F.slot_tuple_index PySem.F.plainAttrs_tuple PySem.F.type_tuple_index mt_tix ha (pa_cons hb pa_nil hs) hbase hfew hline hs hplain) fun σ H Q h => by
  obtain ⟨B, Hf, ρ, r, er, hf, k⟩ := h
  unfold fTix at hf
  obtain ⟨ra, h1, hf⟩ := Option.bind_eq_some_iff.mp hf
  obtain ⟨rb, h2, hf⟩ := Option.bind_eq_some_iff.mp hf
  refine ⟨B, Hf, ρ, ra, er, h1, fun v Hf1 H1 g1 q1 => ?_⟩
  have er1 := er.grow g1
  unfold gTix at hf
  split at hf
  · rename_i ys hr
    split at hf
    · rename_i fl
      obtain ⟨j, h3, h4⟩ := Option.map_eq_some_iff.mp hf
      subst h4
      obtain ⟨p, vs, rfl, s1, d1⟩ := q1.tup hr
      refine ⟨⟨p, vs, rfl, sqt_mono g1.fh s1, nod_of er1.bn kt g1.fh s1⟩, B, Hf1, ρ, rb, er1, h2, fun u Hf2 H2 g2 q2 => ?_⟩
      have d2 := dpa_mono g2.f _ _ d1
      have d2' := dpa_mono g2.fh _ _ d2
      have du := q2.dp g2.fh
      obtain ⟨⟨z, e1, e2⟩, e3⟩ := ixD_some h3
      obtain ⟨w, f1, f2⟩ := dpa_get d2' e1
      have fz : ∀ (m : Nat) (d : PyData), ys[m]? = some d → flatD d = true := fun m d e => List.all_eq_true.mp fl.2 d (List.mem_of_getElem? e)
      refine ⟨p, vs, u, j, w, rfl, rfl, sqt_mono g2.fh (sqt_mono g2.f s1), flat_of du fl.1, flats_of d2' fl.2, f1, ?_, fun m z' hm hz' => ?_, k _ Hf2 H2 (g1.trans g2) (Dp.int _)⟩
      · rw [eqV_of f2 du (fz j z e1) fl.1]
        exact e2
      · have hlt : m < ys.length := by rw [← dpa_len d2']; exact (List.getElem?_eq_some_iff.mp hz').1
        obtain ⟨w2, f3, f4⟩ := dpa_get d2' (getE hlt)
        rw [f3] at hz'
        cases hz'
        rw [eqV_of f4 du (fz m _ (getE hlt)) fl.1]
        exact e3 m _ hm (getE hlt)
    · cases hf
  · cases hf
@[simp] theorem fTix_eq {ρ : Rho} : fTix fa fb ρ = (fa ρ).bind fun a => (fb ρ).bind fun b => gTix a.rd b.rd := (rfl)
@[simp] theorem gTix_t {ys : List PyData} {y : PyData} : gTix (.tuple ys) y = if flatD y = true ∧ ys.all flatD = true then (ixD y ys).map fun j => .fz (.int (j : Nat)) else none := (rfl)
end
end DL
namespace DL
open PySem PySem.Spec PyProof.Rows L2
section
variable {X : Cx} {a b c e o k1 v1 k2 v2 y x : Expr} {es : List Expr} {st : Stmt} {fa fb fc fk1 fv1 fk2 fv2 fy fx : FE} {fs : FA} {pos apos cpos p dpos : Pos}
/-! ### {k1: v1, k2: v2}.get(y, x), keys ints -/
def fzI (r : Res) : Option Int := match r with
  | .fz (.int i) => some i
  | _ => none
def fzD (r : Res) : Option PyData := match r with
  | .fz d => some d
  | _ => none
theorem fzI_some {r : Res} {i : Int} (h : fzI r = some i) : r = .fz (.int i) := by
  unfold fzI at h
  split at h
  · cases h; rfl
  · cases h
theorem fzD_some {r : Res} {d : PyData} (h : fzD r = some d) : r = .fz d := by
  unfold fzD at h
  split at h
  · cases h; rfl
  · cases h
def fDg2 (fk1 fv1 fk2 fv2 fy fx : FE) : FE := fun ρ => ((fk1 ρ).bind fzI).bind fun i1 => ((fv1 ρ).bind fzD).bind fun d1 => ((fk2 ρ).bind fzI).bind fun i2 => ((fv2 ρ).bind fzD).bind fun d2 => ((fy ρ).bind fzI).bind fun j => ((fx ρ).bind fzD).map fun d => .fz (if j = i2 then d2 else if j = i1 then d1 else d)
theorem merge2 {i1 i2 j : Int} {w1 w2 : V} : valV (mergeK [] [((Sum.inl i1 : Key), w1), (Sum.inl i2, w2)]) (Sum.inl j) = if j = i2 then some w2 else if j = i1 then some w1 else none := by
  show valV (putK (putK [] (Sum.inl i1) w1) (Sum.inl i2) w2) (Sum.inl j) = _
  rw [valV_put, valV_put]
  by_cases z2 : j = i2
  · rw [if_pos z2, if_pos (congrArg Sum.inl z2)]
  · rw [if_neg z2, if_neg (fun q => z2 (Sum.inl.inj q))]
    by_cases z1 : j = i1
    · rw [if_pos z1, if_pos (congrArg Sum.inl z1)]
    · rw [if_neg z1, if_neg (fun q => z1 (Sum.inl.inj q))]
      rfl
theorem d_dg2 {k : Nat} (hr : Room k X.A) (hk1 : DE X k1 fk1) (hv1 : DE X v1 fv1) (hk2 : DE X k2 fk2) (hv2 : DE X v2 fv2) (hy : DE X y fy) (hx : DE X x fx) (m : M2 X (.Dict [some k1, some k2] [v1, v2] dpos) "get" apos y x cpos := by exact ⟨rfl, rfl, rfl, rfl⟩) :
    DE X (.Call (.Attribute (.Dict [some k1, some k2] [v1, v2] dpos) "get" apos) [y, x] [] cpos) (fDg2 fk1 fv1 fk2 fv2 fy fx) := pe_mono (pe_dget2 (by have := hr.units; omega) (pe_disp (pps_cons hk1 hv1 (pps_cons hk2 hv2 pps_nil)) rfl rfl (fun z => by cases z) (by show 2 ≤ 15; omega)) hy hx m) fun σ H Q h => by
  obtain ⟨B, Hf, ρ, r, er, hf, k⟩ := h
  unfold fDg2 at hf
  obtain ⟨i1, h1, hf⟩ := Option.bind_eq_some_iff.mp hf
  obtain ⟨d1, h2, hf⟩ := Option.bind_eq_some_iff.mp hf
  obtain ⟨i2, h3, hf⟩ := Option.bind_eq_some_iff.mp hf
  obtain ⟨d2, h4, hf⟩ := Option.bind_eq_some_iff.mp hf
  obtain ⟨j, h5, hf⟩ := Option.bind_eq_some_iff.mp hf
  obtain ⟨d, h6, hf⟩ := Option.map_eq_some_iff.mp hf
  obtain ⟨r1, a1, b1⟩ := Option.bind_eq_some_iff.mp h1
  obtain ⟨r2, a2, b2⟩ := Option.bind_eq_some_iff.mp h2
  obtain ⟨r3, a3, b3⟩ := Option.bind_eq_some_iff.mp h3
  obtain ⟨r4, a4, b4⟩ := Option.bind_eq_some_iff.mp h4
  obtain ⟨r5, a5, b5⟩ := Option.bind_eq_some_iff.mp h5
  obtain ⟨r6, a6, b6⟩ := Option.bind_eq_some_iff.mp h6
  have b1 := fzI_some b1
  have b2 := fzD_some b2
  have b3 := fzI_some b3
  have b4 := fzD_some b4
  have b5 := fzI_some b5
  have b6 := fzD_some b6
  subst b1 b2 b3 b4 b5 b6 hf
  intro P hP
  have gN : Gr Hf H Hf (upd H P (.dK [])) := Gr.newU er.fh hP
  have fP : Hf P = none := er.fh.free hP
  have er0 := er.grow gN
  refine ⟨B, Hf, ρ, _, er0, a1, fun u1 Hf1 H1 g1 q1 => ⟨B, Hf1, ρ, _, er0.grow g1, a2, fun u2 Hf2 H2 g2 q2 => ⟨B, Hf2, ρ, _, (er0.grow g1).grow g2, a3, fun u3 Hf3 H3 g3 q3 => ⟨B, Hf3, ρ, _, ((er0.grow g1).grow g2).grow g3, a4, fun u4 Hf4 H4 g4 q4 => ?_⟩⟩⟩⟩
  have G := ((g1.trans g2).trans g3).trans g4
  have P4 : H4 P = some (.dK []) := G.h _ _ upd_same
  have F4 : Hf4 P = none := G.un P _ upd_same fP
  refine ⟨P4, [((Sum.inl i1 : Key), u2), (Sum.inl i2, u4)], ?_, (by show 2 ≤ 15; omega), ?_⟩
  · have e1 : u1 = .int i1 := q1.int rfl
    have e3 : u3 = .int i2 := q3.int rfl
    rw [e1, e3]
    rfl
  -- the dict stands
  have er4 := (((er0.grow g1).grow g2).grow g3).grow g4
  have BP : B P = none := er.bh.free hP
  have gM : Gr Hf H Hf4 (upd H4 P (.dK (mergeK [] [((Sum.inl i1 : Key), u2), (Sum.inl i2, u4)]))) := ⟨G.f, fun b ob q => by
    have nb : b ≠ P := fun z => by rw [z, hP] at q; cases q
    rw [upd_ne nb]
    exact G.h _ _ (by rw [upd_ne nb]; exact q), same_mut G.fh F4, fun b ob q n => G.un b ob (by
    have nb : b ≠ P := fun z => by rw [z, hP] at q; cases q
    rw [upd_ne nb]; exact q) n, G.bn⟩
  have erM := er.grow gM
  refine ⟨P, rfl, .inl ⟨_, .of upd_same⟩, B, Hf4, ρ, _, erM, a5, fun u5 Hf5 H5 g5 q5 => ⟨B, Hf5, ρ, _, erM.grow g5, a6, fun u6 Hf6 H6 g6 q6 => ?_⟩⟩
  have e5 : u5 = .int j := q5.int rfl
  subst e5
  refine ⟨_, DGet.k (k := Sum.inl j) (g6.h _ _ (g5.h _ _ upd_same)), ?_⟩
  rw [merge2]
  refine k _ Hf6 H6 ((gM.trans g5).trans g6) ?_
  have p2 : Dp X.K Hf6 u2 d1 := dp_mono ((((g3.f.trans g4.f).trans g5.f)).trans g6.f) _ _ q2
  have p4 : Dp X.K Hf6 u4 d2 := dp_mono (g5.f.trans g6.f) _ _ q4
  show Dp X.K Hf6 _ _
  by_cases z2 : j = i2
  · rw [if_pos z2, if_pos z2]; exact p4
  · rw [if_neg z2, if_neg z2]
    by_cases z1 : j = i1
    · rw [if_pos z1, if_pos z1]; exact p2
    · rw [if_neg z1, if_neg z1]; exact q6
end
end DL
namespace DL
open PySem PySem.Spec PyProof.Rows L2
section
variable {X : Cx} {a b c1 c2 e o x y : Expr} {es : List Expr} {st : Stmt} {fa fb fc fc1 fc2 : FE} {fs : FA} {pos apos cpos p dpos : Pos}
/-! ### xs[i], xs[j] = a, b -/
def putR (i : Nat) (fc : FE) (d : PyData) : Rho → Option Rho := fun ρ => (fc ρ).bind fun j => match ρ[i]?, j.rd with
  | some (.own xs), .int n => (ixN xs.length n).map fun m => ρ.set i (.own (xs.set m d))
  | _, _ => none
theorem ent_putR {K : PySem.W.Frag} {B Hf H : Hp} {σ : L2.St} {ρ ρ' : Rho} {i : Nat} {v : V} {d : PyData} {Q : Hp → Prop} (er : ER K B Hf H σ ρ) (hd : Dp K Hf v d) (h : putR i fc d ρ = some ρ') (k : ∀ Hf' H', GB B Hf Hf' → ER K B Hf' H' σ ρ' → Q H') :
    tVar i σ H fun o H1 => tD K fc σ H1 fun j H2 => rSetL o j v H2 fun H3 => Q H3 := by
  unfold putR at h
  obtain ⟨rj, h1, h2⟩ := Option.bind_eq_some_iff.mp h
  split at h2
  · rename_i xs n hs hj
    obtain ⟨m, h3, h4⟩ := Option.map_eq_some_iff.mp h2
    subst h4
    obtain ⟨l, hl⟩ := er.at hs
    refine ⟨.ref l, hl, B, Hf, ρ, rj, er, h1, fun w Hf1 H1 g1 q1 => ?_⟩
    have er1 := er.grow g1
    obtain ⟨b1, b2, ws, b3, b4⟩ := er1.own_there hs hl
    refine ⟨l, ws, n, m, rfl, q1.int hj, b3, by rw [dpa_len b4]; exact h3, ?_⟩
    exact k Hf1 _ (g1.gb er.bh) (er1.put hs hl (dpa_set (dp_mono g1.f _ _ hd) m b4))
  · cases h2
def gSwap (i : Nat) (fc1 fc2 : FE) (fs : FA) : FS := fun ρ => (fs ρ).bind fun rs => (frs rs).bind fun ds => match ds with
  | [d1, d2] => (putR i fc1 d1 ρ).bind fun ρ1 => (putR i fc2 d2 ρ1).map .nx
  | _ => none
theorem s_swap {x : Str} {p1 p2 t1 t2 pt pt2 : Pos} {kt k2} (i : Nat) (hN : X.N.Nodup) (ha : DA X [a, b] fs) (h1 : DE X c1 fc1) (h2 : DE X c2 fc2) (hi : X.N[i]? = some x := by rfl) (hv : Vis X.env.scope x := by first | exact Or.inl rfl | exact Or.inr (Or.inl rfl) | exact Or.inr (Or.inr rfl))
    (hd : (x == ("__debug__" : Str)) = false := by decide) (hcd : (x == ("__classdict__" : Str)) = false := by decide) (hc : X.calm = true := by rfl)
    (hs : swapsWithSole [.Tuple [.Subscript (.Name x p1) c1 t1, .Subscript (.Name x p2) c2 t2] kt pt] (.Tuple [a, b] k2 pt2) pos.line X.env = pure false := by rfl) (hw : swappedStores [.Tuple [.Subscript (.Name x p1) c1 t1, .Subscript (.Name x p2) c2 t2] kt pt] (.Tuple [a, b] k2 pt2) X.env = pure none := by rfl)
    (he : (assignEach [.Tuple [.Subscript (.Name x p1) c1 t1, .Subscript (.Name x p2) c2 t2] kt pt] X.env).map (·.2) = [assign (.Tuple [.Subscript (.Name x p1) c1 t1, .Subscript (.Name x p2) c2 t2] kt pt) X.env] := by rfl)
    (hp : PG X (.Tuple [.Subscript (.Name x p1) c1 t1, .Subscript (.Name x p2) c2 t2] kt pt) (gTup X.K 2 (L2.gCons (gSub (tVar i) (tD X.K fc1) rSetL) (L2.gCons (gSub (tVar i) (tD X.K fc2) rSetL) L2.gNil)))) :
    DS X (.Assign [.Tuple [.Subscript (.Name x p1) c1 t1, .Subscript (.Name x p2) c2 t2] kt pt] (.Tuple [a, b] k2 pt2) pos) (gSwap i fc1 fc2 fs) := ps_mono (ps_asg (pe_tupF ha) hp hs hw he) fun D σ H h => by
  obtain ⟨B, Hf, ρ, o, er, hg, k⟩ := h
  unfold gSwap at hg
  obtain ⟨rs, q1, q2⟩ := Option.bind_eq_some_iff.mp hg
  obtain ⟨ds, q3, q4⟩ := Option.bind_eq_some_iff.mp q2
  split at q4
  · obtain ⟨ρ1, q5, q6⟩ := Option.bind_eq_some_iff.mp q4
    obtain ⟨ρ2, q7, q8⟩ := Option.map_eq_some_iff.mp q6
    subst q8
    refine ⟨B, Hf, ρ, rs, er, q1, fun vs Hf1 H1 g1 qq => ?_⟩
    obtain ⟨Hf2, g2, s2, d2⟩ := RRs.freeze er g1 qq q3
    obtain ⟨v1, v2, rfl, a1, a2⟩ : ∃ v1 v2, vs = [v1, v2] ∧ Dp X.K Hf2 v1 _ ∧ Dp X.K Hf2 v2 _ := by
      cases d2 with
      | cons a1 t1 =>
        cases t1 with
        | cons a2 t2 =>
          cases t2
          exact ⟨_, _, rfl, a1, a2⟩
    refine ⟨by show 2 ≤ sizeLine; rw [sizeLine_eq]; omega, fun pt ob hpt hob => ?_⟩
    have g3 : Gr Hf H Hf2 (upd H1 pt (.frz ob (.tup [v1, v2]))) := g2.trans (Gr.newU g2.fh hpt)
    have er3 := er.grow g3
    refine ⟨pt, _, rfl, sqt_frz upd_same, rfl, _, _, rfl, ?_⟩
    refine ent_putR er3 a1 q5 fun Hf4 H4 g4 er4 => ?_
    refine ⟨_, _, rfl, ?_⟩
    refine ent_putR er4 (dp_mono g4.f _ _ a2) q7 fun Hf5 H5 g5 er5 => ?_
    exact ⟨rfl, k σ Hf5 H5 (((g3.gb er.bh).trans g4).trans g5) er5⟩
  · cases q4
/-! ### ys.append(xs.pop(e)) -/
def gAppPop (i j : Nat) (f : FE) : FS := fun ρ => match ρ[i]?, ρ[j]? with
  | some (.own ys), some (.own xs) => (f ρ).bind fun r => match r.rd with
    | .int n => if -(2 ^ 63) ≤ n ∧ n < 2 ^ 63 ∧ small ys.length then (seqIndex? n xs.length).bind fun m => (xs[m]?).map fun d => .nx ((ρ.set j (.own (xs.eraseIdx m))).set i (.own (ys ++ [d]))) else none
    | _ => none
  | _, _ => none
theorem dpa_erase {K : PySem.W.Frag} {H : Hp} : ∀ {vs : List V} {ds : List PyData} (m : Nat), DpAll K H vs ds → DpAll K H (vs.eraseIdx m) (ds.eraseIdx m)
  | _, _, _, .nil => by rw [List.eraseIdx_nil, List.eraseIdx_nil]; exact .nil
  | _, _, 0, .cons a t => by rw [List.eraseIdx_zero, List.eraseIdx_zero]; exact t
  | _, _, m + 1, .cons a t => by rw [List.eraseIdx_cons_succ, List.eraseIdx_cons_succ]; exact .cons a (dpa_erase m t)
theorem s_apppop {x y : Str} {p q apos bpos cpos dpos : Pos} (i j : Nat) (hij : i ≠ j) (ha : DE X e fa) (hp : PS X (.Expr (.Call (.Attribute (.Name y q) "append" apos) [.Call (.Attribute (.Name x p) "pop" bpos) [e] [] dpos] [] cpos) pos) (tDrop (tBM X.K "list" rAppend (tVar i) (tCons (tBM X.K "list" rPopAt (tVar j) (tCons (tD X.K fa) tNil)) tNil)))) :
    DS X (.Expr (.Call (.Attribute (.Name y q) "append" apos) [.Call (.Attribute (.Name x p) "pop" bpos) [e] [] dpos] [] cpos) pos) (gAppPop i j fa) := ps_mono hp fun D σ H h => by
  obtain ⟨B, Hf, ρ, o, er, hg, k⟩ := h
  unfold gAppPop at hg
  split at hg
  · rename_i ys xs hy hx
    obtain ⟨r, h1, h2⟩ := Option.bind_eq_some_iff.mp hg
    split at h2
    · rename_i n hn
      split at h2
      · rename_i hz
        obtain ⟨m, h3, h4⟩ := Option.bind_eq_some_iff.mp h2
        obtain ⟨d, h5, h6⟩ := Option.map_eq_some_iff.mp h4
        subst h6
        obtain ⟨l, hl⟩ := er.at hy
        obtain ⟨l2, hl2⟩ := er.at hx
        obtain ⟨_, _, ws0, w0, _⟩ := er.own_there hy hl
        obtain ⟨_, _, us0, w1, _⟩ := er.own_there hx hl2
        have ne : l ≠ l2 := fun z => er.dj i j ys xs l hij hy hx hl (z ▸ hl2)
        refine ⟨.ref l, hl, .inl ⟨rfl, _, SqL.of w0⟩, .ref l2, hl2, .inl ⟨rfl, _, SqL.of w1⟩, B, Hf, ρ, r, er, h1, fun v Hf1 H1 g1 q1 => ?_⟩
        have er1 := er.grow g1
        obtain ⟨a1, a2, ws, a3, a4⟩ := er1.own_there hy hl
        obtain ⟨b1, b2, us, b3, b4⟩ := er1.own_there hx hl2
        obtain ⟨vd, c1, c2⟩ := dpa_get b4 h5
        refine ⟨l2, us, n, m, vd, rfl, by rw [q1.int hn], b3, hz.1, hz.2.1, by rw [dpa_len b4]; exact h3, c1, ?_⟩
        have er2 := er1.put hx hl2 (dpa_erase m b4)
        have hy2 : (ρ.set j (Slot.own (xs.eraseIdx m)))[i]? = some (.own ys) := by rw [List.getElem?_set_ne (Ne.symm hij)]; exact hy
        have H2l : upd H1 l2 (.lst (us.eraseIdx m)) l = some (.lst ws) := by rw [upd_ne ne]; exact a3
        refine ⟨l, ws, vd, rfl, rfl, H2l, by rw [dpa_len a4]; exact Nat.lt_of_le_of_lt hz.2.2 (by decide), ?_⟩
        have er3 := er2.put hy2 hl (dpa_app a4 (.cons c2 .nil))
        exact k σ Hf1 _ (g1.gb er.bh) er3
      · cases h2
    · cases h2
  · cases hg
@[simp] theorem putR_eq {i : Nat} {d : PyData} {ρ : Rho} {f : FE} : putR i f d ρ = (f ρ).bind fun j => match ρ[i]?, j.rd with
  | some (.own xs), .int n => (ixN xs.length n).map fun m => ρ.set i (.own (xs.set m d))
  | _, _ => none := (rfl)
end
/-- no written tuple has a dict of its own, asked of the written part -/
def ktupB : List (Addr × Obj) → Bool
  | [] => true
  | p :: r => (match p.2.dict with
    | none => true
    | some _ => match p.2.cls with
      | .type t => t != "tuple"
      | _ => true) && ktupB r
theorem ktup_of : ∀ {K : PySem.W.Frag}, ktupB K = true → KTup K
  | [], _ => fun a ob e => by cases e
  | (b, o) :: r, h => fun a ob e hc => by
    unfold ktupB at h
    rw [Bool.and_eq_true] at h
    rw [List.lookup_cons] at e
    split at e
    · cases e
      have q := h.1
      cases hd : o.dict with
      | none => rfl
      | some d =>
        simp only [hd, hc] at q
        exact absurd q (by decide)
    · exact ktup_of h.2 a ob e hc
end DL
/-! sorted(t) of a tuple of ints, sorted(xs) of a list of ints -/
namespace DL
open PySem PySem.Spec PyProof.Rows L2
section
variable {prog : Program} {w : World} {A : Around} {E : Value → Shared → Prop} {s : Shared}
theorem gather_tup {l : Addr} {vs : List Value} {Q : List Value → Shared → Prop} (hl : IsTup s.heap l vs.toArray) (small : vs.length ≤ sizeLine)
    (h : Q vs { s with heap := (s.heap.push (seqObj "list" #[] 0)).update s.heap.objs.size (Obj.mapSeq (· ++ vs.toArray)) }) : wpAny (model prog w) A (collect (.ref l)) Q E s := by
  obtain ⟨ob, there, kind, m, items⟩ := hl
  unfold collect
  refine wpAny_bind (wpAny_runValue (codeAny_builtin entry_proto_collect' ?_))
  show wpAny _ _ (do again (.builtin "list.__iadd__" ⟨[← newList [], .ref l], []⟩)) _ _ s
  refine wpAny_bind (wpAny_newList (wpAny_pure ⟨Code.quiet_builtin _ (by decide +kernel), codeAny_builtin entry_list_iadd' ?_⟩))
  show wpAny _ _ (Builtin.List.listExtendWith (.ref s.heap.objs.size) (.ref l) (.ref s.heap.objs.size)) _ _ { s with heap := s.heap.push (seqObj "list" #[] 0) }
  unfold Builtin.List.listExtendWith
  have there' : (s.heap.push (seqObj "list" #[] 0)).get? l = some ob := Heap.get?_push_of_some _ there
  refine wpAny_bind (wpAny_typeOf (T := "tuple") ⟨ob, there', kind⟩ ?_)
  rw [if_pos (by rw [show (Value.type "tuple" == Value.type "tuple") = true from rfl]; simp)]
  refine wpAny_bind (listItems_at there' items ?_)
  refine wpAny_bind (listItems_at (xs := #[]) (n := 0) (Heap.get?_push_size _ rfl) rfl ?_)
  rw [if_neg (by simp)]
  refine wpAny_bind (listUpdate_at (xs := #[]) (n := 0) (Heap.get?_push_size _ rfl) rfl ?_ (Nat.zero_le _) (by show (#[] ++ vs.toArray).size ≤ sizeLine + 1; simp only [Array.size_append, List.size_toArray, List.length_nil]; omega))
  refine wpAny_pure ?_
  refine wpAny_bind (wpAny_load (get?_update_seq (Heap.get?_push_size _ rfl) _) ?_)
  show wpAny _ _ (pure ((#[] : Array Value) ++ vs.toArray).toList) Q E _
  rw [show ((#[] : Array Value) ++ vs.toArray).toList = vs by simp]
  exact wpAny_pure h
/-- sorted(t): as of a list, once its items are gathered -/
theorem sorted_tup {l : Addr} {vs : List Value} {ltv : Value → Value → Bool} {Q : Value → Shared → Prop} (O : SrtO.Swo ltv) (hl : IsTup s.heap l vs.toArray) (small : vs.length ≤ sizeLine)
    (hS : 2 ≤ vs.length → ∀ (g : Heap) (a : Addr), g.get? a = some (seqObj "list" vs.toArray 0) → (∀ b o, s.heap.get? b = some o → b ≠ a ∧ g.get? b = some o) → SrtO.SortableO prog w A.in1.in1 { s with heap := g } a vs ltv)
    (h : ∀ out : List Value, SrtO.Srtd ltv out → SrtO.Stb ltv out vs → Q (.ref (s.heap.objs.size + 1)) { s with heap := sortedAll s.heap vs out.toArray }) : wpAny (model prog w) A (call (.builtin "sorted") [.ref l]) Q E s := by
  refine Calls.call_function_entry kind_sorted plain_sorted entry_sorted (args_sorted1 _) ?_
  unfold Builtin.«sorted»
  refine wpAny_bind (m := checkCount "sorted" 1 1 _) (wpAny_pure ?_)
  refine wpAny_bind (gather_tup hl small ?_)
  refine wpAny_bind (wpAny_newList ?_ small)
  generalize hG : (s.heap.push (seqObj "list" #[] 0)).update s.heap.objs.size (Obj.mapSeq (· ++ vs.toArray)) = G
  have hsz : G.objs.size = s.heap.objs.size + 1 := by rw [← hG, Heap.size_update, size_push']
  have old : ∀ b o, s.heap.get? b = some o → G.get? b = some o ∧ b < s.heap.objs.size := fun b o q => by
    have hlt : b < s.heap.objs.size := Heap.lt_size q
    rw [← hG, Heap.get?_update_ne _ _ _ _ (Nat.ne_of_lt hlt)]
    exact ⟨Heap.get?_push_of_some _ q, hlt⟩
  have hoL : (G.push (seqObj "list" vs.toArray 0)).get? (s.heap.objs.size + 1) = some (seqObj "list" vs.toArray 0) := by
    rw [← hsz]; exact Heap.get?_push_size _ rfl
  show wpAny _ _ _ _ _ { s with heap := G.push (seqObj "list" vs.toArray 0) }
  rw [hsz]
  refine wpAny_bind (wpAny_holding (wpAny_call_entry slot_list_sort ⟨_, hoL, rfl⟩ entry_list_sort (SrtO.list_sort_ord O hoL small (fun h2 => hS h2 _ _ hoL fun b o q => ⟨Nat.ne_of_lt (Nat.lt_succ_of_lt (old b o q).2), Heap.get?_push_of_some _ (old b o q).1⟩) fun out hs hb => ⟨_, rfl, ?_⟩) (args_list_sort _)))
  subst hG
  exact wpAny_pure ⟨_, rfl, h out hs hb⟩
end
def rSortF (K : PySem.W.Frag) : List V → Hp → VK → Prop := fun vs H Q => ∃ (a : Addr) (ns : List Int), vs = [V.ref a] ∧ (SqL K H a (ns.map V.int) ∨ SqT K H a (ns.map V.int)) ∧
  ∀ (ms : List Int) (p : Addr), ms.Perm ns → ms.Pairwise (· ≤ ·) → H p = none → Q (.ref p) (upd H p (.lst (ms.map V.int)))
theorem cr_sortF {X : Cx} : CallR X (.builtin "sorted") (rSortF X.K) := fun pins s σ H vs us Q I r h => by
  obtain ⟨a, ns, rfl, hs | hs, q⟩ := h
  · exact cr_sortedI pins s σ H [V.ref a] us Q I r ⟨a, ns, rfl, hs, q⟩
  · obtain ⟨items, rel, hl, small⟩ := I.tuple hs
    rw [Vals.ref1 r]
    have hi := rel.ints
    refine sorted_tup SrtO.swo_int hl (by rw [← rel.length]; exact small) (fun h2 g a' _ _ => SrtO.ints_sortable hi h2) fun out h1 h2 => ?_
    obtain ⟨k1, k2, k3⟩ := SrtO.ints_out hi h1 h2
    obtain ⟨ep, there⟩ := PyProof.Rows.sortedAll_at s.heap items out.toArray
    have len : ((out.map SrtO.iv).map V.int).length ≤ sizeLine := by rw [List.length_map, k2.length_eq]; simpa using small
    exact ⟨.ref _, upd H (s.heap.objs.size + 1) (.lst ((out.map SrtO.iv).map V.int)), I.laid (t' := s.toks) (fun _ _ => PyProof.Rows.sortedAll_old) (Nat.le_succ _) ⟨len, out, ep, vals_of_ints k1, there⟩, rfl, q _ _ k2 k3 (I.hok.fresh (Nat.le_succ _))⟩
/-- the ints in order -/
def ordI (ns : List Int) : List Int := ns.mergeSort fun a b => decide (a ≤ b)
theorem ordI_perm (ns : List Int) : (ordI ns).Perm ns := List.mergeSort_perm _ _
theorem ordI_le (ns : List Int) : (ordI ns).Pairwise (· ≤ ·) := by
  have q := List.pairwise_mergeSort (le := fun a b : Int => decide (a ≤ b)) (fun a b c h1 h2 => by simp at *; omega) (fun a b => by simp; omega) ns
  exact q.imp fun h => of_decide_eq_true h
theorem ordI_uniq {ms ns : List Int} (p : ms.Perm ns) (h : ms.Pairwise (· ≤ ·)) : ms = ordI ns :=
  List.Perm.eq_of_pairwise (le := (· ≤ ·)) (fun a b _ _ h1 h2 => Int.le_antisymm h1 h2) h (ordI_le ns) (p.trans (ordI_perm ns).symm)
def gSorted : List PyData → Option Res
  | [.list xs] => (intsOf xs).map fun ns => .nw ((ordI ns).map PyData.int)
  | [.tuple xs] => (intsOf xs).map fun ns => .nw ((ordI ns).map PyData.int)
  | _ => none
theorem c_sorted {K : PySem.W.Frag} : OpC K (rSortF K) gSorted := fun B H0 Hf H vs rs c Q e1 e2 q hg k => by
  unfold gSorted at hg
  split at hg
  · rename_i xs h
    obtain ⟨ns, h1, h2⟩ := Option.map_eq_some_iff.mp hg
    subst h2
    obtain ⟨a, rfl, s⟩ := q.ints e1 h h1
    refine ⟨a, ns, rfl, .inl s, fun ms p pm po hp => ?_⟩
    have e := ordI_uniq pm po
    subst e
    exact k _ _ _ (Gr.newU e1 hp) ⟨p, _, rfl, hp, e1.free hp, upd_same, dpa_ints _⟩
  · rename_i xs h
    obtain ⟨ns, h1, h2⟩ := Option.map_eq_some_iff.mp hg
    subst h2
    obtain ⟨v, r, rfl, rfl, hr, q1⟩ := q.one h
    obtain ⟨p0, ws, rfl, s1, d1⟩ := q1.tup hr
    rw [intsOf_some h1] at d1
    have ew := dpa_ints' d1
    subst ew
    refine ⟨p0, ns, rfl, .inr (sqt_mono e1 s1), fun ms p pm po hp => ?_⟩
    have e := ordI_uniq pm po
    subst e
    exact k _ _ _ (Gr.newU e1 hp) ⟨p, _, rfl, hp, e1.free hp, upd_same, dpa_ints _⟩
  · cases hg
@[simp] theorem gSorted_l {xs : List PyData} : gSorted [.list xs] = (intsOf xs).map fun ns => .nw ((ordI ns).map PyData.int) := (rfl)
@[simp] theorem gSorted_t {xs : List PyData} : gSorted [.tuple xs] = (intsOf xs).map fun ns => .nw ((ordI ns).map PyData.int) := (rfl)
end DL
/-! xs[a:b] = t with a tuple on the right; t[::2]; xs.insert(i, y) -/
namespace DL
open PySem PySem.Spec PyProof.Rows L2 HT
section
variable {prog : Program} {w : World} {A : Around} {E : Value → Shared → Prop} {s : Shared}
set_option maxRecDepth 100000 in
theorem put_cut_tup {p q sl : Addr} {old new : Array Value} {n : Nat} {vl vu : Value} {a c : Nat} {Q : Unit → Shared → Prop}
    (ep : s.heap.get? p = some { cls := .type "list", data := .seq old n }) (hq : IsTup s.heap q new) (hne : p ≠ q)
    (hsl : s.heap.IsSliceOf sl vl vu .none) (p1 : IsPart vl (some (a : Int))) (p2 : IsPart vu (some (c : Int))) (hac : a ≤ c) (hc : c ≤ old.size)
    (hsz : old.size + new.size ≤ sizeLine) (h : Q () { s with heap := s.heap.update p (Obj.mapSeq fun xs => xs.extract 0 a ++ new ++ xs.extract c xs.size) }) :
    wpAny (model prog w) A (setItem (.ref p) (.ref sl) (.ref q)) Q E s := by
  have hp : s.heap.IsList p old := PySem.IsL.isList ep
  obtain ⟨oq, hoq, hcq, nq, hdq⟩ := id hq
  obtain ⟨os, hos, hcs, hds⟩ := id hsl
  have tsl : s.TypeIs (.ref sl) "slice" := ⟨os, hos, hcs⟩
  have nstep : ¬ ((rawPart none == rawInt 0) = true) := Bool.false_ne_true
  have nsame : Builtin.List.listSameRef (.ref p) (.ref q) = false := by
    unfold Builtin.List.listSameRef
    exact beq_eq_false_iff_ne.mpr hne
  have emax : (max (a : Int) (c : Int)).toNat = c := by omega
  have z2 : ((fun xs : Array Value => xs.extract 0 a ++ new ++ xs.extract c xs.size) old).size ≤ sizeLine + 1 := by
    simp only [Array.size_append, Array.size_extract]
    omega
  unfold setItem
  try with_reducible refine wpAny_holding ?_
  first | refine wpAny_bind (wpAny_pure ?_) | skip
  refine wpAny_bind (wpAny_sequenceKey hp.typeIs (by decide) ?_)
  refine wpAny_bind (wpAny_callSpecial?_slot (name := Str.ofString "__setitem__") hp.typeIs PySem.slot_list_setitem
    (wpAny_call_entry PySem.slot_list_setitem hp.typeIs PySem.entry_list_setitem ?_ (PySem.args_list_setitem _ _ _)))
  show wpAny _ _ (Builtin.List.listSubscript? (.ref sl) >>= _) _ _ s
  refine wpAny_bind ?_
  unfold Builtin.List.listSubscript?
  refine wpAny_bind (wpAny_specialOf tsl slice_no_index ?_)
  simp only [Option.isNone_none, if_true]
  refine wpAny_pure ?_
  show wpAny _ _ (typeOf (.ref sl) >>= _) _ _ s
  refine wpAny_bind (wpAny_typeOf tsl ?_)
  first
    | rw [if_neg (by decide)]
    | refine PySem.W.KFB.if_not (by decide) ?_
  rw [listSliceParts_eq]
  refine wpAny_bind (wpAny_bind (wpAny_field hos hds (x := .none) rfl (wpAny_bind (wpAny_listPart .none ?_))))
  rw [if_neg nstep]
  refine wpAny_bind (wpAny_field hos hds (x := vl) rfl (wpAny_bind (wpAny_listPart p1 ?_)))
  refine wpAny_bind (wpAny_field hos hds (x := vu) rfl (wpAny_bind (wpAny_listPart p2 (wpAny_pure ?_))))
  first
    | simp only [nsame, Bool.false_eq_true, if_false]
    | refine PySem.W.KFB.if_not nsame ?_
    | (dsimp only
       rw [if_neg (by rw [nsame]; exact Bool.false_ne_true)])
  refine wpAny_bind (m := Builtin.List.listAllItems (.ref q) "must assign iterable to extended slice") ?_
  unfold Builtin.List.listAllItems
  refine wpAny_bind (wpAny_typeOf hq.typeIs ?_)
  first
    | refine PySem.W.KFB.if_so (by decide) ?_
    | rw [if_pos (by decide)]
    | simp only [beq_self_eq_true, Bool.or_true, if_true]
  unfold Builtin.List.listItems
  refine wpAny_bind (wpAny_seqItems hoq hdq (wpAny_pure ?_))
  refine wpAny_bind (wpAny_bind (wpAny_seqItems ep rfl (wpAny_pure ?_)))
  refine wpAny_bind (wpAny_of_eq ((sliceIndices_raw (some (a : Int)) (some (c : Int)) none old.size (by simp)).trans (congrArg (pure : Int × Int × Int → Sem (Int × Int × Int)) (bounds_run hac hc))) ?_)
  show wpAny _ _ (if ((1 : Int) == 1) = true then _ else _) _ _ s
  rw [if_pos (by decide)]
  refine wpAny_bind (wpAny_rule ?_)
  first
    | simp only [notLongL hsz, Bool.false_eq_true, if_false]
    | refine PySem.W.KFB.if_not (notLongL hsz) ?_
  first | refine wpAny_bind (wpAny_pure ?_) | skip
  show wpAny _ _ (updateSeq p (fun xs => xs.extract 0 ((a : Int)).toNat ++ new ++ xs.extract (max (a : Int) (c : Int)).toNat xs.size) >>= _) _ _ s
  rw [emax, Int.toNat_natCast]
  refine wpAny_bind (wpAny_updateSeq (hz := Nat.le_trans (Nat.le_add_right _ _) hsz) (_hz' := z2) ep rfl ?_)
  refine wpAny_bind (wpAny_letGo ?_)
  first
    | exact wpAny_bind (wpAny_pure (wpAny_pure ⟨.none, rfl, wpAny_pure h⟩))
    | exact wpAny_pure ⟨.none, rfl, wpAny_pure h⟩
end
section
variable {X : Cx}
theorem put_cutV {pins : List (Addr × Obj)} {s : Shared} {σ : L2.St} {H : Hp} {p q sl : Addr} {xs ys : List V} {a c : Int} {vl vu : Value} {Q : Unit → Shared → Prop} (I : Inv X pins σ H s)
    (hH : H p = some (.lst xs)) (hB : SqT X.K H q ys) (hsl : s.heap.IsSliceOf sl vl vu .none) (p1 : IsPart vl (some a)) (p2 : IsPart vu (some c)) (h0 : 0 ≤ a) (hac : a ≤ c) (hc : c ≤ xs.length)
    (hz : xs.length + ys.length ≤ sizeLine) (h : ∀ s', Inv X pins σ (upd H p (.lst (xs.take a.toNat ++ ys ++ xs.drop c.toNat))) s' → Q () s') :
    wpAny (model X.prog X.w) X.A (setItem (.ref p) (.ref sl) (.ref q)) Q X.xe s := by
  obtain ⟨z, its, n, r, hl, e⟩ := I.lstM hH
  obtain ⟨its2, r2, ht, hz2⟩ := I.tuple hB
  have hl2 := r2.length
  obtain ⟨a', rfl⟩ := Int.eq_ofNat_of_zero_le h0
  obtain ⟨c', rfl⟩ := Int.eq_ofNat_of_zero_le (Int.le_trans h0 hac)
  simp only [Int.toNat_natCast] at h
  have hne : p ≠ q := fun z => by
    subst z
    obtain ⟨o, ho, hcl, _⟩ := ht
    rw [e] at ho
    cases ho
    exact absurd (show Value.type "list" = Value.type "tuple" from hcl) (by decide)
  refine put_cut_tup (a := a') (c := c') e ht hne hsl p1 p2 (by omega) (by rw [List.size_toArray]; omega) (by rw [List.size_toArray, List.size_toArray]; omega) (h _ ?_)
  refine I.lset (its' := its.take a' ++ its2 ++ its.drop c') (t' := s.toks) hH e ?_ (Vals.append (Vals.append (r.take _) r2) (r.drop _)) ?_
  · exact splice_eq its its2 a' c'
  · rw [List.length_append, List.length_append, List.length_take, List.length_drop]
    omega
/-- o[lo:hi] = a tuple -/
def gCut (K : PySem.W.Frag) (to : TE) (tl th : TO) : TG := fun v σ H Q => to σ H fun x H1 => tl σ H1 fun l H2 => th σ H2 fun u H3 => ∃ p xs q ys a c, x = .ref p ∧ v = .ref q ∧ l = some a ∧ u = some c ∧ H3 p = some (.lst xs) ∧ SqT K H3 q ys ∧ 0 ≤ a ∧ a ≤ c ∧ c ≤ xs.length ∧ xs.length + ys.length ≤ sizeLine ∧ Q σ (upd H3 p (.lst (xs.take a.toNat ++ ys ++ xs.drop c.toNat)))
theorem pg_cut {o : Expr} {lo hi : Option Expr} {to : TE} {tl th : TO} {p2 pos : Pos} (ho : PE X o to) (hl : PO X lo tl) (hh : PO X hi th)
    (ha : ∀ v, assign (.Subscript o (.Slice lo hi none p2) pos) X.env v = (do
      let ov ← holding [v] (eval o X.env)
      let iv ← holding [v, ov] (eval (.Slice lo hi none p2) X.env)
      standAt pos
      holding [v, ov, iv] (setItem ov iv v)
      release [iv, v, ov] []) := by intro _; rfl) : PG X (.Subscript o (.Slice lo hi none p2) pos) (gCut X.K to tl th) := by
  refine ⟨fun pins s σ H v u Q I r h => ?_⟩
  rw [ha]
  refine wpAny_bind (wpAny_holding (thn (ho.run pins s σ H _ I h) fun ov s1 ⟨x, H1, I1, r1, q1⟩ => ?_))
  refine wpAny_bind (wpAny_holding ?_)
  refine wpAny_Slice (thn (hl.run pins s1 σ H1 _ I1 q1) fun vl s2 ⟨l, H2, I2, pl, q2⟩ => ?_)
  refine thn (hh.run pins s2 σ H2 _ I2 q2) fun vu s3 ⟨w, H3, I3, pu, q3⟩ => ?_
  refine thn (po_none.run pins s3 σ H3 (fun o H4 => o = none ∧ H4 = H3) I3 ⟨rfl, rfl⟩) fun vs s4 ⟨z, H4, I4, ps, ez, e4⟩ => ?_
  subst ez e4
  have evs : vs = .none := by cases ps; rfl
  subst evs
  obtain ⟨p, xs, q, ys, a, c, e1, e2, e3, e5, hp, hq, h0, hac, hc, hz, k⟩ := q3
  subst e1 e2 e3 e5
  cases r1
  cases r
  have I5 : Inv X pins σ H4 { s4 with heap := s4.heap.push { cls := .type "slice", data := .fields #[vl, vu, .none] } } := I4.kept (t' := s4.toks) fun b ob q => Heap.get?_push_of_some _ q
  refine wpAny_bind (wpAny_standAt (wpAny_bind (wpAny_holding ?_)))
  refine put_cutV I5 hp hq (Heap.IsSliceOf.new _ vl vu .none) pl pu h0 hac hc hz fun s6 I6 => ?_
  exact wpAny_release ⟨σ, _, I6, k⟩
section
variable {a b e : Expr} {lo hi : Option Expr} {fa : FE} {o1 o2 : Rho → Option (Option Int)} {pos p p2 tpos : Pos}
def cutS' (i : Nat) (ρ : Rho) (ys : List PyData) (l h : Option Int) : Option Out := match ρ[i]?, l, h with
  | some (.own xs), some a, some c => if 0 ≤ a ∧ a ≤ c ∧ c ≤ xs.length ∧ small (xs.length + ys.length) then some (.nx (ρ.set i (.own (xs.take a.toNat ++ ys ++ xs.drop c.toNat)))) else none
  | _, _, _ => none
def tupS : PyData → Option (List PyData)
  | .tuple ys => some ys
  | _ => none
/-- xs[lo:hi] = e -/
def gCutS (i : Nat) (o1 o2 : Rho → Option (Option Int)) (fa : FE) : FS := fun ρ => (fa ρ).bind fun r => (tupS r.rd).bind fun ys => (o1 ρ).bind fun l => (o2 ρ).bind fun h => cutS' i ρ ys l h
theorem s_cut {x : Str} (i : Nat) (ha : DE X e fa) (hl : DO X lo o1) (hh : DO X hi o2) (hv : PE X (.Name x p) (tVar i)) (hs : swapsWithSole [.Subscript (.Name x p) (.Slice lo hi none p2) tpos] e pos.line X.env = pure false := by rfl) (hw : swappedStores [.Subscript (.Name x p) (.Slice lo hi none p2) tpos] e X.env = pure none := by rfl)
    (h1 : (assignEach [.Subscript (.Name x p) (.Slice lo hi none p2) tpos] X.env).map (·.2) = [assign (.Subscript (.Name x p) (.Slice lo hi none p2) tpos) X.env] := by rfl)
    (hq : ∀ v, assign (.Subscript (.Name x p) (.Slice lo hi none p2) tpos) X.env v = (do
      let ov ← holding [v] (eval (.Name x p) X.env)
      let iv ← holding [v, ov] (eval (.Slice lo hi none p2) X.env)
      standAt tpos
      holding [v, ov, iv] (setItem ov iv v)
      release [iv, v, ov] []) := by intro _; rfl) :
    DS X (.Assign [.Subscript (.Name x p) (.Slice lo hi none p2) tpos] e pos) (gCutS i o1 o2 fa) := ps_mono (ps_asg ha (pg_cut hv hl hh hq) hs hw h1) fun D σ H h => by
  obtain ⟨B, Hf, ρ, o, er, hg, k⟩ := h
  unfold gCutS at hg
  obtain ⟨r, h1, h2⟩ := Option.bind_eq_some_iff.mp hg
  obtain ⟨ys, h3, h4⟩ := Option.bind_eq_some_iff.mp h2
  obtain ⟨l, h5, h6⟩ := Option.bind_eq_some_iff.mp h4
  obtain ⟨u, h7, h8⟩ := Option.bind_eq_some_iff.mp h6
  have hr : r.rd = .tuple ys := by
    unfold tupS at h3
    split at h3
    · rename_i q; rw [q]; cases h3; rfl
    · cases h3
  unfold cutS' at h8
  split at h8
  · rename_i xs a c hs
    split at h8
    · rename_i z
      cases h8
      refine ⟨B, Hf, ρ, r, er, h1, fun v Hf1 H1 g1 q1 => ?_⟩
      obtain ⟨q, ws, rfl, s1, d1⟩ := q1.tup hr
      have er1 := er.grow g1
      obtain ⟨pl, hpl⟩ := er1.at hs
      refine ⟨.ref pl, hpl, B, Hf1, ρ, some a, er1, h5, fun Hf2 H2 g2 => ⟨B, Hf2, ρ, some c, er1.grow g2, h7, fun Hf3 H3 g3 => ?_⟩⟩
      have er3 := (er1.grow g2).grow g3
      have g13 := g2.trans g3
      obtain ⟨b1, b2, us, b3, b4⟩ := er3.own_there hs hpl
      have lu := dpa_len b4
      have lw := dpa_len d1
      refine ⟨pl, us, q, ws, a, c, rfl, rfl, rfl, rfl, b3, sqt_mono (g13.f.trans er3.fh) s1, z.1, z.2.1, by rw [lu]; exact z.2.2.1, by rw [lu, lw]; exact sm_line z.2.2.2, ?_⟩
      exact k σ Hf3 _ (((g1.trans g2).trans g3).gb er.bh) (er3.put hs hpl (dpa_app (dpa_app (dpa_take _ b4) (dpa_mono g13.f _ _ d1)) (dpa_drop _ b4)))
    · cases h8
  · cases h8
end
end
@[simp] theorem tupS_t {xs : List PyData} : tupS (.tuple xs) = some xs := (rfl)
@[simp] theorem gCutS_eq {i : Nat} {o1 o2 : Rho → Option (Option Int)} {fa : FE} {ρ : Rho} : gCutS i o1 o2 fa ρ = (fa ρ).bind fun r => (tupS r.rd).bind fun ys => (o1 ρ).bind fun l => (o2 ρ).bind fun h => cutS' i ρ ys l h := (rfl)
theorem cutS'_own {i : Nat} {ρ : Rho} {xs ys : List PyData} {a c : Int} (h : ρ[i]? = some (.own xs)) (h0 : 0 ≤ a) (h1 : a ≤ c) (h2 : c ≤ xs.length) (h3 : small (xs.length + ys.length)) : cutS' i ρ ys (some a) (some c) = some (.nx (ρ.set i (.own (xs.take a.toNat ++ ys ++ xs.drop c.toNat)))) := by
  unfold cutS'
  rw [h]
  dsimp only
  rw [if_pos ⟨h0, h1, h2, h3⟩]
/-! ### t[::2] -/
section
variable {prog : Program} {w : World} {A : Around} {E : Value → Shared → Prop} {s : Shared}
def everyK {α : Type} (k : Nat) (xs : List α) : List α := (List.range (if 0 < xs.length then (xs.length - 1) / k + 1 else 0)).filterMap fun m => xs[m * k]?
theorem cutK_applied {sl : Addr} {vl vu vs : Value} {n k : Nat} {Q : Int × Int × Nat → Shared → Prop} (hs : s.heap.IsSliceOf sl vl vu vs) (pl : IsPart vl none) (pu : IsPart vu none) (ps : IsPart vs (some (k : Int))) (hk : 0 < k)
    (h : Q (0, (k : Int), if 0 < n then (n - 1) / k + 1 else 0) s) : wpAny (model prog w) A (Builtin.Slice.sliceApplied (.ref sl) (pure (n : Int))) Q E s := by
  obtain ⟨os, hos, hcs, hds⟩ := id hs
  unfold Builtin.Slice.sliceApplied Builtin.Slice.sliceFields
  refine wpAny_bind (wpAny_bind (wpAny_field hos hds (x := vl) rfl (wpAny_bind (wpAny_field hos hds (x := vu) rfl (wpAny_bind (wpAny_field hos hds (x := vs) rfl (wpAny_pure ?_)))))))
  refine wpAny_bind (slicePart_ ps ?_)
  show wpAny _ _ (if (((k : Nat) : Int) == 0) = true then _ else _) _ _ s
  rw [if_neg (by simp; omega)]
  refine wpAny_bind (slicePart_ pl (wpAny_bind (slicePart_ pu (wpAny_bind (wpAny_pure ?_)))))
  show wpAny _ _ (match Builtin.Slice.sliceAdjust none none (k : Int) (n : Int) with | (lo, hi) => pure (lo, (k : Int), Builtin.Slice.slicePlaces lo hi (k : Int))) _ _ s
  have e : Builtin.Slice.sliceAdjust none none (k : Int) (n : Int) = (0, (n : Int)) := by
    unfold Builtin.Slice.sliceAdjust
    have h1 : ¬ ((k : Int) < 0) := by omega
    simp only [h1, if_false]
  rw [e]
  have e2 : Builtin.Slice.slicePlaces 0 (n : Int) (k : Int) = if 0 < n then (n - 1) / k + 1 else 0 := by
    unfold Builtin.Slice.slicePlaces
    have h1 : ((k : Int) > 0) := by omega
    simp only [h1, if_true, Int.sub_zero]
    by_cases hn : 0 < n
    · rw [if_pos (by omega), if_pos hn]
      have e3 : (n : Int) - 1 = ((n - 1 : Nat) : Int) := by omega
      rw [e3, ← Int.natCast_ediv]
      generalize (n - 1) / k = z
      omega
    · rw [if_neg (by omega), if_neg hn]
      rfl
  show wpAny _ _ (pure (0, (k : Int), Builtin.Slice.slicePlaces 0 (n : Int) (k : Int))) _ _ s
  rw [e2]
  exact wpAny_pure h
theorem pick_every (xs : Array Value) (k : Nat) : ((List.range (if 0 < xs.size then (xs.size - 1) / k + 1 else 0)).filterMap fun (m : Nat) => xs[((0 : Int) + (m : Int) * (k : Int)).toNat]?).toArray = (everyK k xs.toList).toArray := by
  unfold everyK
  congr 1
  rw [Array.length_toList]
  refine fmap_congr fun m _ => ?_
  have e : ((0 : Int) + (m : Int) * (k : Int)).toNat = m * k := by
    rw [Int.zero_add, ← Int.natCast_mul, Int.toNat_natCast]
  rw [e, Array.getElem?_toList]
theorem every_len {α : Type} (k : Nat) (xs : List α) : (everyK k xs).length ≤ xs.length := by
  unfold everyK
  refine Nat.le_trans (List.length_filterMap_le _ _) ?_
  rw [List.length_range]
  split
  · have := Nat.div_le_self (xs.length - 1) k
    omega
  · omega
theorem getItem_tuple_every {t sl : Addr} {items : Array Value} {vl vu vs : Value} {k : Nat} {Q : Value → Shared → Prop} (ht : IsTup s.heap t items) (hs : s.heap.IsSliceOf sl vl vu vs) (pl : IsPart vl none) (pu : IsPart vu none) (ps : IsPart vs (some (k : Int))) (hk : 2 ≤ k)
    (h : Q (.ref s.heap.objs.size) { s with heap := s.heap.push { cls := .type "tuple", data := .seq (everyK k items.toList).toArray } })
    (hsz : items.size ≤ sizeLine) : wpAny (model prog w) A (getItem (.ref t) (.ref sl)) Q E s := by
  have htake : sizeOk (.seq (everyK k items.toList).toArray) := by
    show (everyK k items.toList).toArray.size ≤ sizeLine
    have := every_len k items.toList
    rw [Array.length_toList] at this
    exact Nat.le_trans (by rw [List.size_toArray]; exact this) hsz
  obtain ⟨os, hos, hcs, hds⟩ := id hs
  have hTs : s.TypeIs (.ref sl) "slice" := ⟨os, hos, hcs⟩
  unfold getItem
  try with_reducible refine wpAny_holding ?_
  first | refine wpAny_bind (wpAny_pure ?_) | skip
  refine wpAny_bind (wpAny_sequenceKey ht.typeIs (by decide) ?_)
  refine wpAny_bind (wpAny_callSpecial?_slot (name := Str.ofString "__getitem__") ht.typeIs PyProof.Rows.slot_tuple_getitem
    (wpAny_call_entry PyProof.Rows.slot_tuple_getitem ht.typeIs entry_tuple_getitem ?_ (args_tuple_getitem _ _)))
  show wpAny _ _ (Builtin.Tuple.tupleItemsOf (.ref t) >>= _) _ _ s
  refine wpAny_bind (tupleItemsOf_ ht ?_)
  refine wpAny_bind (wpAny_typeOf hTs ?_)
  rw [if_pos (by decide)]
  refine wpAny_bind (cutK_applied hs pl pu ps (by omega) ?_)
  have hno : ¬ ((((0 : Int)) == 0 && ((k : Nat) : Int) == 1 && (if 0 < items.size then (items.size - 1) / k + 1 else 0) == items.size) = true) := by
    intro q
    rw [Bool.and_eq_true, Bool.and_eq_true] at q
    have := q.1.2
    simp at this
    omega
  show wpAny _ _ (if ((0 : Int) == 0 && ((k : Nat) : Int) == 1 && (if 0 < items.size then (items.size - 1) / k + 1 else 0) == items.size) = true then _ else _) _ _ s
  rw [if_neg hno, pick_every]
  first
    | exact wpAny_bind (m := Builtin.Tuple.tupleExact _) (wpAny_newObj_type (wpAny_pure ⟨_, rfl, wpAny_pure h⟩) htake)
    | exact wpAny_bind (m := Builtin.Tuple.tupleExact _) (wpAny_newObj_type (wpAny_bind (wpAny_pure (wpAny_pure ⟨_, rfl, wpAny_pure h⟩))) htake)
    | exact wpAny_bind (wpAny_bind (m := Builtin.Tuple.tupleExact _) (wpAny_newObj_type (wpAny_pure (wpAny_pure ⟨_, rfl, wpAny_pure h⟩)) htake))
    | exact wpAny_bind (wpAny_bind (m := Builtin.Tuple.tupleExact _) (wpAny_newObj_type (wpAny_pure ⟨_, rfl, wpAny_pure h⟩) htake))
end
theorem paired_range {xs : List V} {its : List Value} (r : Vals xs its) (k : Nat) : ∀ l : List Nat, Vals (l.filterMap fun m => xs[m * k]?) (l.filterMap fun m => its[m * k]?)
  | [] => Paired.nil
  | m :: l => by
    have ih := paired_range r k l
    rw [List.filterMap_cons, List.filterMap_cons]
    cases h : xs[m * k]? with
    | none =>
      have : its[m * k]? = none := by
        rw [List.getElem?_eq_none_iff] at h ⊢
        have := r.length
        omega
      rw [this]
      exact ih
    | some v =>
      obtain ⟨u, hu, ru⟩ := r.get h
      rw [hu]
      exact Paired.cons ru ih
def tEvery (K : PySem.W.Frag) (k : Nat) (te : TE) : TE := fun σ H Q => te σ H fun x H1 => ∃ a xs, x = .ref a ∧ SqT K H1 a xs ∧ NewT (everyK k xs) H1 Q
theorem pe_every {X : Cx} {e : Expr} {te : TE} {k : Nat} {kk : Nat} {p1 p3 pos : Pos} (hk : 2 ≤ k) (he : PE X e te) : PE X (.Subscript e (.Slice none none (some (.Constant (.int (k : Int)) kk p1)) p3) pos) (tEvery X.K k te) := by
  refine ⟨fun pins s σ H Q I h => ?_⟩
  refine Subscript_ (thn (he.run pins s σ H _ I h) fun v s1 ⟨x, H1, I1, r1, q1⟩ => ?_)
  obtain ⟨a, xs, ex, hx, q⟩ := q1
  subst ex
  cases r1
  have hst : PO X (some (.Constant (.int (k : Int)) kk p1)) (tPart (tC (.int (k : Int)))) := po_some pe_int
  refine wpAny_Slice (thn (po_none.run pins s1 σ H1 (fun o H2 => o = none ∧ H2 = H1) I1 ⟨rfl, rfl⟩) fun vl s2 ⟨l, H2, I2, pl, el, e2⟩ => ?_)
  subst el e2
  refine thn (po_none.run pins s2 σ H2 (fun o H3 => o = none ∧ H3 = H2) I2 ⟨rfl, rfl⟩) fun vu s3 ⟨u, H3, I3, pu, eu, e3⟩ => ?_
  subst eu e3
  refine thn (hst.run pins s3 σ H3 (fun o H4 => o = some (k : Int) ∧ H4 = H3) I3 ⟨(k : Int), rfl, rfl, rfl⟩) fun vs s4 ⟨o, H4, I4, ps, eo, e4⟩ => ?_
  subst eo e4
  have I5 : Inv X pins σ H4 { s4 with heap := s4.heap.push { cls := .type "slice", data := .fields #[vl, vu, vs] } } := I4.kept (t' := s4.toks) fun b ob q => Heap.get?_push_of_some _ q
  show wpAny (model X.prog X.w) X.A (subscriptTail e (.Slice none none (some (.Constant (.int (k : Int)) kk p1)) p3) (.ref a) (.ref s4.heap.objs.size)) (EP X pins σ Q) X.xe { s4 with heap := s4.heap.push { cls := .type "slice", data := .fields #[vl, vu, vs] } }
  obtain ⟨its, r, ht, hz⟩ := I5.tuple hx
  have hlen := r.length
  refine tail_any (ops := [.ref a, .ref s4.heap.objs.size]) ht.typeIs PyProof.Rows.slot_tuple_getitem.lookup ?_ (by with_unfolding_all rfl)
  refine getItem_tuple_every ht (Heap.IsSliceOf.new _ vl vu vs) pl pu ps hk ?_ (by rw [List.size_toArray]; omega)
  have rr : Vals (everyK k xs) (everyK k its) := by
    unfold everyK
    rw [← hlen]
    exact paired_range r k _
  have := every_len k xs
  exact laid_tup (t' := s4.toks) I5 rr (by omega) q
def gEvery (k : Nat) : PyData → Option Res
  | .tuple xs => some (.fz (.tuple (everyK k xs)))
  | _ => none
theorem dpa_filter {K : PySem.W.Frag} {H : Hp} {vs : List V} {ds : List PyData} (h : DpAll K H vs ds) (k : Nat) : ∀ l : List Nat, DpAll K H (l.filterMap fun m => vs[m * k]?) (l.filterMap fun m => ds[m * k]?)
  | [] => .nil
  | m :: l => by
    have ih := dpa_filter h k l
    rw [List.filterMap_cons, List.filterMap_cons]
    cases e : vs[m * k]? with
    | none =>
      have : ds[m * k]? = none := by
        rw [List.getElem?_eq_none_iff] at e ⊢
        have := dpa_len h
        omega
      rw [this]
      exact ih
    | some v =>
      obtain ⟨d, hd, rd⟩ := dpa_at h e
      rw [hd]
      exact .cons rd ih
theorem d_every {X : Cx} {e : Expr} {fa : FE} {k kk : Nat} {p1 p3 pos : Pos} (hk : 2 ≤ k) (ha : DE X e fa) : DE X (.Subscript e (.Slice none none (some (.Constant (.int (k : Int)) kk p1)) p3) pos) (f1 (gEvery k) fa) := pe_mono (pe_every hk ha) fun σ H Q h => by
  obtain ⟨B, Hf, ρ, r, er, hf, kq⟩ := h
  unfold f1 at hf
  obtain ⟨ra, h1, hf⟩ := Option.bind_eq_some_iff.mp hf
  unfold gEvery at hf
  split at hf
  · rename_i xs hx
    cases hf
    refine ⟨B, Hf, ρ, ra, er, h1, fun v Hf1 H1 g1 q1 => ?_⟩
    obtain ⟨p, vs, rfl, s1, d1⟩ := q1.tup hx
    refine ⟨p, vs, rfl, sqt_mono g1.fh s1, fun n ob hn hd => ?_⟩
    have gn := Gr.new (o := .frz ob (.tup (everyK k vs))) g1.fh hn (.tupF hd)
    have dd : DpAll X.K Hf1 (everyK k vs) (everyK k xs) := by
      unfold everyK
      rw [dpa_len d1]
      exact dpa_filter d1 k _
    exact kq _ _ _ (g1.trans gn) (Dp.tup (sqt_frz upd_same) (dpa_mono gn.f _ _ dd))
  · cases hf
@[simp] theorem gEvery_t {k : Nat} {xs : List PyData} : gEvery k (.tuple xs) = some (.fz (.tuple (everyK k xs))) := (rfl)
/-! ### xs.insert(i, y) -/
section
variable {X : Cx} {a b : Expr} {fa fb : FE} {pos apos cpos p : Pos}
def insS (i : Nat) (ρ : Rho) (d : PyData) : PyData → Option Out
  | .int n => (ownL ρ[i]?).bind fun xs => if 0 ≤ n ∧ n < 2 ^ 63 ∧ small xs.length then some (.nx (ρ.set i (.own (xs.take n.toNat ++ [d] ++ xs.drop n.toNat)))) else none
  | _ => none
def gIns (i : Nat) (fa fb : FE) : FS := fun ρ => (fa ρ).bind fun j => (fb ρ).bind fun r => r.fr.bind fun d => insS i ρ d j.rd
abbrev rIns : V → List V → Hp → VK → Prop := fun x vs H Q => ∃ (l : Addr) (xs : List V) (i : Int) (y : V), x = .ref l ∧ vs = [.int i, y] ∧ H l = some (.lst xs) ∧ xs.length < sizeLine ∧ 0 ≤ i ∧ i < 2 ^ 63 ∧ Q .non (upd H l (.lst (xs.take i.toNat ++ [y] ++ xs.drop i.toNat)))
theorem s_ins {x : Str} (i : Nat) (ha : DE X a fa) (hb : DE X b fb) (hp : PS X (.Expr (.Call (.Attribute (.Name x p) "insert" apos) [a, b] [] cpos) pos) (tDrop (tBM X.K "list" rIns (tVar i) (tCons (tD X.K fa) (tCons (tD X.K fb) tNil))))) :
    DS X (.Expr (.Call (.Attribute (.Name x p) "insert" apos) [a, b] [] cpos) pos) (gIns i fa fb) := ps_mono hp fun D σ H q => by
  obtain ⟨B, Hf, ρ, o, er, hg, k⟩ := q
  unfold gIns at hg
  obtain ⟨j, h1, h2⟩ := Option.bind_eq_some_iff.mp hg
  obtain ⟨r, h3, h4⟩ := Option.bind_eq_some_iff.mp h2
  obtain ⟨d, h5, h6⟩ := Option.bind_eq_some_iff.mp h4
  unfold insS at h6
  split at h6
  · rename_i n hj
    obtain ⟨xs, h7, h8⟩ := Option.bind_eq_some_iff.mp h6
    have hs : ρ[i]? = some (.own xs) := by
      unfold ownL at h7
      split at h7
      · rename_i q; rw [q]; cases h7; rfl
      · cases h7
    split at h8
    · rename_i hz
      cases h8
      obtain ⟨l, hl⟩ := er.at hs
      obtain ⟨a1, a2, ws, a3, a4⟩ := er.own_there hs hl
      refine ⟨.ref l, hl, .inl ⟨rfl, _, SqL.of a3⟩, B, Hf, ρ, j, er, h1, fun v Hf1 H1 g1 q1 => ⟨B, Hf1, ρ, r, er.grow g1, h3, fun w Hf2 H2 g2 q2 => ?_⟩⟩
      obtain ⟨Hf3, g3, s3, d3⟩ := q2.freeze (er.grow g1) g2 h5
      have er3 := (er.grow g1).grow g3
      obtain ⟨b1, b2, ws2, b3, b4⟩ := er3.own_there hs hl
      refine ⟨l, ws2, n, w, rfl, by rw [q1.int hj], b3, by rw [dpa_len b4]; exact Nat.lt_of_le_of_lt hz.2.2 (by decide), hz.1, hz.2.1, ?_⟩
      exact k _ Hf3 _ ((g1.trans g3).gb er.bh) (er3.put hs hl (dpa_app (dpa_app (dpa_take _ b4) (.cons d3 .nil)) (dpa_drop _ b4)))
    · cases h8
  · cases h6
@[simp] theorem gIns_eq {i : Nat} {ρ : Rho} : gIns i fa fb ρ = (fa ρ).bind fun j => (fb ρ).bind fun r => r.fr.bind fun d => insS i ρ d j.rd := (rfl)
@[simp] theorem insS_i {i : Nat} {ρ : Rho} {d : PyData} {n : Int} : insS i ρ d (.int n) = (ownL ρ[i]?).bind fun xs => if 0 ≤ n ∧ n < 2 ^ 63 ∧ small xs.length then some (.nx (ρ.set i (.own (xs.take n.toNat ++ [d] ++ xs.drop n.toNat)))) else none := (rfl)
end
end DL
namespace K25
open PySem PySem.Spec PyProof.Rows L2 DL
/-! ### the text -/
def topS (i : Nat) : Stmt := PySem.Challenge.pw_strandsplaited_k25_curves.main.body.getD i (.Pass ⟨0, 0, 0, 0⟩)
/-! ### plain_curve: slots 0 strands -/
abbrev s_plain_curve : Stmt := topS 1
theorem sc_plain_curve : FnScope ["strands"] ["strands"] (defScope s_plain_curve) := ⟨rfl, rfl, rfl, by decide +kernel, rfl, by decide +kernel, by decide +kernel⟩
def g_plain_curve : FS := (gRet (f2 gMul (fTup (aCons (fC (.int 0)) (aCons (fC (.int 1)) aNil))) (fVar 0)))
theorem ok_plain_curve {P : Program} {w : World} {K : PySem.W.Frag} {mg : Str → Option Value} {base : Heap} {f : Addr} {fd : FuncData} {k : Nat} (F : Fun K "plain_curve" "plain_curve" s_plain_curve f fd) :
    FnOk P w K mg base CX0 (k + 1) f fd ["strands"] (spD K 1 (runD 1 (g_plain_curve))) :=
  have nd := (sc_plain_curve).nd
  def_ok F sc_plain_curve fun cdv A outer s H E hr =>
  (ss_one (s_ret (d_mul (d_tup (a_cons d_int (a_cons d_int a_nil))) (d_var 0))))
/-! ### carried: slots 0 curve, 1 word, 2 numbers, 3 letter, 4 at, 5 a, 6 b, 7 c, 8 d -/
abbrev s_carried : Stmt := topS 2
theorem sc_carried : FnScope ["curve", "word", "numbers", "letter", "at", "a", "b", "c", "d"] ["curve", "word"] (defScope s_carried) := ⟨rfl, rfl, rfl, by decide +kernel, rfl, by decide +kernel, by decide +kernel⟩
def g_carried (F__crossed : FD) (F__crossed_back : FD) : FS := (gSeq (gSetO 2 (fC1 gList (aCons (fVar 0) aNil)))
    (gSeq (gFor (itF (fVar 1)) (uName 3) (gSeq (gSet 4 (f2 gMinus (f2 gMul (fC (.int 2)) (fC1 gAbs (aCons (fVar 3) aNil))) (fC (.int 2))))
    (gSeq (gAsg (uTup 4 (uCons (uName 5) (uCons (uName 6) (uCons (uName 7) (uCons (uName 8) uNil))))) (fSl (fVar 2) (oSome (fVar 4)) (oSome (f2 gAdd (fVar 4) (fC (.int 4))))))
    (gIf (fB (f2 gGt (fVar 3) (fC (.int 0)))) (gCutS 2 (oSome (fVar 4)) (oSome (f2 gAdd (fVar 4) (fC (.int 4)))) (fCall F__crossed (aCons (fVar 5) (aCons (fVar 6) (aCons (fVar 7) (aCons (fVar 8) aNil)))))) (gCutS 2 (oSome (fVar 4)) (oSome (f2 gAdd (fVar 4) (fC (.int 4)))) (fCall F__crossed_back (aCons (fVar 5) (aCons (fVar 6) (aCons (fVar 7) (aCons (fVar 8) aNil))))))))))
    (gRet (fC1 gTuple (aCons (fVar 2) aNil)))))
theorem ok_carried {P : Program} {w : World} {K : PySem.W.Frag} {mg : Str → Option Value} {base : Heap} {f : Addr} {fd : FuncData} {k : Nat} (F : Fun K "carried" "carried" s_carried f fd) {F__crossed : FD} {f__crossed : Addr} {fd__crossed : FuncData} {j__crossed : Nat} (G__crossed : FnOk P w K mg base CX0 j__crossed f__crossed fd__crossed ["a", "b", "c", "d"] (spD K 4 F__crossed)) (l__crossed : j__crossed ≤ k) (m__crossed : mg "_crossed" = some (.ref f__crossed)) (k__crossed : PySem.W.keepIn K (.ref f__crossed) = true) (b__crossed : Binds K fd__crossed ["a", "b", "c", "d"] []) {F__crossed_back : FD} {f__crossed_back : Addr} {fd__crossed_back : FuncData} {j__crossed_back : Nat} (G__crossed_back : FnOk P w K mg base CX0 j__crossed_back f__crossed_back fd__crossed_back ["a", "b", "c", "d"] (spD K 4 F__crossed_back)) (l__crossed_back : j__crossed_back ≤ k) (m__crossed_back : mg "_crossed_back" = some (.ref f__crossed_back)) (k__crossed_back : PySem.W.keepIn K (.ref f__crossed_back) = true) (b__crossed_back : Binds K fd__crossed_back ["a", "b", "c", "d"] []) (m_tuple : mg "tuple" = none) (m_abs : mg "abs" = none) (m_list : mg "list" = none) :
    FnOk P w K mg base CX0 (k + 1) f fd ["curve", "word"] (spD K 2 (runD 9 (g_carried F__crossed F__crossed_back))) :=
  have nd := (sc_carried).nd
  def_ok F sc_carried fun cdv A outer s H E hr =>
  (ss_cons (s_setO 2 nd (d_ty call_list_of c_list m_list (by decide +kernel) (a_cons (d_var 0) a_nil)))
    (ss_cons (s_for (i_seq (d_var 1)) (g_name 3 nd) (ss_cons (s_set 4 nd (d_sub (d_mul d_int (d_blt call_abs c_abs m_abs (by decide +kernel) (a_cons (d_var 3) a_nil))) d_int))
    (ss_cons (s_asg (d_sl (d_var 2) (p_some (d_var 4)) (p_some (d_add (d_var 4) d_int))) (g_tup (n := 4) (gs_cons (g_name 5 nd) (gs_cons (g_name 6 nd) (gs_cons (g_name 7 nd) (gs_cons (g_name 8 nd) gs_nil))))))
    (ss_one (s_if (t_cmp op_gt o_gt (d_var 3) d_int (nomark _)) (ss_one (s_cut 2 (d_call G__crossed (hr.mono l__crossed) m__crossed k__crossed b__crossed (a_cons (d_var 5) (a_cons (d_var 6) (a_cons (d_var 7) (a_cons (d_var 8) a_nil)))) (al_cons (al_cons (al_cons (al_cons al_nil))))) (p_some (d_var 4)) (p_some (d_add (d_var 4) d_int)) (pv 2))) (ss_one (s_cut 2 (d_call G__crossed_back (hr.mono l__crossed_back) m__crossed_back k__crossed_back b__crossed_back (a_cons (d_var 5) (a_cons (d_var 6) (a_cons (d_var 7) (a_cons (d_var 8) a_nil)))) (al_cons (al_cons (al_cons (al_cons al_nil))))) (p_some (d_var 4)) (p_some (d_add (d_var 4) d_int)) (pv 2))))))))
    (ss_one (s_ret (d_ty call_tupleF c_tuple m_tuple (by decide +kernel) (a_cons (d_var 2) a_nil))))))
/-! ### curve_of: slots 0 strands, 1 word -/
abbrev s_curve_of : Stmt := topS 3
theorem sc_curve_of : FnScope ["strands", "word"] ["strands", "word"] (defScope s_curve_of) := ⟨rfl, rfl, rfl, by decide +kernel, rfl, by decide +kernel, by decide +kernel⟩
def g_curve_of (F_carried : FD) (F_plain_curve : FD) : FS := (gRet (fCall F_carried (aCons (fCall F_plain_curve (aCons (fVar 0) aNil)) (aCons (fVar 1) aNil))))
theorem ok_curve_of {P : Program} {w : World} {K : PySem.W.Frag} {mg : Str → Option Value} {base : Heap} {f : Addr} {fd : FuncData} {k : Nat} (F : Fun K "curve_of" "curve_of" s_curve_of f fd) {F_carried : FD} {f_carried : Addr} {fd_carried : FuncData} {j_carried : Nat} (G_carried : FnOk P w K mg base CX0 j_carried f_carried fd_carried ["curve", "word"] (spD K 2 F_carried)) (l_carried : j_carried ≤ k) (m_carried : mg "carried" = some (.ref f_carried)) (k_carried : PySem.W.keepIn K (.ref f_carried) = true) (b_carried : Binds K fd_carried ["curve", "word"] []) {F_plain_curve : FD} {f_plain_curve : Addr} {fd_plain_curve : FuncData} {j_plain_curve : Nat} (G_plain_curve : FnOk P w K mg base CX0 j_plain_curve f_plain_curve fd_plain_curve ["strands"] (spD K 1 F_plain_curve)) (l_plain_curve : j_plain_curve ≤ k) (m_plain_curve : mg "plain_curve" = some (.ref f_plain_curve)) (k_plain_curve : PySem.W.keepIn K (.ref f_plain_curve) = true) (b_plain_curve : Binds K fd_plain_curve ["strands"] []) :
    FnOk P w K mg base CX0 (k + 1) f fd ["strands", "word"] (spD K 2 (runD 2 (g_curve_of F_carried F_plain_curve))) :=
  have nd := (sc_curve_of).nd
  def_ok F sc_curve_of fun cdv A outer s H E hr =>
  (ss_one (s_ret (d_call G_carried (hr.mono l_carried) m_carried k_carried b_carried (a_cons (d_call G_plain_curve (hr.mono l_plain_curve) m_plain_curve k_plain_curve b_plain_curve (a_cons (d_var 0) a_nil) (al_cons al_nil)) (a_cons (d_var 1) a_nil)) (al_cons (al_cons al_nil)))))
/-! ### lean: slots 0 curve, 1 first -/
abbrev s_lean : Stmt := topS 4
theorem sc_lean : FnScope ["curve", "first"] ["curve"] (defScope s_lean) := ⟨rfl, rfl, rfl, by decide +kernel, rfl, by decide +kernel, by decide +kernel⟩
def g_lean : FS := (gSeq (gFor (itF (f1 (gEvery 2) (fVar 0))) (uName 1) (gIf (fB (f2 gNe (fVar 1) (fC (.int 0)))) (gRet (fIf (fB (f2 gGt (fVar 1) (fC (.int 0)))) (fC (.int 1)) (f1 gNeg (fC (.int 1))))) gNil))
    (gRet (fC (.int 0))))
theorem ok_lean {P : Program} {w : World} {K : PySem.W.Frag} {mg : Str → Option Value} {base : Heap} {f : Addr} {fd : FuncData} {k : Nat} (F : Fun K "lean" "lean" s_lean f fd) :
    FnOk P w K mg base CX0 (k + 1) f fd ["curve"] (spD K 1 (runD 2 (g_lean))) :=
  have nd := (sc_lean).nd
  def_ok F sc_lean fun cdv A outer s H E hr =>
  (ss_cons (s_for (i_seq (d_every (k := 2) (by decide) (d_var 0))) (g_name 1 nd) (ss_one (s_if (t_cmp (op_neD hr.units) o_ne (d_var 1) d_int (nomark _)) (ss_one (s_ret (d_if (t_cmp op_gt o_gt (d_var 1) d_int (nomark _)) d_int (d_neg d_int)))) ss_nil)))
    (ss_one (s_ret d_int)))
/-! ### _crossed: slots 0 a, 1 b, 2 c, 3 d, 4 change -/
abbrev s__crossed : Stmt := topS 5
theorem sc__crossed : FnScope ["a", "b", "c", "d", "change"] ["a", "b", "c", "d"] (defScope s__crossed) := ⟨rfl, rfl, rfl, by decide +kernel, rfl, by decide +kernel, by decide +kernel⟩
def g__crossed : FS := (gSeq (gSet 4 (f2 gAdd (f2 gMinus (f2 gMinus (fVar 0) (fC1 gMin (aCons (fVar 1) (aCons (fC (.int 0)) aNil)))) (fVar 2)) (fC1 gMax (aCons (fVar 3) (aCons (fC (.int 0)) aNil)))))
    (gRet (fTup (aCons (f2 gAdd (f2 gAdd (fVar 0) (fC1 gMax (aCons (fVar 1) (aCons (fC (.int 0)) aNil)))) (fC1 gMax (aCons (f2 gMinus (fC1 gMax (aCons (fVar 3) (aCons (fC (.int 0)) aNil))) (fVar 4)) (aCons (fC (.int 0)) aNil)))) (aCons (f2 gMinus (fVar 3) (fC1 gMax (aCons (fVar 4) (aCons (fC (.int 0)) aNil)))) (aCons (f2 gAdd (f2 gAdd (fVar 2) (fC1 gMin (aCons (fVar 3) (aCons (fC (.int 0)) aNil)))) (fC1 gMin (aCons (f2 gAdd (fC1 gMin (aCons (fVar 1) (aCons (fC (.int 0)) aNil))) (fVar 4)) (aCons (fC (.int 0)) aNil)))) (aCons (f2 gAdd (fVar 1) (fC1 gMax (aCons (fVar 4) (aCons (fC (.int 0)) aNil)))) aNil)))))))
theorem ok__crossed {P : Program} {w : World} {K : PySem.W.Frag} {mg : Str → Option Value} {base : Heap} {f : Addr} {fd : FuncData} {k : Nat} (F : Fun K "_crossed" "_crossed" s__crossed f fd) (m_max : mg "max" = none) (m_min : mg "min" = none) :
    FnOk P w K mg base CX0 (k + 1) f fd ["a", "b", "c", "d"] (spD K 4 (runD 5 (g__crossed))) :=
  have nd := (sc__crossed).nd
  def_ok F sc__crossed fun cdv A outer s H E hr =>
  (ss_cons (s_set 4 nd (d_add (d_sub (d_sub (d_var 0) (d_blt ((cr_min rfl).or (call_min2 rfl)) c_min m_min (by decide +kernel) (a_cons (d_var 1) (a_cons d_int a_nil)))) (d_var 2)) (d_blt ((cr_max rfl).or (call_max2 rfl)) c_max m_max (by decide +kernel) (a_cons (d_var 3) (a_cons d_int a_nil)))))
    (ss_one (s_ret (d_tup (a_cons (d_add (d_add (d_var 0) (d_blt ((cr_max rfl).or (call_max2 rfl)) c_max m_max (by decide +kernel) (a_cons (d_var 1) (a_cons d_int a_nil)))) (d_blt ((cr_max rfl).or (call_max2 rfl)) c_max m_max (by decide +kernel) (a_cons (d_sub (d_blt ((cr_max rfl).or (call_max2 rfl)) c_max m_max (by decide +kernel) (a_cons (d_var 3) (a_cons d_int a_nil))) (d_var 4)) (a_cons d_int a_nil)))) (a_cons (d_sub (d_var 3) (d_blt ((cr_max rfl).or (call_max2 rfl)) c_max m_max (by decide +kernel) (a_cons (d_var 4) (a_cons d_int a_nil)))) (a_cons (d_add (d_add (d_var 2) (d_blt ((cr_min rfl).or (call_min2 rfl)) c_min m_min (by decide +kernel) (a_cons (d_var 3) (a_cons d_int a_nil)))) (d_blt ((cr_min rfl).or (call_min2 rfl)) c_min m_min (by decide +kernel) (a_cons (d_add (d_blt ((cr_min rfl).or (call_min2 rfl)) c_min m_min (by decide +kernel) (a_cons (d_var 1) (a_cons d_int a_nil))) (d_var 4)) (a_cons d_int a_nil)))) (a_cons (d_add (d_var 1) (d_blt ((cr_max rfl).or (call_max2 rfl)) c_max m_max (by decide +kernel) (a_cons (d_var 4) (a_cons d_int a_nil)))) a_nil))))))))
/-! ### _crossed_back: slots 0 a, 1 b, 2 c, 3 d, 4 change -/
abbrev s__crossed_back : Stmt := topS 6
theorem sc__crossed_back : FnScope ["a", "b", "c", "d", "change"] ["a", "b", "c", "d"] (defScope s__crossed_back) := ⟨rfl, rfl, rfl, by decide +kernel, rfl, by decide +kernel, by decide +kernel⟩
def g__crossed_back : FS := (gSeq (gSet 4 (f2 gMinus (f2 gMinus (f2 gAdd (fVar 0) (fC1 gMin (aCons (fVar 1) (aCons (fC (.int 0)) aNil)))) (fVar 2)) (fC1 gMax (aCons (fVar 3) (aCons (fC (.int 0)) aNil)))))
    (gRet (fTup (aCons (f2 gMinus (f2 gMinus (fVar 0) (fC1 gMax (aCons (fVar 1) (aCons (fC (.int 0)) aNil)))) (fC1 gMax (aCons (f2 gAdd (fC1 gMax (aCons (fVar 3) (aCons (fC (.int 0)) aNil))) (fVar 4)) (aCons (fC (.int 0)) aNil)))) (aCons (f2 gAdd (fVar 3) (fC1 gMin (aCons (fVar 4) (aCons (fC (.int 0)) aNil)))) (aCons (f2 gMinus (f2 gMinus (fVar 2) (fC1 gMin (aCons (fVar 3) (aCons (fC (.int 0)) aNil)))) (fC1 gMin (aCons (f2 gMinus (fC1 gMin (aCons (fVar 1) (aCons (fC (.int 0)) aNil))) (fVar 4)) (aCons (fC (.int 0)) aNil)))) (aCons (f2 gMinus (fVar 1) (fC1 gMin (aCons (fVar 4) (aCons (fC (.int 0)) aNil)))) aNil)))))))
theorem ok__crossed_back {P : Program} {w : World} {K : PySem.W.Frag} {mg : Str → Option Value} {base : Heap} {f : Addr} {fd : FuncData} {k : Nat} (F : Fun K "_crossed_back" "_crossed_back" s__crossed_back f fd) (m_max : mg "max" = none) (m_min : mg "min" = none) :
    FnOk P w K mg base CX0 (k + 1) f fd ["a", "b", "c", "d"] (spD K 4 (runD 5 (g__crossed_back))) :=
  have nd := (sc__crossed_back).nd
  def_ok F sc__crossed_back fun cdv A outer s H E hr =>
  (ss_cons (s_set 4 nd (d_sub (d_sub (d_add (d_var 0) (d_blt ((cr_min rfl).or (call_min2 rfl)) c_min m_min (by decide +kernel) (a_cons (d_var 1) (a_cons d_int a_nil)))) (d_var 2)) (d_blt ((cr_max rfl).or (call_max2 rfl)) c_max m_max (by decide +kernel) (a_cons (d_var 3) (a_cons d_int a_nil)))))
    (ss_one (s_ret (d_tup (a_cons (d_sub (d_sub (d_var 0) (d_blt ((cr_max rfl).or (call_max2 rfl)) c_max m_max (by decide +kernel) (a_cons (d_var 1) (a_cons d_int a_nil)))) (d_blt ((cr_max rfl).or (call_max2 rfl)) c_max m_max (by decide +kernel) (a_cons (d_add (d_blt ((cr_max rfl).or (call_max2 rfl)) c_max m_max (by decide +kernel) (a_cons (d_var 3) (a_cons d_int a_nil))) (d_var 4)) (a_cons d_int a_nil)))) (a_cons (d_add (d_var 3) (d_blt ((cr_min rfl).or (call_min2 rfl)) c_min m_min (by decide +kernel) (a_cons (d_var 4) (a_cons d_int a_nil)))) (a_cons (d_sub (d_sub (d_var 2) (d_blt ((cr_min rfl).or (call_min2 rfl)) c_min m_min (by decide +kernel) (a_cons (d_var 3) (a_cons d_int a_nil)))) (d_blt ((cr_min rfl).or (call_min2 rfl)) c_min m_min (by decide +kernel) (a_cons (d_sub (d_blt ((cr_min rfl).or (call_min2 rfl)) c_min m_min (by decide +kernel) (a_cons (d_var 1) (a_cons d_int a_nil))) (d_var 4)) (a_cons d_int a_nil)))) (a_cons (d_sub (d_var 1) (d_blt ((cr_min rfl).or (call_min2 rfl)) c_min m_min (by decide +kernel) (a_cons (d_var 4) (a_cons d_int a_nil)))) a_nil))))))))
/-! ### _law_mixed: slots 0 cell, 1 turn, 2 value, 3 first, 4 second, 5 third -/
abbrev s__law_mixed : Stmt := topS 8
theorem sc__law_mixed : FnScope ["cell", "turn", "value", "first", "second", "third"] ["cell", "turn"] (defScope s__law_mixed) := ⟨rfl, rfl, rfl, by decide +kernel, rfl, by decide +kernel, by decide +kernel⟩
def g__law_mixed : FS := (gSeq (gSet 2 (fC1 gInt (aCons (fVar 0) aNil)))
    (gSeq (gIf (fB (f2 gGe (fVar 2) (f2 gPow (fC (.int 10)) (fC (.int 18))))) (gRet (fVar 2)) gNil)
    (gSeq (gSet 3 (f2 gMod (f2 gAdd (f2 gMul (f2 gMod (fVar 2) (fC (.int 1000003))) (fC (.int 48271))) (f2 gMul (fC (.int 69621)) (f2 gAdd (fVar 1) (fC (.int 1))))) (fC (.int 2147483647))))
    (gSeq (gSet 4 (f2 gMod (f2 gAdd (f2 gMul (fVar 3) (fC (.int 48271))) (f2 gMod (fVar 2) (fC (.int 999983)))) (fC (.int 2147483647))))
    (gSeq (gSet 5 (f2 gMod (f2 gAdd (f2 gMul (fVar 4) (fC (.int 69621))) (fVar 3)) (fC (.int 2147483647))))
    (gRet (f2 gAdd (f2 gAdd (fVar 3) (f2 gMul (fC (.int 2147483647)) (fVar 4))) (f2 gMul (fC (.int 4611686014132420609)) (fVar 5)))))))))
theorem ok__law_mixed {P : Program} {w : World} {K : PySem.W.Frag} {mg : Str → Option Value} {base : Heap} {f : Addr} {fd : FuncData} {k : Nat} (F : Fun K "_law_mixed" "_law_mixed" s__law_mixed f fd) (m_int : mg "int" = none) :
    FnOk P w K mg base CX0 (k + 1) f fd ["cell", "turn"] (spD K 2 (runD 6 (g__law_mixed))) :=
  have nd := (sc__law_mixed).nd
  def_ok F sc__law_mixed fun cdv A outer s H E hr =>
  (ss_cons (s_set 2 nd (d_ty call_int1 c_int m_int (by decide +kernel) (a_cons (d_var 0) a_nil)))
    (ss_cons (s_if (t_cmp op_ge o_ge (d_var 2) (d_pow d_int d_int) (nomark _)) (ss_one (s_ret (d_var 2))) ss_nil)
    (ss_cons (s_set 3 nd (d_mod (d_add (d_mul (d_mod (d_var 2) d_int) d_int) (d_mul d_int (d_add (d_var 1) d_int))) d_int))
    (ss_cons (s_set 4 nd (d_mod (d_add (d_mul (d_var 3) d_int) (d_mod (d_var 2) d_int)) d_int))
    (ss_cons (s_set 5 nd (d_mod (d_add (d_mul (d_var 4) d_int) (d_var 3)) d_int))
    (ss_one (s_ret (d_add (d_add (d_var 3) (d_mul d_int (d_var 4))) (d_mul d_int (d_var 5))))))))))
/-! ### _law_word: slots 0 value, 1 strands, 2 most, 3 word, 4 left, 5 k, 6 digit -/
abbrev s__law_word : Stmt := topS 9
theorem sc__law_word : FnScope ["value", "strands", "most", "word", "left", "k", "digit"] ["value", "strands", "most"] (defScope s__law_word) := ⟨rfl, rfl, rfl, by decide +kernel, rfl, by decide +kernel, by decide +kernel⟩
def g__law_word : FS := (gSeq (gSetO 3 (fLst aNil))
    (gSeq (gSet 4 (f2 gDiv (fVar 0) (f2 gAdd (fVar 2) (fC (.int 1)))))
    (gSeq (gFor (rg1 (aCons (f2 gMod (fVar 0) (f2 gAdd (fVar 2) (fC (.int 1)))) aNil)) (uName 5) (gSeq (gIf (fB (f2 gEq (fVar 4) (fC (.int 0)))) (gSet 4 (f2 gAdd (fVar 0) (f2 gMul (fC (.int 7919)) (f2 gAdd (fVar 5) (fC (.int 1)))))) gNil)
    (gSeq (gSet 6 (f2 gMod (fVar 4) (f2 gMinus (f2 gMul (fC (.int 2)) (fVar 1)) (fC (.int 2)))))
    (gSeq (gSet 4 (f2 gDiv (fVar 4) (f2 gMinus (f2 gMul (fC (.int 2)) (fVar 1)) (fC (.int 2)))))
    (gApp 3 (f2 gIx (fLst (aCons (f2 gAdd (fVar 6) (fC (.int 1))) (aCons (f2 gMinus (f2 gMinus (fVar 1) (fC (.int 2))) (fVar 6)) aNil))) (fC1 gInt (aCons (f2 gGe (fVar 6) (f2 gMinus (fVar 1) (fC (.int 1)))) aNil))))))))
    (gRet (fC1 gTuple (aCons (fVar 3) aNil))))))
theorem ok__law_word {P : Program} {w : World} {K : PySem.W.Frag} {mg : Str → Option Value} {base : Heap} {f : Addr} {fd : FuncData} {k : Nat} (F : Fun K "_law_word" "_law_word" s__law_word f fd) (m_tuple : mg "tuple" = none) (m_range : mg "range" = none) (m_int : mg "int" = none) :
    FnOk P w K mg base CX0 (k + 1) f fd ["value", "strands", "most"] (spD K 3 (runD 7 (g__law_word))) :=
  have nd := (sc__law_word).nd
  def_ok F sc__law_word fun cdv A outer s H E hr =>
  (ss_cons (s_setO 3 nd (d_lst a_nil))
    (ss_cons (s_set 4 nd (d_div (d_var 0) (d_add (d_var 2) d_int)))
    (ss_cons (s_for (i_rg1 m_range (a_cons (d_mod (d_var 0) (d_add (d_var 2) d_int)) a_nil)) (g_name 5 nd) (ss_cons (s_if (t_cmp (op_eqD hr.units) o_eq (d_var 4) d_int (nomark _)) (ss_one (s_set 4 nd (d_add (d_var 0) (d_mul d_int (d_add (d_var 5) d_int))))) ss_nil)
    (ss_cons (s_set 6 nd (d_mod (d_var 4) (d_sub (d_mul d_int (d_var 1)) d_int)))
    (ss_cons (s_set 4 nd (d_div (d_var 4) (d_sub (d_mul d_int (d_var 1)) d_int)))
    (ss_one (s_app 3 (d_ix (d_lst (a_cons (d_add (d_var 6) d_int) (a_cons (d_sub (d_sub (d_var 1) d_int) (d_var 6)) a_nil))) (d_ty call_int1 c_int m_int (by decide +kernel) (a_cons (d_cmp op_ge o_ge (d_var 6) (d_sub (d_var 1) d_int) (nomark _)) a_nil))) (ps_expr (pe_bm PySem.F.plainAttrs_list PySem.F.slot_list_append PySem.F.type_list_append mt_append (pv 3) (pa_cons (d_ix (d_lst (a_cons (d_add (d_var 6) d_int) (a_cons (d_sub (d_sub (d_var 1) d_int) (d_var 6)) a_nil))) (d_ty call_int1 c_int m_int (by decide +kernel) (a_cons (d_cmp op_ge o_ge (d_var 6) (d_sub (d_var 1) d_int) (nomark _)) a_nil))) pa_nil)))))))))
    (ss_one (s_ret (d_ty call_tupleF c_tuple m_tuple (by decide +kernel) (a_cons (d_var 3) a_nil)))))))
/-! ### _law_up: slots 0 x -/
abbrev s__law_up : Stmt := topS 10
theorem sc__law_up : FnScope ["x"] ["x"] (defScope s__law_up) := ⟨rfl, rfl, rfl, by decide +kernel, rfl, by decide +kernel, by decide +kernel⟩
def g__law_up : FS := (gRet (fIf (fB (f2 gGt (fVar 0) (fC (.int 0)))) (fVar 0) (fC (.int 0))))
theorem ok__law_up {P : Program} {w : World} {K : PySem.W.Frag} {mg : Str → Option Value} {base : Heap} {f : Addr} {fd : FuncData} {k : Nat} (F : Fun K "_law_up" "_law_up" s__law_up f fd) :
    FnOk P w K mg base CX0 (k + 1) f fd ["x"] (spD K 1 (runD 1 (g__law_up))) :=
  have nd := (sc__law_up).nd
  def_ok F sc__law_up fun cdv A outer s H E hr =>
  (ss_one (s_ret (d_if (t_cmp op_gt o_gt (d_var 0) d_int (nomark _)) (d_var 0) d_int)))
/-! ### _law_down: slots 0 x -/
abbrev s__law_down : Stmt := topS 11
theorem sc__law_down : FnScope ["x"] ["x"] (defScope s__law_down) := ⟨rfl, rfl, rfl, by decide +kernel, rfl, by decide +kernel, by decide +kernel⟩
def g__law_down : FS := (gRet (fIf (fB (f2 gLt (fVar 0) (fC (.int 0)))) (fVar 0) (fC (.int 0))))
theorem ok__law_down {P : Program} {w : World} {K : PySem.W.Frag} {mg : Str → Option Value} {base : Heap} {f : Addr} {fd : FuncData} {k : Nat} (F : Fun K "_law_down" "_law_down" s__law_down f fd) :
    FnOk P w K mg base CX0 (k + 1) f fd ["x"] (spD K 1 (runD 1 (g__law_down))) :=
  have nd := (sc__law_down).nd
  def_ok F sc__law_down fun cdv A outer s H E hr =>
  (ss_one (s_ret (d_if (t_cmp op_lt o_lt (d_var 0) d_int (nomark _)) (d_var 0) d_int)))
/-! ### _law_carried: slots 0 curve, 1 word, 2 pairs, 3 letter, 4 found, 5 pair, 6 k, 7 a, 8 b, 9 c, 10 d, 11 e -/
abbrev s__law_carried : Stmt := topS 12
theorem sc__law_carried : FnScope ["curve", "word", "pairs", "letter", "found", "pair", "k", "a", "b", "c", "d", "e"] ["curve", "word"] (defScope s__law_carried) := ⟨rfl, rfl, rfl, by decide +kernel, rfl, by decide +kernel, by decide +kernel⟩
def g__law_carried (F__law_down : FD) (F__law_up : FD) : FS := (gSeq (gSetO 2 (fLc (rg1 (aCons (f2 gDiv (fC1 gLen (aCons (fVar 0) aNil)) (fC (.int 2))) aNil)) 6 cYes (fC1 gList (aCons (fSl (fVar 0) (oSome (f2 gMul (fC (.int 2)) (fVar 6))) (oSome (f2 gAdd (f2 gMul (fC (.int 2)) (fVar 6)) (fC (.int 2))))) aNil)) [6]))
    (gSeq (gFor (itF (fVar 1)) (uName 3) (gSeq (gSet 6 (f2 gMinus (fC1 gAbs (aCons (fVar 3) aNil)) (fC (.int 1))))
    (gSeq (gAsg (uTup 2 (uCons (uName 7) (uCons (uName 8) uNil))) (f2 gIx (fVar 2) (fVar 6)))
    (gSeq (gAsg (uTup 2 (uCons (uName 9) (uCons (uName 10) uNil))) (f2 gIx (fVar 2) (f2 gAdd (fVar 6) (fC (.int 1)))))
    (gIf (fB (f2 gGt (fVar 3) (fC (.int 0)))) (gSeq (gSet 11 (f2 gAdd (f2 gMinus (f2 gMinus (fVar 7) (fCall F__law_down (aCons (fVar 8) aNil))) (fVar 9)) (fCall F__law_up (aCons (fVar 10) aNil))))
    (gSeq (gPut 2 (fVar 6) (fLst (aCons (f2 gAdd (f2 gAdd (fVar 7) (fCall F__law_up (aCons (fVar 8) aNil))) (fCall F__law_up (aCons (f2 gMinus (fCall F__law_up (aCons (fVar 10) aNil)) (fVar 11)) aNil))) (aCons (f2 gMinus (fVar 10) (fCall F__law_up (aCons (fVar 11) aNil))) aNil))))
    (gPut 2 (f2 gAdd (fVar 6) (fC (.int 1))) (fLst (aCons (f2 gAdd (f2 gAdd (fVar 9) (fCall F__law_down (aCons (fVar 10) aNil))) (fCall F__law_down (aCons (f2 gAdd (fCall F__law_down (aCons (fVar 8) aNil)) (fVar 11)) aNil))) (aCons (f2 gAdd (fVar 8) (fCall F__law_up (aCons (fVar 11) aNil))) aNil)))))) (gSeq (gSet 11 (f2 gMinus (f2 gMinus (f2 gAdd (fVar 7) (fCall F__law_down (aCons (fVar 8) aNil))) (fVar 9)) (fCall F__law_up (aCons (fVar 10) aNil))))
    (gSeq (gPut 2 (fVar 6) (fLst (aCons (f2 gMinus (f2 gMinus (fVar 7) (fCall F__law_up (aCons (fVar 8) aNil))) (fCall F__law_up (aCons (f2 gAdd (fCall F__law_up (aCons (fVar 10) aNil)) (fVar 11)) aNil))) (aCons (f2 gAdd (fVar 10) (fCall F__law_down (aCons (fVar 11) aNil))) aNil))))
    (gPut 2 (f2 gAdd (fVar 6) (fC (.int 1))) (fLst (aCons (f2 gMinus (f2 gMinus (fVar 9) (fCall F__law_down (aCons (fVar 10) aNil))) (fCall F__law_down (aCons (f2 gMinus (fCall F__law_down (aCons (fVar 8) aNil)) (fVar 11)) aNil))) (aCons (f2 gMinus (fVar 8) (fCall F__law_down (aCons (fVar 11) aNil))) aNil)))))))))))
    (gSeq (gSet 4 (fLst aNil))
    (gSeq (gFrz 2 (gFor (itF (fVar 2)) (uName 5) (gSet 4 (f2 gAdd (fVar 4) (fVar 5)))))
    (gRet (fC1 gTuple (aCons (fVar 4) aNil)))))))
theorem ok__law_carried {P : Program} {w : World} {K : PySem.W.Frag} {mg : Str → Option Value} {base : Heap} {f : Addr} {fd : FuncData} {k : Nat} (F : Fun K "_law_carried" "_law_carried" s__law_carried f fd) {F__law_down : FD} {f__law_down : Addr} {fd__law_down : FuncData} {j__law_down : Nat} (G__law_down : FnOk P w K mg base CX0 j__law_down f__law_down fd__law_down ["x"] (spD K 1 F__law_down)) (l__law_down : j__law_down ≤ k) (m__law_down : mg "_law_down" = some (.ref f__law_down)) (k__law_down : PySem.W.keepIn K (.ref f__law_down) = true) (b__law_down : Binds K fd__law_down ["x"] []) {F__law_up : FD} {f__law_up : Addr} {fd__law_up : FuncData} {j__law_up : Nat} (G__law_up : FnOk P w K mg base CX0 j__law_up f__law_up fd__law_up ["x"] (spD K 1 F__law_up)) (l__law_up : j__law_up ≤ k) (m__law_up : mg "_law_up" = some (.ref f__law_up)) (k__law_up : PySem.W.keepIn K (.ref f__law_up) = true) (b__law_up : Binds K fd__law_up ["x"] []) (m_tuple : mg "tuple" = none) (m_abs : mg "abs" = none) (m_range : mg "range" = none) (m_len : mg "len" = none) (m_list : mg "list" = none) :
    FnOk P w K mg base CX0 (k + 1) f fd ["curve", "word"] (spD K 2 (runD 12 (g__law_carried F__law_down F__law_up))) :=
  have nd := (sc__law_carried).nd
  def_ok F sc__law_carried fun cdv A outer s H E hr =>
  (ss_cons (s_setLcO 2 6 "k" nd (DI.dj (i_rg1 m_range (a_cons (d_div (d_blt call_len c_len m_len (by decide +kernel) (a_cons (d_var 0) a_nil)) d_int) a_nil))) (by show blkC ["curve", "word", "pairs", "letter", "found", "pair", "k", "a", "b", "c", "d", "e"] (defScope s__law_carried) _ _ = true; decide +kernel) (fun _ _ _ _ _ => pg_name (i := 6) nd rfl (Or.inl rfl)) (fun _ _ _ _ _ => ts_nil) (fun _ _ _ _ _ => (d_ty call_list_of c_list m_list (by decide +kernel) (a_cons (d_sl (d_var 0) (p_some (d_mul d_int (d_var 6))) (p_some (d_add (d_mul d_int (d_var 6)) d_int))) a_nil))))
    (ss_cons (s_for (i_seq (d_var 1)) (g_name 3 nd) (ss_cons (s_set 6 nd (d_sub (d_blt call_abs c_abs m_abs (by decide +kernel) (a_cons (d_var 3) a_nil)) d_int))
    (ss_cons (s_asg (d_ix (d_var 2) (d_var 6)) (g_tup (n := 2) (gs_cons (g_name 7 nd) (gs_cons (g_name 8 nd) gs_nil))))
    (ss_cons (s_asg (d_ix (d_var 2) (d_add (d_var 6) d_int)) (g_tup (n := 2) (gs_cons (g_name 9 nd) (gs_cons (g_name 10 nd) gs_nil))))
    (ss_one (s_if (t_cmp op_gt o_gt (d_var 3) d_int (nomark _)) (ss_cons (s_set 11 nd (d_add (d_sub (d_sub (d_var 7) (d_call G__law_down (hr.mono l__law_down) m__law_down k__law_down b__law_down (a_cons (d_var 8) a_nil) (al_cons al_nil))) (d_var 9)) (d_call G__law_up (hr.mono l__law_up) m__law_up k__law_up b__law_up (a_cons (d_var 10) a_nil) (al_cons al_nil))))
    (ss_cons (s_put 2 (d_lst (a_cons (d_add (d_add (d_var 7) (d_call G__law_up (hr.mono l__law_up) m__law_up k__law_up b__law_up (a_cons (d_var 8) a_nil) (al_cons al_nil))) (d_call G__law_up (hr.mono l__law_up) m__law_up k__law_up b__law_up (a_cons (d_sub (d_call G__law_up (hr.mono l__law_up) m__law_up k__law_up b__law_up (a_cons (d_var 10) a_nil) (al_cons al_nil)) (d_var 11)) a_nil) (al_cons al_nil))) (a_cons (d_sub (d_var 10) (d_call G__law_up (hr.mono l__law_up) m__law_up k__law_up b__law_up (a_cons (d_var 11) a_nil) (al_cons al_nil))) a_nil))) (d_var 6) (ps_asg (d_lst (a_cons (d_add (d_add (d_var 7) (d_call G__law_up (hr.mono l__law_up) m__law_up k__law_up b__law_up (a_cons (d_var 8) a_nil) (al_cons al_nil))) (d_call G__law_up (hr.mono l__law_up) m__law_up k__law_up b__law_up (a_cons (d_sub (d_call G__law_up (hr.mono l__law_up) m__law_up k__law_up b__law_up (a_cons (d_var 10) a_nil) (al_cons al_nil)) (d_var 11)) a_nil) (al_cons al_nil))) (a_cons (d_sub (d_var 10) (d_call G__law_up (hr.mono l__law_up) m__law_up k__law_up b__law_up (a_cons (d_var 11) a_nil) (al_cons al_nil))) a_nil))) (pg_sub (pv 2) (d_var 6) set_list)))
    (ss_one (s_put 2 (d_lst (a_cons (d_add (d_add (d_var 9) (d_call G__law_down (hr.mono l__law_down) m__law_down k__law_down b__law_down (a_cons (d_var 10) a_nil) (al_cons al_nil))) (d_call G__law_down (hr.mono l__law_down) m__law_down k__law_down b__law_down (a_cons (d_add (d_call G__law_down (hr.mono l__law_down) m__law_down k__law_down b__law_down (a_cons (d_var 8) a_nil) (al_cons al_nil)) (d_var 11)) a_nil) (al_cons al_nil))) (a_cons (d_add (d_var 8) (d_call G__law_up (hr.mono l__law_up) m__law_up k__law_up b__law_up (a_cons (d_var 11) a_nil) (al_cons al_nil))) a_nil))) (d_add (d_var 6) d_int) (ps_asg (d_lst (a_cons (d_add (d_add (d_var 9) (d_call G__law_down (hr.mono l__law_down) m__law_down k__law_down b__law_down (a_cons (d_var 10) a_nil) (al_cons al_nil))) (d_call G__law_down (hr.mono l__law_down) m__law_down k__law_down b__law_down (a_cons (d_add (d_call G__law_down (hr.mono l__law_down) m__law_down k__law_down b__law_down (a_cons (d_var 8) a_nil) (al_cons al_nil)) (d_var 11)) a_nil) (al_cons al_nil))) (a_cons (d_add (d_var 8) (d_call G__law_up (hr.mono l__law_up) m__law_up k__law_up b__law_up (a_cons (d_var 11) a_nil) (al_cons al_nil))) a_nil))) (pg_sub (pv 2) (d_add (d_var 6) d_int) set_list)))))) (ss_cons (s_set 11 nd (d_sub (d_sub (d_add (d_var 7) (d_call G__law_down (hr.mono l__law_down) m__law_down k__law_down b__law_down (a_cons (d_var 8) a_nil) (al_cons al_nil))) (d_var 9)) (d_call G__law_up (hr.mono l__law_up) m__law_up k__law_up b__law_up (a_cons (d_var 10) a_nil) (al_cons al_nil))))
    (ss_cons (s_put 2 (d_lst (a_cons (d_sub (d_sub (d_var 7) (d_call G__law_up (hr.mono l__law_up) m__law_up k__law_up b__law_up (a_cons (d_var 8) a_nil) (al_cons al_nil))) (d_call G__law_up (hr.mono l__law_up) m__law_up k__law_up b__law_up (a_cons (d_add (d_call G__law_up (hr.mono l__law_up) m__law_up k__law_up b__law_up (a_cons (d_var 10) a_nil) (al_cons al_nil)) (d_var 11)) a_nil) (al_cons al_nil))) (a_cons (d_add (d_var 10) (d_call G__law_down (hr.mono l__law_down) m__law_down k__law_down b__law_down (a_cons (d_var 11) a_nil) (al_cons al_nil))) a_nil))) (d_var 6) (ps_asg (d_lst (a_cons (d_sub (d_sub (d_var 7) (d_call G__law_up (hr.mono l__law_up) m__law_up k__law_up b__law_up (a_cons (d_var 8) a_nil) (al_cons al_nil))) (d_call G__law_up (hr.mono l__law_up) m__law_up k__law_up b__law_up (a_cons (d_add (d_call G__law_up (hr.mono l__law_up) m__law_up k__law_up b__law_up (a_cons (d_var 10) a_nil) (al_cons al_nil)) (d_var 11)) a_nil) (al_cons al_nil))) (a_cons (d_add (d_var 10) (d_call G__law_down (hr.mono l__law_down) m__law_down k__law_down b__law_down (a_cons (d_var 11) a_nil) (al_cons al_nil))) a_nil))) (pg_sub (pv 2) (d_var 6) set_list)))
    (ss_one (s_put 2 (d_lst (a_cons (d_sub (d_sub (d_var 9) (d_call G__law_down (hr.mono l__law_down) m__law_down k__law_down b__law_down (a_cons (d_var 10) a_nil) (al_cons al_nil))) (d_call G__law_down (hr.mono l__law_down) m__law_down k__law_down b__law_down (a_cons (d_sub (d_call G__law_down (hr.mono l__law_down) m__law_down k__law_down b__law_down (a_cons (d_var 8) a_nil) (al_cons al_nil)) (d_var 11)) a_nil) (al_cons al_nil))) (a_cons (d_sub (d_var 8) (d_call G__law_down (hr.mono l__law_down) m__law_down k__law_down b__law_down (a_cons (d_var 11) a_nil) (al_cons al_nil))) a_nil))) (d_add (d_var 6) d_int) (ps_asg (d_lst (a_cons (d_sub (d_sub (d_var 9) (d_call G__law_down (hr.mono l__law_down) m__law_down k__law_down b__law_down (a_cons (d_var 10) a_nil) (al_cons al_nil))) (d_call G__law_down (hr.mono l__law_down) m__law_down k__law_down b__law_down (a_cons (d_sub (d_call G__law_down (hr.mono l__law_down) m__law_down k__law_down b__law_down (a_cons (d_var 8) a_nil) (al_cons al_nil)) (d_var 11)) a_nil) (al_cons al_nil))) (a_cons (d_sub (d_var 8) (d_call G__law_down (hr.mono l__law_down) m__law_down k__law_down b__law_down (a_cons (d_var 11) a_nil) (al_cons al_nil))) a_nil))) (pg_sub (pv 2) (d_add (d_var 6) d_int) set_list))))))))))))
    (ss_cons (s_set 4 nd (d_lst a_nil))
    (ss_cons (s_frzN 2 (s_for (i_seq (d_var 2)) (g_name 5 nd) (ss_one (s_set 4 nd (d_add (d_var 4) (d_var 5))))))
    (ss_one (s_ret (d_ty call_tupleF c_tuple m_tuple (by decide +kernel) (a_cons (d_var 4) a_nil))))))))
/-! ### _law_curve: slots 0 strands, 1 word -/
abbrev s__law_curve : Stmt := topS 13
theorem sc__law_curve : FnScope ["strands", "word"] ["strands", "word"] (defScope s__law_curve) := ⟨rfl, rfl, rfl, by decide +kernel, rfl, by decide +kernel, by decide +kernel⟩
def g__law_curve (F__law_carried : FD) : FS := (gRet (fCall F__law_carried (aCons (f2 gMul (fTup (aCons (fC (.int 0)) (aCons (fC (.int 1)) aNil))) (fVar 0)) (aCons (fVar 1) aNil))))
theorem ok__law_curve {P : Program} {w : World} {K : PySem.W.Frag} {mg : Str → Option Value} {base : Heap} {f : Addr} {fd : FuncData} {k : Nat} (F : Fun K "_law_curve" "_law_curve" s__law_curve f fd) {F__law_carried : FD} {f__law_carried : Addr} {fd__law_carried : FuncData} {j__law_carried : Nat} (G__law_carried : FnOk P w K mg base CX0 j__law_carried f__law_carried fd__law_carried ["curve", "word"] (spD K 2 F__law_carried)) (l__law_carried : j__law_carried ≤ k) (m__law_carried : mg "_law_carried" = some (.ref f__law_carried)) (k__law_carried : PySem.W.keepIn K (.ref f__law_carried) = true) (b__law_carried : Binds K fd__law_carried ["curve", "word"] []) :
    FnOk P w K mg base CX0 (k + 1) f fd ["strands", "word"] (spD K 2 (runD 2 (g__law_curve F__law_carried))) :=
  have nd := (sc__law_curve).nd
  def_ok F sc__law_curve fun cdv A outer s H E hr =>
  (ss_one (s_ret (d_call G__law_carried (hr.mono l__law_carried) m__law_carried k__law_carried b__law_carried (a_cons (d_mul (d_tup (a_cons d_int (a_cons d_int a_nil))) (d_var 0)) (a_cons (d_var 1) a_nil)) (al_cons (al_cons al_nil)))))
/-! ### _law_lean: slots 0 curve, 1 k -/
abbrev s__law_lean : Stmt := topS 14
theorem sc__law_lean : FnScope ["curve", "k"] ["curve"] (defScope s__law_lean) := ⟨rfl, rfl, rfl, by decide +kernel, rfl, by decide +kernel, by decide +kernel⟩
def g__law_lean : FS := (gSeq (gFor (rg1 (aCons (f2 gDiv (fC1 gLen (aCons (fVar 0) aNil)) (fC (.int 2))) aNil)) (uName 1) (gIf (fB (f2 gNe (f2 gIx (fVar 0) (f2 gMul (fC (.int 2)) (fVar 1))) (fC (.int 0)))) (gRet (fIf (fB (f2 gGt (f2 gIx (fVar 0) (f2 gMul (fC (.int 2)) (fVar 1))) (fC (.int 0)))) (fC (.int 1)) (f1 gNeg (fC (.int 1))))) gNil))
    (gRet (fC (.int 0))))
theorem ok__law_lean {P : Program} {w : World} {K : PySem.W.Frag} {mg : Str → Option Value} {base : Heap} {f : Addr} {fd : FuncData} {k : Nat} (F : Fun K "_law_lean" "_law_lean" s__law_lean f fd) (m_range : mg "range" = none) (m_len : mg "len" = none) :
    FnOk P w K mg base CX0 (k + 1) f fd ["curve"] (spD K 1 (runD 2 (g__law_lean))) :=
  have nd := (sc__law_lean).nd
  def_ok F sc__law_lean fun cdv A outer s H E hr =>
  (ss_cons (s_for (i_rg1 m_range (a_cons (d_div (d_blt call_len c_len m_len (by decide +kernel) (a_cons (d_var 0) a_nil)) d_int) a_nil)) (g_name 1 nd) (ss_one (s_if (t_cmp (op_neD hr.units) o_ne (d_ix (d_var 0) (d_mul d_int (d_var 1))) d_int (nomark _)) (ss_one (s_ret (d_if (t_cmp op_gt o_gt (d_ix (d_var 0) (d_mul d_int (d_var 1))) d_int (nomark _)) d_int (d_neg d_int)))) ss_nil)))
    (ss_one (s_ret d_int)))
/-! ### _law_same: slots 0 told, 1 due, 2 k -/
abbrev s__law_same : Stmt := topS 15
theorem sc__law_same : FnScope ["told", "due", "k"] ["told", "due"] (defScope s__law_same) := ⟨rfl, rfl, rfl, by decide +kernel, rfl, by decide +kernel, by decide +kernel⟩
def g__law_same (F__law_same : FD) : FS := (gSeq (gIf (tOrF (fTru (f1 (gIsi "tuple") (fVar 1))) (fTru (f1 (gIsi "list") (fVar 1)))) (gSeq (gIf (tOrF (fB (f2 gNe (f1 (gIsi "tuple") (fVar 1)) (f1 (gIsi "tuple") (fVar 0)))) (fB (f2 gNe (f1 (gIsi "list") (fVar 1)) (f1 (gIsi "list") (fVar 0))))) (gRet (fC (.bool false))) gNil)
    (gSeq (gIf (fB (f2 gNe (fC1 gLen (aCons (fVar 0) aNil)) (fC1 gLen (aCons (fVar 1) aNil)))) (gRet (fC (.bool false))) gNil)
    (gRet (f2 gEq (fLc (rg1 (aCons (fC1 gLen (aCons (fVar 1) aNil)) aNil)) 2 (tNotF (fTru (fCall F__law_same (aCons (f2 gIx (fVar 0) (fVar 2)) (aCons (f2 gIx (fVar 1) (fVar 2)) aNil))))) (fVar 2) [2]) (fLst aNil))))) gNil)
    (gSeq (gIf (fTru (f1 (gIsi "int") (fVar 1))) (gRet (fAnd (f1 (gIsi "int") (fVar 0)) (fAnd (fNot (f1 (gIsi "bool") (fVar 0))) (f2 gEq (fVar 0) (fVar 1))))) gNil)
    (gRet (f2 gEq (fVar 0) (fVar 1)))))
theorem ok__law_same {P : Program} {w : World} {K : PySem.W.Frag} {mg : Str → Option Value} {base : Heap} {f : Addr} {fd : FuncData} {k : Nat} (F : Fun K "_law_same" "_law_same" s__law_same f fd) {F__law_same : FD} {f__law_same : Addr} {fd__law_same : FuncData} {j__law_same : Nat} (G__law_same : FnOk P w K mg base CX0 j__law_same f__law_same fd__law_same ["told", "due"] (spD K 2 F__law_same)) (l__law_same : j__law_same ≤ k) (m__law_same : mg "_law_same" = some (.ref f__law_same)) (k__law_same : PySem.W.keepIn K (.ref f__law_same) = true) (b__law_same : Binds K fd__law_same ["told", "due"] []) (m_isinstance : mg "isinstance" = none) (m_int : mg "int" = none) (m_bool : mg "bool" = none) (m_tuple : mg "tuple" = none) (m_list : mg "list" = none) (m_range : mg "range" = none) (m_len : mg "len" = none) :
    FnOk P w K mg base CX0 (k + 1) f fd ["told", "due"] (spD K 2 (runD 3 (g__law_same F__law_same))) :=
  have nd := (sc__law_same).nd
  def_ok F sc__law_same fun cdv A outer s H E hr =>
  (ss_cons (s_if (t_bool (w_or (t_tru (d_isi (n := "tuple") (d_var 1) m_isinstance m_tuple (by decide +kernel) (by decide +kernel))) (w_or1 (t_tru (d_isi (n := "list") (d_var 1) m_isinstance m_list (by decide +kernel) (by decide +kernel)))))) (ss_cons (s_if (t_bool (w_or (t_cmp (op_neD hr.units) o_ne (d_isi (n := "tuple") (d_var 1) m_isinstance m_tuple (by decide +kernel) (by decide +kernel)) (d_isi (n := "tuple") (d_var 0) m_isinstance m_tuple (by decide +kernel) (by decide +kernel)) (nomark _)) (w_or1 (t_cmp (op_neD hr.units) o_ne (d_isi (n := "list") (d_var 1) m_isinstance m_list (by decide +kernel) (by decide +kernel)) (d_isi (n := "list") (d_var 0) m_isinstance m_list (by decide +kernel) (by decide +kernel)) (nomark _))))) (ss_one (s_ret d_bl)) ss_nil)
    (ss_cons (s_if (t_cmp (op_neD hr.units) o_ne (d_blt call_len c_len m_len (by decide +kernel) (a_cons (d_var 0) a_nil)) (d_blt call_len c_len m_len (by decide +kernel) (a_cons (d_var 1) a_nil)) (nomark _)) (ss_one (s_ret d_bl)) ss_nil)
    (ss_one (s_ret (d_cmp (op_eqD hr.units) o_eq (d_lc 2 "k" nd (DI.dj (i_rg1 m_range (a_cons (d_blt call_len c_len m_len (by decide +kernel) (a_cons (d_var 1) a_nil)) a_nil))) (by show blkC ["told", "due", "k"] (defScope s__law_same) _ _ = true; decide +kernel) (fun _ _ _ _ _ => pg_name (i := 2) nd rfl (Or.inl rfl)) (fun _ _ _ _ _ => ts_one (t_not (t_tru (d_call G__law_same (hr.mono l__law_same) m__law_same k__law_same b__law_same (a_cons (d_ix (d_var 0) (d_var 2)) (a_cons (d_ix (d_var 1) (d_var 2)) a_nil)) (al_cons (al_cons al_nil)))))) (fun _ _ _ _ _ => (d_var 2))) (d_lst a_nil) (nomark _)))))) ss_nil)
    (ss_cons (s_if (t_tru (d_isi (n := "int") (d_var 1) m_isinstance m_int (by decide +kernel) (by decide +kernel))) (ss_one (s_ret (d_and (d_isi (n := "int") (d_var 0) m_isinstance m_int (by decide +kernel) (by decide +kernel)) (d_and (d_not (d_isi (n := "bool") (d_var 0) m_isinstance m_bool (by decide +kernel) (by decide +kernel))) (d_one (d_cmp (op_eqD hr.units) o_eq (d_var 0) (d_var 1) (nomark _))))))) ss_nil)
    (ss_one (s_ret (d_cmp (op_eqD hr.units) o_eq (d_var 0) (d_var 1) (nomark _))))))
/-! ### law: slots 0 script, 1 turn, 2 cell, 3 value, 4 strands, 5 word, 6 due, 7 at, 8 half, 9 kept -/
abbrev s_law : Stmt := topS 16
theorem sc_law : FnScope ["script", "turn", "cell", "value", "strands", "word", "due", "at", "half", "kept"] ["script"] (defScope s_law) := ⟨rfl, rfl, rfl, by decide +kernel, rfl, by decide +kernel, by decide +kernel⟩
def g_law (F__law_same : FD) (F_lean : FD) (F__law_lean : FD) (F_carried : FD) (F_curve_of : FD) (F_plain_curve : FD) (F__law_curve : FD) (F__law_word : FD) (F__law_mixed : FD) : FS := (gSeq (gFor (enF (aCons (fSl (fVar 0) oNone (oSome (fC (.int 12)))) aNil)) (uTup 2 (uCons (uName 1) (uCons (uName 2) uNil))) (gSeq (gSet 3 (fCall F__law_mixed (aCons (fVar 2) (aCons (fVar 1) aNil))))
    (gSeq (gSet 4 (f2 gAdd (fC (.int 2)) (f2 gMod (fVar 3) (fC (.int 7)))))
    (gSeq (gSet 5 (fCall F__law_word (aCons (f2 gDiv (fVar 3) (fC (.int 7))) (aCons (fVar 4) (aCons (fC (.int 24)) aNil)))))
    (gSeq (gSet 6 (fCall F__law_curve (aCons (fVar 4) (aCons (fVar 5) aNil))))
    (gSeq (gIf (tOrF (tNotF (fTru (fCall F__law_same (aCons (fCall F_plain_curve (aCons (fVar 4) aNil)) (aCons (f2 gMul (fTup (aCons (fC (.int 0)) (aCons (fC (.int 1)) aNil))) (fVar 4)) aNil))))) (tNotF (fTru (fCall F__law_same (aCons (fCall F_curve_of (aCons (fVar 4) (aCons (fVar 5) aNil))) (aCons (fVar 6) aNil)))))) (gRet (fC (.bool false))) gNil)
    (gSeq (gSet 7 (f2 gMod (f2 gDiv (fVar 3) (f2 gPow (fC (.int 10)) (fC (.int 12)))) (f2 gAdd (fC1 gLen (aCons (fVar 5) aNil)) (fC (.int 1)))))
    (gSeq (gSet 8 (fCall F_curve_of (aCons (fVar 4) (aCons (fSl (fVar 5) oNone (oSome (fVar 7))) aNil))))
    (gSeq (gSet 9 (fC1 gTuple (aCons (fVar 8) aNil)))
    (gSeq (gIf (tOrF (tNotF (fTru (fCall F__law_same (aCons (fCall F_carried (aCons (fVar 8) (aCons (fSl (fVar 5) (oSome (fVar 7)) oNone) aNil))) (aCons (fVar 6) aNil))))) (fB (f2 gNe (fVar 8) (fVar 9)))) (gRet (fC (.bool false))) gNil)
    (gIf (tOrF (tNotF (fTru (fCall F__law_same (aCons (fCall F_lean (aCons (fVar 6) aNil)) (aCons (fCall F__law_lean (aCons (fVar 6) aNil)) aNil))))) (tNotF (fTru (fCall F__law_same (aCons (fCall F_carried (aCons (fVar 6) (aCons (fTup aNil) aNil))) (aCons (fVar 6) aNil)))))) (gRet (fC (.bool false))) gNil)))))))))))
    (gRet (fC (.bool true))))
theorem ok_law {P : Program} {w : World} {K : PySem.W.Frag} {mg : Str → Option Value} {base : Heap} {f : Addr} {fd : FuncData} {k : Nat} (F : Fun K "law" "law" s_law f fd) {F__law_same : FD} {f__law_same : Addr} {fd__law_same : FuncData} {j__law_same : Nat} (G__law_same : FnOk P w K mg base CX0 j__law_same f__law_same fd__law_same ["told", "due"] (spD K 2 F__law_same)) (l__law_same : j__law_same ≤ k) (m__law_same : mg "_law_same" = some (.ref f__law_same)) (k__law_same : PySem.W.keepIn K (.ref f__law_same) = true) (b__law_same : Binds K fd__law_same ["told", "due"] []) {F_lean : FD} {f_lean : Addr} {fd_lean : FuncData} {j_lean : Nat} (G_lean : FnOk P w K mg base CX0 j_lean f_lean fd_lean ["curve"] (spD K 1 F_lean)) (l_lean : j_lean ≤ k) (m_lean : mg "lean" = some (.ref f_lean)) (k_lean : PySem.W.keepIn K (.ref f_lean) = true) (b_lean : Binds K fd_lean ["curve"] []) {F__law_lean : FD} {f__law_lean : Addr} {fd__law_lean : FuncData} {j__law_lean : Nat} (G__law_lean : FnOk P w K mg base CX0 j__law_lean f__law_lean fd__law_lean ["curve"] (spD K 1 F__law_lean)) (l__law_lean : j__law_lean ≤ k) (m__law_lean : mg "_law_lean" = some (.ref f__law_lean)) (k__law_lean : PySem.W.keepIn K (.ref f__law_lean) = true) (b__law_lean : Binds K fd__law_lean ["curve"] []) {F_carried : FD} {f_carried : Addr} {fd_carried : FuncData} {j_carried : Nat} (G_carried : FnOk P w K mg base CX0 j_carried f_carried fd_carried ["curve", "word"] (spD K 2 F_carried)) (l_carried : j_carried ≤ k) (m_carried : mg "carried" = some (.ref f_carried)) (k_carried : PySem.W.keepIn K (.ref f_carried) = true) (b_carried : Binds K fd_carried ["curve", "word"] []) {F_curve_of : FD} {f_curve_of : Addr} {fd_curve_of : FuncData} {j_curve_of : Nat} (G_curve_of : FnOk P w K mg base CX0 j_curve_of f_curve_of fd_curve_of ["strands", "word"] (spD K 2 F_curve_of)) (l_curve_of : j_curve_of ≤ k) (m_curve_of : mg "curve_of" = some (.ref f_curve_of)) (k_curve_of : PySem.W.keepIn K (.ref f_curve_of) = true) (b_curve_of : Binds K fd_curve_of ["strands", "word"] []) {F_plain_curve : FD} {f_plain_curve : Addr} {fd_plain_curve : FuncData} {j_plain_curve : Nat} (G_plain_curve : FnOk P w K mg base CX0 j_plain_curve f_plain_curve fd_plain_curve ["strands"] (spD K 1 F_plain_curve)) (l_plain_curve : j_plain_curve ≤ k) (m_plain_curve : mg "plain_curve" = some (.ref f_plain_curve)) (k_plain_curve : PySem.W.keepIn K (.ref f_plain_curve) = true) (b_plain_curve : Binds K fd_plain_curve ["strands"] []) {F__law_curve : FD} {f__law_curve : Addr} {fd__law_curve : FuncData} {j__law_curve : Nat} (G__law_curve : FnOk P w K mg base CX0 j__law_curve f__law_curve fd__law_curve ["strands", "word"] (spD K 2 F__law_curve)) (l__law_curve : j__law_curve ≤ k) (m__law_curve : mg "_law_curve" = some (.ref f__law_curve)) (k__law_curve : PySem.W.keepIn K (.ref f__law_curve) = true) (b__law_curve : Binds K fd__law_curve ["strands", "word"] []) {F__law_word : FD} {f__law_word : Addr} {fd__law_word : FuncData} {j__law_word : Nat} (G__law_word : FnOk P w K mg base CX0 j__law_word f__law_word fd__law_word ["value", "strands", "most"] (spD K 3 F__law_word)) (l__law_word : j__law_word ≤ k) (m__law_word : mg "_law_word" = some (.ref f__law_word)) (k__law_word : PySem.W.keepIn K (.ref f__law_word) = true) (b__law_word : Binds K fd__law_word ["value", "strands", "most"] []) {F__law_mixed : FD} {f__law_mixed : Addr} {fd__law_mixed : FuncData} {j__law_mixed : Nat} (G__law_mixed : FnOk P w K mg base CX0 j__law_mixed f__law_mixed fd__law_mixed ["cell", "turn"] (spD K 2 F__law_mixed)) (l__law_mixed : j__law_mixed ≤ k) (m__law_mixed : mg "_law_mixed" = some (.ref f__law_mixed)) (k__law_mixed : PySem.W.keepIn K (.ref f__law_mixed) = true) (b__law_mixed : Binds K fd__law_mixed ["cell", "turn"] []) (m_enumerate : mg "enumerate" = none) (m_tuple : mg "tuple" = none) (m_len : mg "len" = none) :
    FnOk P w K mg base CX0 (k + 1) f fd ["script"] (spD K 1 (runD 10 (g_law F__law_same F_lean F__law_lean F_carried F_curve_of F_plain_curve F__law_curve F__law_word F__law_mixed))) :=
  have nd := (sc_law).nd
  def_ok F sc_law fun cdv A outer s H E hr =>
  (ss_cons (s_forE (n := 2) m_enumerate (a_cons (d_sl (d_var 0) p_none (p_some d_int)) a_nil) (gs_cons (g_name 1 nd) (gs_cons (g_name 2 nd) gs_nil)) (ss_cons (s_set 3 nd (d_call G__law_mixed (hr.mono l__law_mixed) m__law_mixed k__law_mixed b__law_mixed (a_cons (d_var 2) (a_cons (d_var 1) a_nil)) (al_cons (al_cons al_nil))))
    (ss_cons (s_set 4 nd (d_add d_int (d_mod (d_var 3) d_int)))
    (ss_cons (s_set 5 nd (d_call G__law_word (hr.mono l__law_word) m__law_word k__law_word b__law_word (a_cons (d_div (d_var 3) d_int) (a_cons (d_var 4) (a_cons d_int a_nil))) (al_cons (al_cons (al_cons al_nil)))))
    (ss_cons (s_set 6 nd (d_call G__law_curve (hr.mono l__law_curve) m__law_curve k__law_curve b__law_curve (a_cons (d_var 4) (a_cons (d_var 5) a_nil)) (al_cons (al_cons al_nil))))
    (ss_cons (s_if (t_bool (w_or (t_not (t_tru (d_call G__law_same (hr.mono l__law_same) m__law_same k__law_same b__law_same (a_cons (d_call G_plain_curve (hr.mono l_plain_curve) m_plain_curve k_plain_curve b_plain_curve (a_cons (d_var 4) a_nil) (al_cons al_nil)) (a_cons (d_mul (d_tup (a_cons d_int (a_cons d_int a_nil))) (d_var 4)) a_nil)) (al_cons (al_cons al_nil))))) (w_or1 (t_not (t_tru (d_call G__law_same (hr.mono l__law_same) m__law_same k__law_same b__law_same (a_cons (d_call G_curve_of (hr.mono l_curve_of) m_curve_of k_curve_of b_curve_of (a_cons (d_var 4) (a_cons (d_var 5) a_nil)) (al_cons (al_cons al_nil))) (a_cons (d_var 6) a_nil)) (al_cons (al_cons al_nil)))))))) (ss_one (s_ret d_bl)) ss_nil)
    (ss_cons (s_set 7 nd (d_mod (d_div (d_var 3) (d_pow d_int d_int)) (d_add (d_blt call_len c_len m_len (by decide +kernel) (a_cons (d_var 5) a_nil)) d_int)))
    (ss_cons (s_set 8 nd (d_call G_curve_of (hr.mono l_curve_of) m_curve_of k_curve_of b_curve_of (a_cons (d_var 4) (a_cons (d_sl (d_var 5) p_none (p_some (d_var 7))) a_nil)) (al_cons (al_cons al_nil))))
    (ss_cons (s_set 9 nd (d_ty call_tupleF c_tuple m_tuple (by decide +kernel) (a_cons (d_var 8) a_nil)))
    (ss_cons (s_if (t_bool (w_or (t_not (t_tru (d_call G__law_same (hr.mono l__law_same) m__law_same k__law_same b__law_same (a_cons (d_call G_carried (hr.mono l_carried) m_carried k_carried b_carried (a_cons (d_var 8) (a_cons (d_sl (d_var 5) (p_some (d_var 7)) p_none) a_nil)) (al_cons (al_cons al_nil))) (a_cons (d_var 6) a_nil)) (al_cons (al_cons al_nil))))) (w_or1 (t_cmp (op_neD hr.units) o_ne (d_var 8) (d_var 9) (nomark _))))) (ss_one (s_ret d_bl)) ss_nil)
    (ss_one (s_if (t_bool (w_or (t_not (t_tru (d_call G__law_same (hr.mono l__law_same) m__law_same k__law_same b__law_same (a_cons (d_call G_lean (hr.mono l_lean) m_lean k_lean b_lean (a_cons (d_var 6) a_nil) (al_cons al_nil)) (a_cons (d_call G__law_lean (hr.mono l__law_lean) m__law_lean k__law_lean b__law_lean (a_cons (d_var 6) a_nil) (al_cons al_nil)) a_nil)) (al_cons (al_cons al_nil))))) (w_or1 (t_not (t_tru (d_call G__law_same (hr.mono l__law_same) m__law_same k__law_same b__law_same (a_cons (d_call G_carried (hr.mono l_carried) m_carried k_carried b_carried (a_cons (d_var 6) (a_cons (d_tup a_nil) a_nil)) (al_cons (al_cons al_nil))) (a_cons (d_var 6) a_nil)) (al_cons (al_cons al_nil)))))))) (ss_one (s_ret d_bl)) ss_nil))))))))))))
    (ss_one (s_ret d_bl)))
/-! ### what each def yields -/
def R_plain_curve : FD := runD 1 (g_plain_curve)
def R__crossed : FD := runD 5 (g__crossed)
def R__crossed_back : FD := runD 5 (g__crossed_back)
def R_carried : FD := runD 9 (g_carried R__crossed R__crossed_back)
def R_curve_of : FD := runD 2 (g_curve_of R_carried R_plain_curve)
def R_lean : FD := runD 2 (g_lean)
def R__law_mixed : FD := runD 6 (g__law_mixed)
def R__law_word : FD := runD 7 (g__law_word)
def R__law_up : FD := runD 1 (g__law_up)
def R__law_down : FD := runD 1 (g__law_down)
def R__law_carried : FD := runD 12 (g__law_carried R__law_down R__law_up)
def R__law_curve : FD := runD 2 (g__law_curve R__law_carried)
def R__law_lean : FD := runD 2 (g__law_lean)
def R__law_same_0 : FD := fun _ => none
def R__law_same_1 : FD := runD 3 (g__law_same R__law_same_0)
def R__law_same_2 : FD := runD 3 (g__law_same R__law_same_1)
def R__law_same : FD := R__law_same_2
def R_law : FD := runD 10 (g_law R__law_same R_lean R__law_lean R_carried R_curve_of R_plain_curve R__law_curve R__law_word R__law_mixed)
end K25
/-! the laws' own words about rows, as their meanings stand -/
namespace DL
open PySem PySem.Spec PyProof.Rows L2
/-- slots 0 strands, 1 word, 2 row, 3 letter, 4 k -/
def G_row : FS := (gSeq (gSetO 2 (fLc (rg1 (aCons (fVar 0) aNil)) 4 cYes (fVar 4) [4]))
    (gSeq (gFor (itF (fVar 1)) (uName 3) (gSeq (gSet 4 (fC1 gAbs (aCons (fVar 3) aNil)))
    (gSwap 2 (f2 gMinus (fVar 4) (fC (.int 1))) (fVar 4) (aCons (f2 gIx (fVar 2) (fVar 4)) (aCons (f2 gIx (fVar 2) (f2 gMinus (fVar 4) (fC (.int 1)))) aNil)))))
    (gRet (fC1 gTuple (aCons (fVar 2) aNil)))))
/-- slots 0 row, 1 k -/
def G_ends : FS := (gRet (fLc (rg2 (aCons (fC (.int 1)) (aCons (fC1 gLen (aCons (fVar 0) aNil)) aNil))) 1 (fB (f2 gGt (f2 gIx (fVar 0) (f2 gMinus (fVar 1) (fC (.int 1)))) (f2 gIx (fVar 0) (fVar 1)))) (fVar 1) [1]))
/-- slots 0 row, 1 k -/
def G_starts : FS := (gRet (fLc (rg2 (aCons (fC (.int 1)) (aCons (fC1 gLen (aCons (fVar 0) aNil)) aNil))) 1 (fB (f2 gLt (fTix (fVar 0) (fVar 1)) (fTix (fVar 0) (f2 gMinus (fVar 1) (fC (.int 1)))))) (fVar 1) [1]))
/-- slots 0 row, 1 letter, 2 item -/
def G_rest : FS := (gRet (fC1 gTuple (aCons (fLc (itR (fVar 0)) 2 cYes (fDg2 (fVar 1) (f2 gMinus (fVar 1) (fC (.int 1))) (f2 gMinus (fVar 1) (fC (.int 1))) (fVar 1) (fVar 2) (fVar 2)) [2]) aNil)))
/-- slots 0 value, 1 strands, 2 rest, 3 row, 4 spare, 5 k -/
def G_drawn_row : FS := (gSeq (gSetO 2 (fLc (rg1 (aCons (fVar 1) aNil)) 5 cYes (fVar 5) [5]))
    (gSeq (gSetO 3 (fLst aNil))
    (gSeq (gFor (rg1 (aCons (fVar 1) aNil)) (uName 4) (gSeq (gAppPop 3 2 (f2 gMod (fVar 0) (fC1 gLen (aCons (fVar 2) aNil))))
    (gSet 0 (f2 gDiv (fVar 0) (f2 gAdd (f2 gMinus (fVar 1) (fC1 gLen (aCons (fVar 3) aNil))) (fC (.int 1)))))))
    (gRet (fC1 gTuple (aCons (fVar 3) aNil))))))
/-- slots 0 row, 1 word, 2 letter -/
def G_row_word (F__law_starts : FD) (F__law_rest : FD) (mu__law_row_word_1 : Rho → Nat) : FS := (gSeq (gSetO 1 (fLst aNil))
    (gSeq (gWh mu__law_row_word_1 (fB (f2 gNe (fCall F__law_starts (aCons (fVar 0) aNil)) (fLst aNil))) (gSeq (gSet 2 (f2 gIx (fCall F__law_starts (aCons (fVar 0) aNil)) (fC (.int 0))))
    (gSeq (gApp 1 (fVar 2))
    (gSet 0 (fCall F__law_rest (aCons (fVar 0) (aCons (fVar 2) aNil)))))))
    (gRet (fC1 gTuple (aCons (fVar 1) aNil)))))
/-- rows: lists of numbers; n strands -/
def swp (r : List Int) (w : Int) : List Int := (r.set (w.natAbs - 1) (r.getD w.natAbs 0)).set w.natAbs (r.getD (w.natAbs - 1) 0)
def plainR (n : Nat) : List Int := (List.range n).map fun i : Nat => (i : Int)
def rowR (n : Nat) (ws : List Int) : List Int := ws.foldl swp (plainR n)
theorem swp_len (r : List Int) (w : Int) : (swp r w).length = r.length := by unfold swp; rw [List.length_set, List.length_set]
theorem rowR_len (n : Nat) (ws : List Int) : (rowR n ws).length = n := by
  unfold rowR
  have key : ∀ (ws : List Int) (r : List Int), (ws.foldl swp r).length = r.length := fun ws => by
    induction ws with
    | nil => intro r; rfl
    | cons w ws ih => intro r; rw [List.foldl_cons, ih, swp_len]
  rw [key]
  unfold plainR
  rw [List.length_map, List.length_range]
theorem ixN_nat {n j : Nat} (h : j < n) : ixN n (j : Int) = some j := by
  unfold ixN
  rw [if_pos (by omega), if_pos (by omega)]
  rfl
theorem r_row {s : Int} {ws : List Int} (hs1 : 2 ≤ s) (hs2 : s ≤ 1000) (hl : ws.length ≤ 1000) (hw : ∀ w ∈ ws, w ≠ 0 ∧ -s < w ∧ w < s) : runD 5 G_row [.int s, wd ws] = some (wd (rowR s.toNat ws)) := by
  simp -implicitDefEqProofs [runD_eq, G_row, Option.bind_assoc, -List.map_map]
  rw [rg1_ok (by omega) (by omega), Option.bind_some, if_pos (by rw [rgD_len]; omega), rgD0, lcD_all (e := fun i : Nat => PyData.int (i : Int)) (e' := PyData.int) (fun i : Nat => (i : Int))]
  · simp -implicitDefEqProofs [-List.map_map, Option.bind_assoc]
    refine forD_all (fun i ρ => ∃ x y, ρ = [Slot.d (.int s), Slot.d (wd ws), Slot.own ((rowR s.toNat (ws.take i)).map PyData.int), x, y]) ⟨.und, .und, rfl⟩ ?_ ?_
    · rintro i x ρ hi ⟨x0, y0, rfl⟩
      obtain ⟨w, hw1, rfl⟩ := map_get hi
      obtain ⟨h0, h1, h2⟩ := hw w (List.mem_of_getElem? hw1)
      have e : rowR s.toNat (ws.take (i + 1)) = swp (rowR s.toNat (ws.take i)) w := by
        unfold rowR
        rw [List.take_succ, hw1, List.foldl_append]
        rfl
      have hlen := rowR_len s.toNat (ws.take i)
      rw [e]
      generalize rowR s.toNat (ws.take i) = r at hlen
      have ea : (if w < 0 then -w else w) = ((w.natAbs : Nat) : Int) := by omega
      have eb : ((w.natAbs : Nat) : Int) - 1 = ((w.natAbs - 1 : Nat) : Int) := by omega
      have l1 : w.natAbs < r.length := by omega
      have l2 : w.natAbs - 1 < r.length := by omega
      have g1 : atI (r.map PyData.int) ((w.natAbs : Nat) : Int) = some (.int (r.getD w.natAbs 0)) := atI_nat (by rw [List.getElem?_map, List.getElem?_eq_getElem l1]; simp [List.getD, List.getElem?_eq_getElem l1])
      have g2 : atI (r.map PyData.int) ((w.natAbs - 1 : Nat) : Int) = some (.int (r.getD (w.natAbs - 1) 0)) := atI_nat (by rw [List.getElem?_map, List.getElem?_eq_getElem l2]; simp [List.getD, List.getElem?_eq_getElem l2])
      refine goes_at (ρ1 := [Slot.d (.int s), Slot.d (wd ws), Slot.own (r.map PyData.int), Slot.d (.int w), y0]) rfl ?_
      refine goes_seq (fun ρ => ρ = [Slot.d (.int s), Slot.d (wd ws), Slot.own (r.map PyData.int), Slot.d (.int w), Slot.d (.int ((w.natAbs : Nat) : Int))]) ⟨_, by simp -implicitDefEqProofs [ea], rfl⟩ ?_
      rintro ρ rfl
      refine goes_one ⟨[Slot.d (.int s), Slot.d (wd ws), Slot.own ((swp r w).map PyData.int), Slot.d (.int w), Slot.d (.int ((w.natAbs : Nat) : Int))], ?_, _, _, rfl⟩
      simp -implicitDefEqProofs [gSwap, eb, g1, g2, ixN_nat l1, ixN_nat l2, swp]
    · rintro ρ ⟨x, y, rfl⟩
      simp -implicitDefEqProofs
  · intro x hx; simp
  · intro x hx; simp
def endsR (r : List Int) : List Int := ((List.range (r.length - 1)).filter fun i => decide (r.getD (i + 1) 0 < r.getD i 0)).map fun i : Nat => (i : Int) + 1
theorem rgD1 (n : Nat) : rgD 1 n = (List.range n).map fun i : Nat => PyData.int ((i : Int) + 1) := by
  unfold rgD
  congr 1
  funext i
  rw [Int.add_comm]
theorem atI_int {r : List Int} {i : Nat} (h : i < r.length) : atI (r.map PyData.int) (i : Int) = some (.int (r.getD i 0)) := atI_nat (by rw [List.getElem?_map, List.getElem?_eq_getElem h]; simp [List.getD, List.getElem?_eq_getElem h])
theorem rg2_len {r : List Int} {ρ : Rho} {f : FA} (hl : r.length ≤ 1000) (h : f ρ = some [.fz (.int 1), .fz (.int (r.length : Int))]) : rg2 f ρ = some (rgD 1 (r.length - 1)) := by
  rw [rg2_eq, h, Option.bind_some]
  show rg2S [.int 1, .int (r.length : Int)] = _
  rw [rg2_ok (by omega) (by omega) (by omega) (by omega)]
  congr 2
  omega
theorem r_ends {r : List Int} (hl : r.length ≤ 1000) : runD 2 G_ends [wd r] = some (.list ((endsR r).map PyData.int)) := by
  have h1 : rg2 (aCons (fC (.int 1)) (aCons (fC1 gLen (aCons (fVar 0) aNil)) aNil)) [Slot.d (wd r), .und] = some (rgD 1 (r.length - 1)) := rg2_len hl (by simp -implicitDefEqProofs)
  simp -implicitDefEqProofs only [runD_eq, G_ends, gRet_eq, fLc_eq, startR_eq, List.map_cons, List.map_nil, List.length_cons, List.length_nil, List.cons_append, List.nil_append, List.replicate]
  rw [h1, Option.bind_some, if_pos (by rw [rgD_len]; omega), rgD1, lcD_gen (e := fun i : Nat => PyData.int ((i : Int) + 1)) (e' := PyData.int) (fun i => decide (r.getD (i + 1) 0 < r.getD i 0)) (fun i : Nat => (i : Int) + 1)]
  · rfl
  · intro x hx
    have hx' := List.mem_range.mp hx
    have g1 := atI_int (r := r) (i := x) (by omega)
    have g2 := atI_int (r := r) (i := x + 1) (by omega)
    have e1 : ((x + 1 : Nat) : Int) = (x : Int) + 1 := by omega
    have e2 : (x : Int) + 1 - 1 = (x : Int) := by omega
    rw [e1] at g2
    simp -implicitDefEqProofs [g1, g2, e2]
  · intro x hx _; simp
/-- the place of a number -/
def posI : List Int → Int → Nat
  | [], _ => 0
  | x :: xs, k => if x = k then 0 else posI xs k + 1
theorem ixD_ints {k : Int} : ∀ {r : List Int}, k ∈ r → ixD (.int k) (r.map PyData.int) = some (posI r k)
  | [], h => by cases h
  | x :: xs, h => by
    rw [List.map_cons]
    unfold ixD posI
    rw [eqv_int]
    by_cases e : x = k
    · rw [if_pos (decide_eq_true e), if_pos e]
    · rw [if_neg (by simp [e]), if_neg e, ixD_ints ((List.mem_cons.mp h).resolve_left (Ne.symm e))]
      rfl
structure Row (n : Nat) (r : List Int) : Prop where
  p : r.Perm (plainR n)
theorem plainR_len (n : Nat) : (plainR n).length = n := by unfold plainR; rw [List.length_map, List.length_range]
theorem mem_plainR {n : Nat} {x : Int} : x ∈ plainR n ↔ 0 ≤ x ∧ x < n := by
  unfold plainR
  rw [List.mem_map]
  constructor
  · rintro ⟨k, hk, rfl⟩
    have := List.mem_range.mp hk
    omega
  · intro h
    exact ⟨x.toNat, List.mem_range.mpr (by omega), by omega⟩
theorem Row.len {n : Nat} {r : List Int} (h : Row n r) : r.length = n := by rw [h.p.length_eq, plainR_len]
theorem Row.mem {n : Nat} {r : List Int} (h : Row n r) {x : Int} : x ∈ r ↔ 0 ≤ x ∧ x < n := by rw [h.p.mem_iff, mem_plainR]
theorem Row.all {n : Nat} {r : List Int} (h : Row n r) (k : Nat) (hk : k < n) : (k : Int) ∈ r := h.mem.mpr (by omega)
theorem plainR_nodup (n : Nat) : (plainR n).Nodup := by
  unfold plainR
  exact List.Pairwise.map _ (fun a b h z => h (by omega)) List.nodup_range
theorem Row.nd {n : Nat} {r : List Int} (h : Row n r) : r.Nodup := h.p.nodup_iff.mpr (plainR_nodup n)
def startsR (r : List Int) : List Int := ((List.range (r.length - 1)).filter fun i : Nat => decide (posI r ((i : Int) + 1) < posI r (i : Int))).map fun i : Nat => (i : Int) + 1
theorem r_starts {n : Nat} {r : List Int} (hr : Row n r) (hn : n ≤ 1000) : runD 2 G_starts [wd r] = some (.list ((startsR r).map PyData.int)) := by
  have hl := hr.len
  have h1 : rg2 (aCons (fC (.int 1)) (aCons (fC1 gLen (aCons (fVar 0) aNil)) aNil)) [Slot.d (wd r), .und] = some (rgD 1 (r.length - 1)) := rg2_len (by omega) (by simp -implicitDefEqProofs)
  simp -implicitDefEqProofs only [runD_eq, G_starts, gRet_eq, fLc_eq, startR_eq, List.map_cons, List.map_nil, List.length_cons, List.length_nil, List.cons_append, List.nil_append, List.replicate]
  rw [h1, Option.bind_some, if_pos (by rw [rgD_len]; omega), rgD1, lcD_gen (e := fun i : Nat => PyData.int ((i : Int) + 1)) (e' := PyData.int) (fun i => decide (posI r ((i : Int) + 1) < posI r (i : Int))) (fun i : Nat => (i : Int) + 1)]
  · rfl
  · intro x hx
    have hx' := List.mem_range.mp hx
    have m1 := hr.all x (by omega)
    have m2 := hr.all (x + 1) (by omega)
    have e1 : ((x + 1 : Nat) : Int) = (x : Int) + 1 := by omega
    have e2 : (x : Int) + 1 - 1 = (x : Int) := by omega
    rw [e1] at m2
    simp -implicitDefEqProofs [ixD_ints m1, ixD_ints m2, e2]
  · intro x hx _; simp
def restR (w : Int) (r : List Int) : List Int := r.map fun x => if x = w - 1 then w else if x = w then w - 1 else x
theorem r_rest {w : Int} {r : List Int} (hl : r.length ≤ 1000) : runD 3 G_rest [wd r, .int w] = some (wd (restR w r)) := by
  have hz : r.length ≤ 100000 := by omega
  simp -implicitDefEqProofs [runD_eq, G_rest, hz, -List.map_map]
  rw [lcD_all (e := PyData.int) (e' := PyData.int) (fun x => if x = w - 1 then w else if x = w then w - 1 else x)]
  · simp -implicitDefEqProofs [-List.map_map, restR]
  · intro x hx; simp
  · intro x hx
    simp -implicitDefEqProofs [fDg2, fzI, fzD]
end DL
namespace DL
open PySem PySem.Spec PyProof.Rows L2
theorem seqIx {m : Int} {n : Nat} (h : 0 ≤ m) (h2 : m < n) : seqIndex? m n = some m.toNat := by
  unfold seqIndex?
  have e1 : ¬ m < 0 := by omega
  simp [e1]
  omega
theorem erase_perm {α : Type} : ∀ {l : List α} {m : Nat} (hm : m < l.length), (l[m] :: l.eraseIdx m).Perm l
  | [], _, hm => absurd hm (Nat.not_lt_zero _)
  | y :: l, 0, _ => .refl _
  | y :: l, m + 1, hm => by
    rw [List.eraseIdx_cons_succ, List.getElem_cons_succ]
    exact (List.Perm.swap _ _ _).trans ((erase_perm (Nat.lt_of_succ_lt_succ hm)).cons y)
theorem erase_map {α β : Type} {f : α → β} : ∀ {l : List α} {m : Nat}, (l.map f).eraseIdx m = (l.eraseIdx m).map f
  | [], _ => by simp
  | x :: l, 0 => by simp
  | x :: l, m + 1 => by rw [List.map_cons, List.eraseIdx_cons_succ, List.eraseIdx_cons_succ, List.map_cons, erase_map]
theorem r_drawn_row {v s : Int} (hs1 : 2 ≤ s) (hs2 : s ≤ 1000) : ∃ r, Row s.toNat r ∧ runD 6 G_drawn_row [.int v, .int s] = some (wd r) := by
  have key : ∃ d, runD 6 G_drawn_row [.int v, .int s] = some d ∧ ∃ r, d = wd r ∧ Row s.toNat r := by
    simp -implicitDefEqProofs [runD_eq, G_drawn_row, Option.bind_assoc, -List.map_map]
    rw [rg1_ok (by omega) (by omega), Option.bind_some, if_pos (by rw [rgD_len]; omega), rgD0, lcD_all (e := fun i : Nat => PyData.int (i : Int)) (e' := PyData.int) (fun i : Nat => (i : Int))]
    · simp -implicitDefEqProofs [-List.map_map, Option.bind_assoc]
      rw [rg1_ok (by omega) (by omega), Option.bind_some]
      refine forD_ex (fun i ρ => ∃ (u : Int) (rest row : List Int) (x y : Slot), ρ = [.d (.int u), .d (.int s), .own (rest.map PyData.int), .own (row.map PyData.int), x, y] ∧ rest.length + i = s.toNat ∧ row.length = i ∧ (rest ++ row).Perm (plainR s.toNat)) ⟨v, plainR s.toNat, [], .und, .und, rfl, by simp [plainR], rfl, by simp⟩ ?_ ?_
      · rintro i x ρ hi ⟨u, rest, row, x0, y0, rfl, h1, h2, h3⟩
        obtain ⟨h5, rfl⟩ := rgD_get hi
        have hlt : 0 < (rest.length : Int) := by omega
        have m1 := Int.emod_nonneg u (show (rest.length : Int) ≠ 0 by omega)
        have m2 := Int.emod_lt_of_pos u hlt
        have hm : (u % (rest.length : Int)).toNat < rest.length := by omega
        have sx := seqIx m1 m2
        have gx : (rest.map PyData.int)[(u % (rest.length : Int)).toNat]? = some (.int rest[(u % (rest.length : Int)).toNat]) := by
          rw [List.getElem?_map, List.getElem?_eq_getElem hm]
          rfl
        have ee : (rest.map PyData.int).eraseIdx (u % (rest.length : Int)).toNat = (rest.eraseIdx (u % (rest.length : Int)).toNat).map PyData.int := erase_map
        have hle := List.length_eraseIdx_of_lt hm
        generalize (u % (rest.length : Int)).toNat = m at hm sx gx ee hle
        refine goes_at (ρ1 := [.d (.int u), .d (.int s), .own (rest.map PyData.int), .own (row.map PyData.int), .d (.int (0 + (i : Int))), y0]) rfl ?_
        refine goes_seq (fun ρ => ρ = [.d (.int u), .d (.int s), .own ((rest.eraseIdx m).map PyData.int), .own ((row ++ [rest[m]]).map PyData.int), .d (.int (0 + (i : Int))), y0]) ⟨_, ?_, rfl⟩ ?_
        · have hr : row.length ≤ 100000 := by omega
          have hp : ∀ k : Int, 0 ≤ k → -(2 ^ 63) ≤ k := fun k h => by omega
          simp -implicitDefEqProofs [gAppPop, hlt, sx, gx, ee, hr]
          omega
        rintro ρ rfl
        refine goes_one ⟨[.d (.int (u / (s - ((row ++ [rest[m]]).length : Int) + 1))), .d (.int s), .own ((rest.eraseIdx m).map PyData.int), .own ((row ++ [rest[m]]).map PyData.int), .d (.int (0 + (i : Int))), y0], ?_, u / (s - ((row ++ [rest[m]]).length : Int) + 1), rest.eraseIdx m, row ++ [rest[m]], _, _, rfl, by omega, by simp [h2], ?_⟩
        · simp -implicitDefEqProofs [h2]
          omega
        · refine List.Perm.trans ?_ h3
          have q := erase_perm hm
          refine List.Perm.trans ?_ (q.append_right row)
          rw [List.cons_append]
          refine List.Perm.trans (List.Perm.append_left _ (List.perm_append_comm (l₁ := row) (l₂ := [rest[m]]))) ?_
          exact List.perm_middle
      · rintro ρ ⟨u, rest, row, x, y, rfl, h1, h2, h3⟩
        rw [rgD_len] at h1 h2
        have hr : rest = [] := List.length_eq_zero_iff.mp (by omega)
        subst hr
        exact ⟨_, rfl, row, rfl, ⟨h3⟩⟩
    · intro x hx; simp
    · intro x hx; simp
  obtain ⟨d, e, r, rfl, hr⟩ := key
  exact ⟨r, hr, e⟩
/-! ### the word of a row -/
def tr (w x : Int) : Int := if x = w - 1 then w else if x = w then w - 1 else x
theorem tr_tr (w x : Int) : tr w (tr w x) = x := by
  unfold tr
  by_cases h1 : x = w - 1
  · rw [if_pos h1, if_neg (by omega), if_pos rfl]
    omega
  · rw [if_neg h1]
    by_cases h2 : x = w
    · rw [if_pos h2, if_pos rfl]
      omega
    · rw [if_neg h2, if_neg h1, if_neg h2]
theorem restR_eq (w : Int) (r : List Int) : restR w r = r.map (tr w) := rfl
theorem restR_restR (w : Int) (r : List Int) : restR w (restR w r) = r := by
  rw [restR_eq, restR_eq, List.map_map]
  conv => rhs; rw [← List.map_id r]
  congr 1
  funext x
  exact tr_tr w x
theorem getD_map {f : Int → Int} {r : List Int} {i : Nat} (h : i < r.length) : (r.map f).getD i 0 = f (r.getD i 0) := by
  simp [List.getD, List.getElem?_eq_getElem h]
theorem swp_map {f : Int → Int} {r : List Int} {w : Int} (h : w.natAbs < r.length) : swp (r.map f) w = (swp r w).map f := by
  unfold swp
  rw [getD_map h, getD_map (by omega), List.map_set, List.map_set]
theorem fold_map {f : Int → Int} {n : Nat} : ∀ {ws : List Int} {r : List Int}, r.length = n → (∀ w ∈ ws, w.natAbs < n) → ws.foldl swp (r.map f) = (ws.foldl swp r).map f
  | [], r, _, _ => rfl
  | w :: ws, r, hl, h => by
    rw [List.foldl_cons, List.foldl_cons, swp_map (by rw [hl]; exact h w List.mem_cons_self)]
    exact fold_map (by rw [swp_len]; exact hl) fun x hx => h x (List.mem_cons_of_mem _ hx)
theorem swp_plain {n : Nat} {w : Int} (h1 : 1 ≤ w) (h2 : w < n) : swp (plainR n) w = (plainR n).map (tr w) := by
  have hl := plainR_len n
  have gp : ∀ i, i < n → (plainR n)[i]? = some (i : Int) := fun i hi => by
    unfold plainR
    rw [List.getElem?_map, List.getElem?_range hi]
    rfl
  have gd : ∀ i, i < n → (plainR n).getD i 0 = (i : Int) := fun i hi => by simp [List.getD, gp i hi]
  apply List.ext_getElem?
  intro i
  unfold swp
  rw [gd _ (by omega), gd _ (by omega), List.getElem?_map]
  by_cases hi : i < n
  · rw [gp i hi, Option.map_some]
    by_cases e1 : w.natAbs = i
    · rw [List.getElem?_set, if_pos e1, if_pos (by rw [List.length_set, hl]; omega)]
      congr 1
      unfold tr
      rw [if_neg (by omega), if_pos (by omega)]
      omega
    · rw [List.getElem?_set_ne e1]
      by_cases e2 : w.natAbs - 1 = i
      · rw [List.getElem?_set, if_pos e2, if_pos (by rw [hl]; omega)]
        congr 1
        unfold tr
        rw [if_pos (by omega)]
        omega
      · rw [List.getElem?_set_ne e2, gp i hi]
        congr 1
        unfold tr
        rw [if_neg (by omega), if_neg (by omega)]
  · rw [List.getElem?_eq_none (by simp [hl]; omega), List.getElem?_eq_none (by rw [hl]; omega)]
    rfl
theorem rowR_cons {n : Nat} {w : Int} {ws : List Int} (h1 : 1 ≤ w) (h2 : w < n) (h : ∀ x ∈ ws, x.natAbs < n) : rowR n (w :: ws) = restR w (rowR n ws) := by
  unfold rowR
  rw [List.foldl_cons, swp_plain h1 h2, fold_map (plainR_len n) h, restR_eq]
theorem Row.rest {n : Nat} {r : List Int} {w : Int} (h : Row n r) (h1 : 1 ≤ w) (h2 : w < n) : Row n (restR w r) := by
  refine ⟨(h.p.map (tr w)).trans ?_⟩
  -- the exchange of two numbers leaves the numbers
  have q := swp_plain h1 h2
  rw [← q]
  unfold swp
  have hl := plainR_len n
  have l1 : w.natAbs < (plainR n).length := by omega
  have l2 : w.natAbs - 1 < (plainR n).length := by omega
  have e1 : (plainR n).getD w.natAbs 0 = (plainR n)[w.natAbs] := by simp [List.getD, List.getElem?_eq_getElem l1]
  have e2 : (plainR n).getD (w.natAbs - 1) 0 = (plainR n)[w.natAbs - 1] := by simp [List.getD, List.getElem?_eq_getElem l2]
  rw [e1, e2]
  exact List.set_set_perm l2 l1
end DL
namespace DL
open PySem PySem.Spec PyProof.Rows L2
theorem posI_lt {k : Int} : ∀ {r : List Int}, k ∈ r → posI r k < r.length ∧ r[posI r k]? = some k
  | [], h => by cases h
  | x :: xs, h => by
    unfold posI
    by_cases e : x = k
    · rw [if_pos e]
      exact ⟨by simp, by simp [e]⟩
    · rw [if_neg e]
      obtain ⟨h1, h2⟩ := posI_lt ((List.mem_cons.mp h).resolve_left (Ne.symm e))
      exact ⟨by rw [List.length_cons]; omega, by rw [List.getElem?_cons_succ]; exact h2⟩
theorem starts_mem {n : Nat} {r : List Int} {w : Int} (hr : Row n r) (h : w ∈ startsR r) : 1 ≤ w ∧ w < n ∧ posI r w < posI r (w - 1) := by
  unfold startsR at h
  obtain ⟨i, h1, rfl⟩ := List.mem_map.mp h
  obtain ⟨h2, h3⟩ := List.mem_filter.mp h1
  have := List.mem_range.mp h2
  have := hr.len
  have e : (i : Int) + 1 - 1 = i := by omega
  rw [e]
  exact ⟨by omega, by omega, of_decide_eq_true h3⟩
def Tm : Int → List Int → Int
  | _, [] => 0
  | j, x :: xs => j * x + Tm (j + 1) xs
def Pm (k : Int) : Int → List Int → Int
  | _, [] => 0
  | j, x :: xs => (if x = k then j else 0) + Pm k (j + 1) xs
theorem Tm_rest {w : Int} : ∀ {r : List Int} {j : Int}, Tm j (restR w r) = Tm j r + Pm (w - 1) j r - Pm w j r
  | [], j => rfl
  | x :: xs, j => by
    have ih := Tm_rest (w := w) (r := xs) (j := j + 1)
    show j * tr w x + Tm (j + 1) (restR w xs) = j * x + Tm (j + 1) xs + ((if x = w - 1 then j else 0) + Pm (w - 1) (j + 1) xs) - ((if x = w then j else 0) + Pm w (j + 1) xs)
    rw [ih]
    unfold tr
    by_cases h1 : x = w - 1
    · subst h1
      rw [if_pos rfl, if_pos rfl, if_neg (by omega), Int.mul_sub]
      omega
    · rw [if_neg h1, if_neg h1]
      by_cases h2 : x = w
      · subst h2
        rw [if_pos rfl, if_pos rfl, Int.mul_sub]
        omega
      · rw [if_neg h2, if_neg h2]
        omega
theorem Pm_no {k : Int} : ∀ {r : List Int} {j : Int}, k ∉ r → Pm k j r = 0
  | [], _, _ => rfl
  | x :: xs, j, h => by
    have h1 : ¬ x = k := fun e => h (e ▸ List.mem_cons_self)
    show (if x = k then j else 0) + Pm k (j + 1) xs = 0
    rw [if_neg h1, Pm_no fun z => h (List.mem_cons_of_mem _ z)]
    rfl
theorem Pm_pos {k : Int} : ∀ {r : List Int} {j : Int}, r.Nodup → k ∈ r → Pm k j r = j + posI r k
  | [], _, _, h => by cases h
  | x :: xs, j, nd, h => by
    obtain ⟨n1, n2⟩ := List.nodup_cons.mp nd
    show (if x = k then j else 0) + Pm k (j + 1) xs = j + ((if x = k then 0 else posI xs k + 1 : Nat) : Int)
    by_cases e : x = k
    · subst e
      rw [if_pos rfl, if_pos rfl, Pm_no n1]
      rfl
    · rw [if_neg e, if_neg e, Pm_pos n2 ((List.mem_cons.mp h).resolve_left (Ne.symm e))]
      omega
theorem Tm_bound : ∀ {r : List Int} {j : Int}, 0 ≤ j → j + r.length ≤ 8 → (∀ x ∈ r, 0 ≤ x ∧ x < 8) → 0 ≤ Tm j r ∧ Tm j r ≤ 64 * r.length
  | [], j, _, _, _ => by simp [Tm]
  | x :: xs, j, h1, h2, h3 => by
    rw [List.length_cons] at h2
    obtain ⟨a1, a2⟩ := Tm_bound (r := xs) (j := j + 1) (by omega) (by omega) fun y hy => h3 y (List.mem_cons_of_mem _ hy)
    obtain ⟨b1, b2⟩ := h3 x List.mem_cons_self
    have c1 : 0 ≤ j * x := Int.mul_nonneg h1 b1
    have c2 : j * x ≤ 8 * 8 := Int.mul_le_mul (by omega) (by omega) b1 (by omega)
    show 0 ≤ j * x + Tm (j + 1) xs ∧ j * x + Tm (j + 1) xs ≤ 64 * ((xs.length + 1 : Nat) : Int)
    omega
/-- no letter to begin with: the plain row -/
theorem plain_of {n : Nat} {r : List Int} (hr : Row n r) (h : startsR r = []) : r = plainR n := by
  have hl := hr.len
  have step : ∀ i : Nat, i + 1 < n → posI r (i : Int) < posI r ((i : Int) + 1) := fun i hi => by
    have m1 := posI_lt (hr.all i (by omega))
    have m2 := posI_lt (hr.all (i + 1) hi)
    have e1 : ((i + 1 : Nat) : Int) = (i : Int) + 1 := by omega
    rw [e1] at m2
    rcases Nat.lt_trichotomy (posI r (i : Int)) (posI r ((i : Int) + 1)) with q | q | q
    · exact q
    · rw [q] at m1
      have := m1.2.symm.trans m2.2
      injection this with this
      omega
    · exfalso
      have : (i : Int) + 1 ∈ startsR r := by
        unfold startsR
        exact List.mem_map.mpr ⟨i, List.mem_filter.mpr ⟨List.mem_range.mpr (by omega), decide_eq_true q⟩, rfl⟩
      rw [h] at this
      cases this
  have low : ∀ i : Nat, i < n → i ≤ posI r (i : Int) := fun i => by
    induction i with
    | zero => intro _; exact Nat.zero_le _
    | succ i ih =>
      intro hi
      have a1 := ih (by omega)
      have a2 := step i hi
      have e1 : ((i + 1 : Nat) : Int) = (i : Int) + 1 := by omega
      rw [e1]
      omega
  have high : ∀ d i : Nat, i + d + 1 = n → posI r (i : Int) + d + 1 ≤ n := fun d => by
    induction d with
    | zero =>
      intro i hi
      have m1 := posI_lt (hr.all i (by omega))
      omega
    | succ d ih =>
      intro i hi
      have a1 := ih (i + 1) (by omega)
      have a2 := step i (by omega)
      have e1 : ((i + 1 : Nat) : Int) = (i : Int) + 1 := by omega
      rw [e1] at a1
      omega
  apply List.ext_getElem?
  intro i
  by_cases hi : i < n
  · have a1 := low i hi
    have a2 := high (n - 1 - i) i (by omega)
    have e : posI r (i : Int) = i := by omega
    have m1 := (posI_lt (hr.all i hi)).2
    rw [e] at m1
    rw [m1]
    unfold plainR
    rw [List.getElem?_map, List.getElem?_range hi]
    rfl
  · rw [List.getElem?_eq_none (by omega), List.getElem?_eq_none (by rw [plainR_len]; omega)]
/-- the word of a row, as the laws write it -/
def rwd : Nat → List Int → List Int
  | 0, _ => []
  | f + 1, r => match startsR r with
    | [] => []
    | w :: _ => w :: rwd f (restR w r)
theorem less {n : Nat} {r : List Int} {w : Int} (hn : n ≤ 8) (hr : Row n r) (h : w ∈ startsR r) : Tm 0 r < Tm 0 (restR w r) := by
  obtain ⟨h1, h2, h3⟩ := starts_mem hr h
  have m1 : w ∈ r := hr.mem.mpr (by omega)
  have m2 : w - 1 ∈ r := hr.mem.mpr (by omega)
  rw [Tm_rest, Pm_pos hr.nd m1, Pm_pos hr.nd m2]
  omega
theorem bound {n : Nat} {r : List Int} (hn : n ≤ 8) (hr : Row n r) : 0 ≤ Tm 0 r ∧ Tm 0 r ≤ 512 := by
  have hl := hr.len
  have := Tm_bound (r := r) (j := 0) (by omega) (by omega) fun x hx => by have := hr.mem.mp hx; omega
  omega
theorem rwd_ok {n : Nat} (hn : n ≤ 8) : ∀ {f : Nat} {r : List Int}, Row n r → 512 - Tm 0 r < (f : Int) → (∀ w ∈ rwd f r, 1 ≤ w ∧ w < n) ∧ rowR n (rwd f r) = r
  | 0, r, hr, hf => by
    have := bound hn hr
    omega
  | f + 1, r, hr, hf => by
    unfold rwd
    cases hs : startsR r with
    | nil => exact ⟨fun w h => (by cases h), (plain_of hr hs).symm⟩
    | cons w ws =>
      have hw : w ∈ startsR r := by rw [hs]; exact List.mem_cons_self
      obtain ⟨h1, h2, h3⟩ := starts_mem hr hw
      have hl := less hn hr hw
      obtain ⟨a1, a2⟩ := rwd_ok hn (f := f) (hr.rest h1 h2) (by omega)
      dsimp only
      refine ⟨fun x hx => ?_, ?_⟩
      · rcases List.mem_cons.mp hx with e | e
        · subst e; exact ⟨h1, h2⟩
        · exact a1 x e
      · rw [rowR_cons h1 h2 fun x hx => by have := a1 x hx; omega, a2, restR_restR]
theorem rwd_len {n : Nat} (hn : n ≤ 8) : ∀ {f : Nat} {r : List Int}, Row n r → 512 - Tm 0 r < (f : Int) → ((rwd f r).length : Int) ≤ 512 - Tm 0 r
  | 0, r, hr, hf => by
    have := bound hn hr
    omega
  | f + 1, r, hr, hf => by
    unfold rwd
    cases hs : startsR r with
    | nil =>
      have := bound hn hr
      show ((0 : Nat) : Int) ≤ _
      omega
    | cons w ws =>
      have hw : w ∈ startsR r := by rw [hs]; exact List.mem_cons_self
      obtain ⟨h1, h2, h3⟩ := starts_mem hr hw
      have hl := less hn hr hw
      have := rwd_len hn (f := f) (hr.rest h1 h2) (by omega)
      show (((rwd f (restR w r)).length + 1 : Nat) : Int) ≤ _
      omega
theorem wh_row {n : Nat} (hn : n ≤ 8) {FS' FR : FD} (hS : ∀ r, Row n r → FS' [wd r] = some (.list ((startsR r).map PyData.int))) (hR : ∀ r w, Row n r → FR [wd r, .int w] = some (wd (restR w r))) : ∀ (f : Nat) (r ws : List Int) (x : Slot), Row n r → 512 - Tm 0 r < (f : Int) → (ws.length : Int) ≤ Tm 0 r →
    ∃ r' x', whD (fB (f2 gNe (fCall FS' (aCons (fVar 0) aNil)) (fLst aNil))) (gSeq (gSet 2 (f2 gIx (fCall FS' (aCons (fVar 0) aNil)) (fC (.int 0)))) (gSeq (gApp 1 (fVar 2)) (gSet 0 (fCall FR (aCons (fVar 0) (aCons (fVar 2) aNil)))))) f [.d (wd r), .own (ws.map PyData.int), x]
      = some (.nx [.d (wd r'), .own ((ws ++ rwd f r).map PyData.int), x'])
  | 0, r, ws, x, hr, hf, _ => by
    have := bound hn hr
    omega
  | f + 1, r, ws, x, hr, hf, hw => by
    have hb := bound hn hr
    unfold whD
    cases hs : startsR r with
    | nil =>
      refine ⟨r, x, ?_⟩
      have e := hS r hr
      rw [hs] at e
      have ell : (PyData.list []).eqv (.list []) = true := by simp [PyData.eqv, PyData.eqvAll]
      simp -implicitDefEqProofs [e, ell, rwd, hs]
    | cons w vs =>
      have hw' : w ∈ startsR r := by rw [hs]; exact List.mem_cons_self
      obtain ⟨h1, h2, h3⟩ := starts_mem hr hw'
      have hl := less hn hr hw'
      obtain ⟨r', x', e'⟩ := wh_row hn hS hR f (restR w r) (ws ++ [w]) (.d (.int w)) (hr.rest h1 h2) (by omega) (by rw [List.length_append, List.length_singleton]; omega)
      refine ⟨r', x', ?_⟩
      have e := hS r hr
      rw [hs] at e
      have e2 := hR r w hr
      have sh : SeqAt.shaped (.list (.int w :: vs.map PyData.int)) = true := shaped_ints_l (ns := w :: vs)
      have ne : (PyData.list (.int w :: vs.map PyData.int)).eqv (.list []) = false := by simp [PyData.eqv, PyData.eqvAll]
      have small' : ws.length ≤ 100000 := by omega
      simp -implicitDefEqProofs [e, e2, sh, ne, small']
      have er : rwd (f + 1) r = w :: rwd f (restR w r) := by
        show (match startsR r with
          | [] => []
          | w :: _ => w :: rwd f (restR w r)) = _
        rw [hs]
      rw [er]
      have ea : ws ++ w :: rwd f (restR w r) = (ws ++ [w]) ++ rwd f (restR w r) := by simp
      simpa using e'
theorem r_row_word {n : Nat} (hn : n ≤ 8) {FS' FR : FD} (hS : ∀ r, Row n r → FS' [wd r] = some (.list ((startsR r).map PyData.int))) (hR : ∀ r w, Row n r → FR [wd r, .int w] = some (wd (restR w r))) {r : List Int} (hr : Row n r) :
    runD 3 (G_row_word FS' FR (fun _ => 1000)) [wd r] = some (wd (rwd 1000 r)) := by
  have hb := bound hn hr
  obtain ⟨r', x', e⟩ := wh_row hn hS hR 1000 r [] .und hr (by omega) (by simp; omega)
  simp only [List.map_nil, List.nil_append] at e
  simp -implicitDefEqProofs [runD_eq, G_row_word, Option.bind_assoc]
  rw [gWh, e, Option.bind_some]
  simp -implicitDefEqProofs
end DL
/-! the laws' own words about curves -/
namespace DL
open PySem PySem.Spec PyProof.Rows L2
/-- slots 0 x -/
def G_up : FS := (gRet (fIf (fB (f2 gGt (fVar 0) (fC (.int 0)))) (fVar 0) (fC (.int 0))))
/-- slots 0 x -/
def G_down : FS := (gRet (fIf (fB (f2 gLt (fVar 0) (fC (.int 0)))) (fVar 0) (fC (.int 0))))
/-- slots 0 curve, 1 word, 2 pairs, 3 letter, 4 found, 5 pair, 6 k, 7 a, 8 b, 9 c, 10 d, 11 e -/
def G_carried (F__law_down : FD) (F__law_up : FD) : FS := (gSeq (gSetO 2 (fLc (rg1 (aCons (f2 gDiv (fC1 gLen (aCons (fVar 0) aNil)) (fC (.int 2))) aNil)) 6 cYes (fC1 gList (aCons (fSl (fVar 0) (oSome (f2 gMul (fC (.int 2)) (fVar 6))) (oSome (f2 gAdd (f2 gMul (fC (.int 2)) (fVar 6)) (fC (.int 2))))) aNil)) [6]))
    (gSeq (gFor (itF (fVar 1)) (uName 3) (gSeq (gSet 6 (f2 gMinus (fC1 gAbs (aCons (fVar 3) aNil)) (fC (.int 1))))
    (gSeq (gAsg (uTup 2 (uCons (uName 7) (uCons (uName 8) uNil))) (f2 gIx (fVar 2) (fVar 6)))
    (gSeq (gAsg (uTup 2 (uCons (uName 9) (uCons (uName 10) uNil))) (f2 gIx (fVar 2) (f2 gAdd (fVar 6) (fC (.int 1)))))
    (gIf (fB (f2 gGt (fVar 3) (fC (.int 0)))) (gSeq (gSet 11 (f2 gAdd (f2 gMinus (f2 gMinus (fVar 7) (fCall F__law_down (aCons (fVar 8) aNil))) (fVar 9)) (fCall F__law_up (aCons (fVar 10) aNil))))
    (gSeq (gPut 2 (fVar 6) (fLst (aCons (f2 gAdd (f2 gAdd (fVar 7) (fCall F__law_up (aCons (fVar 8) aNil))) (fCall F__law_up (aCons (f2 gMinus (fCall F__law_up (aCons (fVar 10) aNil)) (fVar 11)) aNil))) (aCons (f2 gMinus (fVar 10) (fCall F__law_up (aCons (fVar 11) aNil))) aNil))))
    (gPut 2 (f2 gAdd (fVar 6) (fC (.int 1))) (fLst (aCons (f2 gAdd (f2 gAdd (fVar 9) (fCall F__law_down (aCons (fVar 10) aNil))) (fCall F__law_down (aCons (f2 gAdd (fCall F__law_down (aCons (fVar 8) aNil)) (fVar 11)) aNil))) (aCons (f2 gAdd (fVar 8) (fCall F__law_up (aCons (fVar 11) aNil))) aNil)))))) (gSeq (gSet 11 (f2 gMinus (f2 gMinus (f2 gAdd (fVar 7) (fCall F__law_down (aCons (fVar 8) aNil))) (fVar 9)) (fCall F__law_up (aCons (fVar 10) aNil))))
    (gSeq (gPut 2 (fVar 6) (fLst (aCons (f2 gMinus (f2 gMinus (fVar 7) (fCall F__law_up (aCons (fVar 8) aNil))) (fCall F__law_up (aCons (f2 gAdd (fCall F__law_up (aCons (fVar 10) aNil)) (fVar 11)) aNil))) (aCons (f2 gAdd (fVar 10) (fCall F__law_down (aCons (fVar 11) aNil))) aNil))))
    (gPut 2 (f2 gAdd (fVar 6) (fC (.int 1))) (fLst (aCons (f2 gMinus (f2 gMinus (fVar 9) (fCall F__law_down (aCons (fVar 10) aNil))) (fCall F__law_down (aCons (f2 gMinus (fCall F__law_down (aCons (fVar 8) aNil)) (fVar 11)) aNil))) (aCons (f2 gMinus (fVar 8) (fCall F__law_down (aCons (fVar 11) aNil))) aNil)))))))))))
    (gSeq (gSet 4 (fLst aNil))
    (gSeq (gFrz 2 (gFor (itF (fVar 2)) (uName 5) (gSet 4 (f2 gAdd (fVar 4) (fVar 5)))))
    (gRet (fC1 gTuple (aCons (fVar 4) aNil)))))))
/-- slots 0 strands, 1 word -/
def G_curve (F__law_carried : FD) : FS := (gRet (fCall F__law_carried (aCons (f2 gMul (fTup (aCons (fC (.int 0)) (aCons (fC (.int 1)) aNil))) (fVar 0)) (aCons (fVar 1) aNil))))
def upI (x : Int) : Int := if x < 0 then 0 else x
def dnI (x : Int) : Int := if x < 0 then x else 0
theorem r_up {x : Int} : runD 1 G_up [.int x] = some (.int (upI x)) := by
  by_cases h : 0 < x
  · have h2 : ¬ x < 0 := by omega
    simp -implicitDefEqProofs [runD_eq, G_up, upI, h, h2]
  · by_cases h2 : x < 0
    · simp -implicitDefEqProofs [runD_eq, G_up, upI, h, h2]
    · have h3 : x = 0 := by omega
      subst h3
      simp -implicitDefEqProofs [runD_eq, G_up, upI]
theorem r_down {x : Int} : runD 1 G_down [.int x] = some (.int (dnI x)) := by
  by_cases h : x < 0
  · simp -implicitDefEqProofs [runD_eq, G_down, dnI, h]
  · simp -implicitDefEqProofs [runD_eq, G_down, dnI, h]
/-- a letter on a list of pairs -/
def lstp (w : Int) (ps : List (Int × Int)) : List (Int × Int) :=
  let a := (ps.getD (w.natAbs - 1) (0, 0)).1
  let b := (ps.getD (w.natAbs - 1) (0, 0)).2
  let c := (ps.getD w.natAbs (0, 0)).1
  let d := (ps.getD w.natAbs (0, 0)).2
  if 0 < w then
    let e := a - dnI b - c + upI d
    (ps.set (w.natAbs - 1) (a + upI b + upI (upI d - e), d - upI e)).set w.natAbs (c + dnI d + dnI (dnI b + e), b + upI e)
  else
    let e := a + dnI b - c - upI d
    (ps.set (w.natAbs - 1) (a - upI b - upI (upI d + e), d + dnI e)).set w.natAbs (c - dnI d - dnI (dnI b - e), b - dnI e)
def pD (p : Int × Int) : PyData := .list [.int p.1, .int p.2]
def flatP (ps : List (Int × Int)) : List Int := ps.flatMap fun p => [p.1, p.2]
theorem lstp_len (w : Int) (ps : List (Int × Int)) : (lstp w ps).length = ps.length := by
  unfold lstp
  dsimp only
  split <;> rw [List.length_set, List.length_set]
theorem flatP_len (ps : List (Int × Int)) : (flatP ps).length = 2 * ps.length := by
  unfold flatP
  induction ps with
  | nil => rfl
  | cons p ps ih =>
    rw [List.flatMap_cons, List.length_append, ih, List.length_cons]
    show 2 + 2 * ps.length = 2 * (ps.length + 1)
    omega
theorem flatP_cut : ∀ {ps : List (Int × Int)} {k : Nat} {p : Int × Int}, ps[k]? = some p → ((flatP ps).drop (2 * k)).take 2 = [p.1, p.2]
  | [], k, p, h => by simp at h
  | q :: ps, 0, p, h => by
    simp at h
    subst h
    rfl
  | q :: ps, k + 1, p, h => by
    have e : 2 * (k + 1) = 2 + 2 * k := by omega
    rw [e]
    show (([q.1, q.2] ++ flatP ps).drop (2 + 2 * k)).take 2 = _
    rw [← List.drop_drop]
    exact flatP_cut (by simpa using h)
theorem r_carried {FD' FU' : FD} (hd : ∀ x, FD' [.int x] = some (.int (dnI x))) (hu : ∀ x, FU' [.int x] = some (.int (upI x))) {ps : List (Int × Int)} {ws : List Int} (hp : ps.length ≤ 1000) (hl : ws.length ≤ 100000) (hw : ∀ w ∈ ws, w ≠ 0 ∧ w.natAbs < ps.length) :
    runD 12 (G_carried FD' FU') [wd (flatP ps), wd ws] = some (wd (flatP (ws.foldl (fun c w => lstp w c) ps))) := by
  have lf := flatP_len ps
  have h2 : ((flatP ps).length : Int) / 2 = (ps.length : Int) := by omega
  simp -implicitDefEqProofs [runD_eq, G_carried, Option.bind_assoc, -List.map_map, h2]
  rw [rg1_nat (by omega), Option.bind_some, if_pos (by rw [rgD_len]; omega), rgD0, lcD_all (e := fun i : Nat => PyData.int (i : Int)) (e' := pD) (fun i : Nat => ps.getD i (0, 0))]
  · have em : (List.range ps.length).map (fun i : Nat => ps.getD i (0, 0)) = ps := by
      apply List.ext_getElem?
      intro i
      by_cases hi : i < ps.length
      · rw [List.getElem?_map, List.getElem?_range hi, List.getElem?_eq_getElem hi]
        simp [List.getD, List.getElem?_eq_getElem hi]
      · rw [List.getElem?_eq_none (by simp; omega), List.getElem?_eq_none (by omega)]
    rw [em]
    simp -implicitDefEqProofs [-List.map_map, Option.bind_assoc]
    refine forD_all (fun i ρ => ∃ x3 x4 x5 x6 x7 x8 x9 x10 x11, ρ = [Slot.d (wd (flatP ps)), Slot.d (wd ws), Slot.own (((ws.take i).foldl (fun c w => lstp w c) ps).map pD), x3, x4, x5, x6, x7, x8, x9, x10, x11]) ⟨_, _, _, _, _, _, _, _, _, rfl⟩ ?_ ?_
    · rintro i x ρ hi ⟨x3, x4, x5, x6, x7, x8, x9, x10, x11, rfl⟩
      obtain ⟨w, hw1, rfl⟩ := map_get hi
      obtain ⟨h0, h1⟩ := hw w (List.mem_of_getElem? hw1)
      have e : (ws.take (i + 1)).foldl (fun c w => lstp w c) ps = lstp w ((ws.take i).foldl (fun c w => lstp w c) ps) := by
        rw [List.take_succ, hw1, List.foldl_append]
        rfl
      have hlen : ((ws.take i).foldl (fun c w => lstp w c) ps).length = ps.length := by
        have key : ∀ (us : List Int) (q : List (Int × Int)), (us.foldl (fun c w => lstp w c) q).length = q.length := fun us => by
          induction us with
          | nil => intro q; rfl
          | cons u us ih => intro q; rw [List.foldl_cons, ih, lstp_len]
        rw [key]
      rw [e]
      generalize (ws.take i).foldl (fun c w => lstp w c) ps = qs at hlen
      have ea : (if w < 0 then -w else w) = ((w.natAbs : Nat) : Int) := by omega
      have eb : ((w.natAbs : Nat) : Int) - 1 = ((w.natAbs - 1 : Nat) : Int) := by omega
      have ec : ((w.natAbs - 1 : Nat) : Int) + 1 = ((w.natAbs : Nat) : Int) := by omega
      have l1 : w.natAbs < qs.length := by omega
      have l2 : w.natAbs - 1 < qs.length := by omega
      have g1 : atI (qs.map pD) ((w.natAbs : Nat) : Int) = some (pD (qs.getD w.natAbs (0, 0))) := atI_nat (by rw [List.getElem?_map, List.getElem?_eq_getElem l1]; simp [List.getD, List.getElem?_eq_getElem l1])
      have g2 : atI (qs.map pD) ((w.natAbs - 1 : Nat) : Int) = some (pD (qs.getD (w.natAbs - 1) (0, 0))) := atI_nat (by rw [List.getElem?_map, List.getElem?_eq_getElem l2]; simp [List.getD, List.getElem?_eq_getElem l2])
      refine goes_at (ρ1 := [Slot.d (wd (flatP ps)), Slot.d (wd ws), Slot.own (qs.map pD), Slot.d (.int w), x4, x5, x6, x7, x8, x9, x10, x11]) rfl ?_
      by_cases hpos : 0 < w
      · refine goes_one ⟨[Slot.d (wd (flatP ps)), Slot.d (wd ws), Slot.own ((lstp w qs).map pD), Slot.d (.int w), x4, x5, .d (.int ((w.natAbs - 1 : Nat) : Int)), .d (.int (qs.getD (w.natAbs - 1) (0, 0)).1), .d (.int (qs.getD (w.natAbs - 1) (0, 0)).2), .d (.int (qs.getD w.natAbs (0, 0)).1), .d (.int (qs.getD w.natAbs (0, 0)).2), .d (.int ((qs.getD (w.natAbs - 1) (0, 0)).1 - dnI (qs.getD (w.natAbs - 1) (0, 0)).2 - (qs.getD w.natAbs (0, 0)).1 + upI (qs.getD w.natAbs (0, 0)).2))], ?_, _, _, _, _, _, _, _, _, _, rfl⟩
        simp -implicitDefEqProofs [ea, eb, ec, g1, g2, pD, hpos, hd, hu, ixN_nat l1, ixN_nat l2, lstp]
      · refine goes_one ⟨[Slot.d (wd (flatP ps)), Slot.d (wd ws), Slot.own ((lstp w qs).map pD), Slot.d (.int w), x4, x5, .d (.int ((w.natAbs - 1 : Nat) : Int)), .d (.int (qs.getD (w.natAbs - 1) (0, 0)).1), .d (.int (qs.getD (w.natAbs - 1) (0, 0)).2), .d (.int (qs.getD w.natAbs (0, 0)).1), .d (.int (qs.getD w.natAbs (0, 0)).2), .d (.int ((qs.getD (w.natAbs - 1) (0, 0)).1 + dnI (qs.getD (w.natAbs - 1) (0, 0)).2 - (qs.getD w.natAbs (0, 0)).1 - upI (qs.getD w.natAbs (0, 0)).2))], ?_, _, _, _, _, _, _, _, _, _, rfl⟩
        simp -implicitDefEqProofs [ea, eb, ec, g1, g2, pD, hpos, hd, hu, ixN_nat l1, ixN_nat l2, lstp]
    · rintro ρ ⟨x3, x4, x5, x6, x7, x8, x9, x10, x11, rfl⟩
      have hlen : (ws.foldl (fun c w => lstp w c) ps).length = ps.length := by
        have key : ∀ (us : List Int) (q : List (Int × Int)), (us.foldl (fun c w => lstp w c) q).length = q.length := fun us => by
          induction us with
          | nil => intro q; rfl
          | cons u us ih => intro q; rw [List.foldl_cons, ih, lstp_len]
        rw [key]
      simp -implicitDefEqProofs [-List.map_map]
      generalize ws.foldl (fun c w => lstp w c) ps = qs at hlen
      rw [frz_own (xs := qs.map pD) rfl]
      simp -implicitDefEqProofs [-List.map_map, Option.bind_assoc]
      refine forD_all (fun i ρ => ∃ y5, ρ = [Slot.d (wd (flatP ps)), Slot.d (wd ws), Slot.d (.list (qs.map pD)), x3, Slot.d (.list ((flatP (qs.take i)).map PyData.int)), y5, x6, x7, x8, x9, x10, x11]) ⟨_, rfl⟩ ?_ ?_
      · rintro i x ρ hi ⟨y5, rfl⟩
        obtain ⟨p, hp1, rfl⟩ := map_get hi
        have e : flatP (qs.take (i + 1)) = flatP (qs.take i) ++ [p.1, p.2] := by
          rw [List.take_succ, hp1]
          unfold flatP
          rw [List.flatMap_append]
          rfl
        have ls : (flatP (qs.take i)).length + 2 ≤ 100000 := by
          rw [flatP_len, List.length_take]
          omega
        refine goes_at (ρ1 := [Slot.d (wd (flatP ps)), Slot.d (wd ws), Slot.d (.list (qs.map pD)), x3, Slot.d (.list ((flatP (qs.take i)).map PyData.int)), .d (pD p), x6, x7, x8, x9, x10, x11]) rfl ?_
        refine goes_one ⟨[Slot.d (wd (flatP ps)), Slot.d (wd ws), Slot.d (.list (qs.map pD)), x3, Slot.d (.list ((flatP (qs.take (i + 1))).map PyData.int)), .d (pD p), x6, x7, x8, x9, x10, x11], ?_, _, rfl⟩
        rw [e]
        have ls' : (flatP (qs.take i)).length ≤ 99998 := by omega
        simp -implicitDefEqProofs [pD, ls, ls', -List.map_map]
      · rintro ρ ⟨y5, rfl⟩
        simp -implicitDefEqProofs [-List.map_map]
  · intro x hx; simp
  · intro x hx
    have hx' := List.mem_range.mp hx
    have c2 : CMul 2 (x : Int) := .inl ⟨by decide, by decide⟩
    have e1 : cutD ((flatP ps).map PyData.int) (some (2 * (x : Int))) (some (2 * (x : Int) + 2)) = ([(ps.getD x (0, 0)).1, (ps.getD x (0, 0)).2] : List Int).map PyData.int := by
      rw [cut_map, cut_mid (by omega) (by omega)]
      have a1 : (2 * (x : Int)).toNat = 2 * x := by omega
      have a2 : (2 * (x : Int) + 2).toNat - 2 * x = 2 := by omega
      rw [a1, a2, flatP_cut (p := ps.getD x (0, 0)) (by simp [List.getD, List.getElem?_eq_getElem hx'])]
    simp -implicitDefEqProofs [c2, e1, pD]
end DL
/-! the laws' curves -/
namespace DL
open PySem PySem.Spec PyProof.Rows L2
theorem getD_set {ps : List (Int × Int)} {i j : Nat} {v : Int × Int} (h : j < ps.length) : (ps.set j v).getD i (0, 0) = if i = j then v else ps.getD i (0, 0) := by
  by_cases e : i = j
  · subst e
    rw [if_pos rfl]
    simp [List.getD, h]
  · rw [if_neg e]
    simp [List.getD, List.getElem?_set_ne (Ne.symm e)]
def carP (ws : List Int) (ps : List (Int × Int)) : List (Int × Int) := ws.foldl (fun c w => lstp w c) ps
theorem carP_len (ws : List Int) : ∀ ps : List (Int × Int), (carP ws ps).length = ps.length := by
  induction ws with
  | nil => intro q; rfl
  | cons u us ih =>
    intro q
    show (carP us (lstp u q)).length = _
    rw [ih, lstp_len]
/-- the plain curve of n strands -/
def plainP (n : Nat) : List (Int × Int) := List.replicate n (0, 1)
def curveL (n : Nat) (ws : List Int) : List Int := flatP (carP ws (plainP n))
theorem rep_plain : ∀ n : Nat, (List.replicate n [PyData.int 0, PyData.int 1]).flatten = (flatP (plainP n)).map PyData.int
  | 0 => rfl
  | n + 1 => by
    rw [List.replicate_succ, List.flatten_cons, rep_plain n]
    rfl
theorem r_curve {FC : FD} {s : Int} {ws : List Int} (hs1 : 2 ≤ s) (hs2 : s ≤ 1000) (hc : ∀ ps : List (Int × Int), ps.length = s.toNat → FC [wd (flatP ps), wd ws] = some (wd (flatP (carP ws ps)))) : runD 2 (G_curve FC) [.int s, wd ws] = some (wd (curveL s.toNat ws)) := by
  have e := hc (plainP s.toNat) (by unfold plainP; rw [List.length_replicate])
  have w1 : wd (flatP (plainP s.toNat)) = .tuple (List.replicate s.toNat [PyData.int 0, PyData.int 1]).flatten := by rw [rep_plain]
  rw [w1] at e
  simp -implicitDefEqProofs [runD_eq, G_curve, hs1, hs2, e, curveL]
end DL
namespace DL
open PySem PySem.Spec PyProof.Rows L2
/-- slots 0 word, 1 k -/
def G_undone : FS := (gRet (fC1 gTuple (aCons (fLc (rg1 (aCons (fC1 gLen (aCons (fVar 0) aNil)) aNil)) 1 cYes (f2 gMinus (fC (.int 0)) (f2 gIx (fVar 0) (f2 gMinus (f2 gMinus (fC1 gLen (aCons (fVar 0) aNil)) (fC (.int 1))) (fVar 1)))) [1]) aNil)))
/-- slots 0 strands, 1 form, 2 turn, 3 word, 4 spare, 5 row, 6 k -/
def G_form_word (F__law_row_word : FD) (F__law_undone : FD) : FS := (gSeq (gSet 2 (fCall F__law_row_word (aCons (fC1 gTuple (aCons (fLc (rg1 (aCons (fVar 0) aNil)) 6 cYes (f2 gMinus (f2 gMinus (fVar 0) (fC (.int 1))) (fVar 6)) [6]) aNil)) aNil)))
    (gSeq (gSet 3 (fTup aNil))
    (gSeq (gFor (rg1 (aCons (fC1 gAbs (aCons (f2 gIx (fVar 1) (fC (.int 0))) aNil)) aNil)) (uName 4) (gSet 3 (f2 gAdd (fVar 3) (f2 gIx (fLst (aCons (fVar 2) (aCons (fCall F__law_undone (aCons (fVar 2) aNil)) aNil))) (fC1 gInt (aCons (f2 gLt (f2 gIx (fVar 1) (fC (.int 0))) (fC (.int 0))) aNil))))))
    (gSeq (gFor (itF (f2 gIx (fVar 1) (fC (.int 1)))) (uName 5) (gSet 3 (f2 gAdd (fVar 3) (fCall F__law_row_word (aCons (fVar 5) aNil)))))
    (gRet (fVar 3))))))
/-- slots 0 curve, 1 k -/
def G_lean : FS := (gSeq (gFor (rg1 (aCons (f2 gDiv (fC1 gLen (aCons (fVar 0) aNil)) (fC (.int 2))) aNil)) (uName 1) (gIf (fB (f2 gNe (f2 gIx (fVar 0) (f2 gMul (fC (.int 2)) (fVar 1))) (fC (.int 0)))) (gRet (fIf (fB (f2 gGt (f2 gIx (fVar 0) (f2 gMul (fC (.int 2)) (fVar 1))) (fC (.int 0)))) (fC (.int 1)) (f1 gNeg (fC (.int 1))))) DL.gNil))
    (gRet (fC (.int 0))))
def undoneL (ws : List Int) : List Int := ws.reverse.map fun w => -w
theorem r_undone {ws : List Int} (hl : ws.length ≤ 100000) : runD 2 G_undone [wd ws] = some (wd (undoneL ws)) := by
  simp -implicitDefEqProofs [runD_eq, G_undone, -List.map_map]
  rw [rg1_nat (by omega), Option.bind_some, if_pos (by rw [rgD_len]; omega), rgD0, lcD_all (e := fun i : Nat => PyData.int (i : Int)) (e' := PyData.int) (fun i : Nat => (undoneL ws).getD i 0)]
  · have hu : (undoneL ws).length = ws.length := by unfold undoneL; rw [List.length_map, List.length_reverse]
    have em : (List.range ws.length).map (fun i : Nat => (undoneL ws).getD i 0) = undoneL ws := by
      apply List.ext_getElem?
      intro i
      by_cases hi : i < ws.length
      · rw [List.getElem?_map, List.getElem?_range hi, List.getElem?_eq_getElem (by omega)]
        simp [List.getD, List.getElem?_eq_getElem (show i < (undoneL ws).length by omega)]
      · rw [List.getElem?_eq_none (by simp; omega), List.getElem?_eq_none (by omega)]
    rw [em]
    simp -implicitDefEqProofs [-List.map_map]
  · intro x hx; simp
  · intro x hx
    have hx' := List.mem_range.mp hx
    have g1 : atI (ws.map PyData.int) ((ws.length : Int) - 1 - (x : Int)) = some (.int (ws.getD (ws.length - 1 - x) 0)) := by
      have e : (ws.length : Int) - 1 - (x : Int) = ((ws.length - 1 - x : Nat) : Int) := by omega
      rw [e]
      exact atI_int (by omega)
    have e2 : (undoneL ws).getD x 0 = -(ws.getD (ws.length - 1 - x) 0) := by
      unfold undoneL
      rw [List.getD_eq_getElem?_getD, List.getElem?_map, List.getElem?_reverse hx', List.getD_eq_getElem?_getD, List.getElem?_eq_getElem (show ws.length - 1 - x < ws.length by omega)]
      rfl
    rw [e2]
    simp -implicitDefEqProofs [g1]
/-- the lean of a list of pairs -/
def leanP : List (Int × Int) → Int
  | [] => 0
  | p :: ps => if p.1 = 0 then leanP ps else if 0 < p.1 then 1 else -1
theorem flatP_at {ps : List (Int × Int)} {k : Nat} {p : Int × Int} (h : ps[k]? = some p) : atI ((flatP ps).map PyData.int) ((2 * k : Nat) : Int) = some (.int p.1) := by
  have q := flatP_cut h
  have hk : k < ps.length := (List.getElem?_eq_some_iff.mp h).1
  have hl := flatP_len ps
  have e : (flatP ps)[2 * k]? = some p.1 := by
    have z := congrArg (fun l => l[0]?) q
    simpa [List.getElem?_take, List.getElem?_drop] using z
  exact atI_nat (by rw [List.getElem?_map, e]; rfl)
theorem r_lean {ps : List (Int × Int)} (hp : ps.length ≤ 1000) : runD 2 G_lean [wd (flatP ps)] = some (.int (leanP ps)) := by
  have lf := flatP_len ps
  have h2 : ((flatP ps).length : Int) / 2 = (ps.length : Int) := by omega
  simp -implicitDefEqProofs [runD_eq, G_lean, Option.bind_assoc, -List.map_map, h2]
  rw [rg1_nat (by omega), Option.bind_some]
  refine forD_go (fun i ρ => ∃ x, ρ = [Slot.d (wd (flatP ps)), x] ∧ leanP ps = leanP (ps.drop i)) (fun d => d = .int (leanP ps)) ⟨_, rfl, rfl⟩ ?_ ?_ ?_
  · rintro i x ρ hi ⟨x0, rfl, hle⟩
    obtain ⟨h5, rfl⟩ := rgD_get hi
    have hd : ps.drop i = ps[i] :: ps.drop (i + 1) := List.drop_eq_getElem_cons h5
    have g := flatP_at (List.getElem?_eq_getElem h5)
    have e2 : ((2 * i : Nat) : Int) = 2 * (i : Int) := by omega
    rw [e2] at g
    have c2 : CMul 2 (i : Int) := .inl ⟨by decide, by decide⟩
    rw [hd] at hle
    generalize ps[i] = p at g hle
    have hle' : leanP ps = if p.1 = 0 then leanP (ps.drop (i + 1)) else if 0 < p.1 then 1 else -1 := hle
    by_cases h0 : p.1 = 0
    · rw [if_pos h0] at hle'
      simp -implicitDefEqProofs [g, c2, h0]
      exact hle'
    · rw [if_neg h0] at hle'
      by_cases h3 : 0 < p.1
      · rw [if_pos h3] at hle'
        simp -implicitDefEqProofs [g, c2, h0, h3, hle']
      · rw [if_neg h3] at hle'
        simp -implicitDefEqProofs [g, c2, h0, h3, hle']
  · rintro ρ ⟨x, rfl, hle⟩
    rw [rgD_len, List.drop_length] at hle
    rw [hle]
    simp -implicitDefEqProofs [leanP]
  · rintro d rfl
    simp -implicitDefEqProofs
end DL
/-! the program's curves -/
namespace DL
open PySem PySem.Spec PyProof.Rows L2
def P_plain : FS := (gRet (f2 gMul (fTup (aCons (fC (.int 0)) (aCons (fC (.int 1)) aNil))) (fVar 0)))
def P_carried (F__crossed : FD) (F__crossed_back : FD) : FS := (gSeq (gSetO 2 (fC1 gList (aCons (fVar 0) aNil)))
    (gSeq (gFor (itF (fVar 1)) (uName 3) (gSeq (gSet 4 (f2 gMinus (f2 gMul (fC (.int 2)) (fC1 gAbs (aCons (fVar 3) aNil))) (fC (.int 2))))
    (gSeq (gAsg (uTup 4 (uCons (uName 5) (uCons (uName 6) (uCons (uName 7) (uCons (uName 8) uNil))))) (fSl (fVar 2) (oSome (fVar 4)) (oSome (f2 gAdd (fVar 4) (fC (.int 4))))))
    (gIf (fB (f2 gGt (fVar 3) (fC (.int 0)))) (gCutS 2 (oSome (fVar 4)) (oSome (f2 gAdd (fVar 4) (fC (.int 4)))) (fCall F__crossed (aCons (fVar 5) (aCons (fVar 6) (aCons (fVar 7) (aCons (fVar 8) aNil)))))) (gCutS 2 (oSome (fVar 4)) (oSome (f2 gAdd (fVar 4) (fC (.int 4)))) (fCall F__crossed_back (aCons (fVar 5) (aCons (fVar 6) (aCons (fVar 7) (aCons (fVar 8) aNil))))))))))
    (gRet (fC1 gTuple (aCons (fVar 2) aNil)))))
def P_curve_of (F_carried : FD) (F_plain_curve : FD) : FS := (gRet (fCall F_carried (aCons (fCall F_plain_curve (aCons (fVar 0) aNil)) (aCons (fVar 1) aNil))))
def P_lean : FS := (gSeq (gFor (itF (f1 (gEvery 2) (fVar 0))) (uName 1) (gIf (fB (f2 gNe (fVar 1) (fC (.int 0)))) (gRet (fIf (fB (f2 gGt (fVar 1) (fC (.int 0)))) (fC (.int 1)) (f1 gNeg (fC (.int 1))))) DL.gNil))
    (gRet (fC (.int 0))))
def P_crossed : FS := (gSeq (gSet 4 (f2 gAdd (f2 gMinus (f2 gMinus (fVar 0) (fC1 gMin (aCons (fVar 1) (aCons (fC (.int 0)) aNil)))) (fVar 2)) (fC1 gMax (aCons (fVar 3) (aCons (fC (.int 0)) aNil)))))
    (gRet (fTup (aCons (f2 gAdd (f2 gAdd (fVar 0) (fC1 gMax (aCons (fVar 1) (aCons (fC (.int 0)) aNil)))) (fC1 gMax (aCons (f2 gMinus (fC1 gMax (aCons (fVar 3) (aCons (fC (.int 0)) aNil))) (fVar 4)) (aCons (fC (.int 0)) aNil)))) (aCons (f2 gMinus (fVar 3) (fC1 gMax (aCons (fVar 4) (aCons (fC (.int 0)) aNil)))) (aCons (f2 gAdd (f2 gAdd (fVar 2) (fC1 gMin (aCons (fVar 3) (aCons (fC (.int 0)) aNil)))) (fC1 gMin (aCons (f2 gAdd (fC1 gMin (aCons (fVar 1) (aCons (fC (.int 0)) aNil))) (fVar 4)) (aCons (fC (.int 0)) aNil)))) (aCons (f2 gAdd (fVar 1) (fC1 gMax (aCons (fVar 4) (aCons (fC (.int 0)) aNil)))) aNil)))))))
def P_crossed_back : FS := (gSeq (gSet 4 (f2 gMinus (f2 gMinus (f2 gAdd (fVar 0) (fC1 gMin (aCons (fVar 1) (aCons (fC (.int 0)) aNil)))) (fVar 2)) (fC1 gMax (aCons (fVar 3) (aCons (fC (.int 0)) aNil)))))
    (gRet (fTup (aCons (f2 gMinus (f2 gMinus (fVar 0) (fC1 gMax (aCons (fVar 1) (aCons (fC (.int 0)) aNil)))) (fC1 gMax (aCons (f2 gAdd (fC1 gMax (aCons (fVar 3) (aCons (fC (.int 0)) aNil))) (fVar 4)) (aCons (fC (.int 0)) aNil)))) (aCons (f2 gAdd (fVar 3) (fC1 gMin (aCons (fVar 4) (aCons (fC (.int 0)) aNil)))) (aCons (f2 gMinus (f2 gMinus (fVar 2) (fC1 gMin (aCons (fVar 3) (aCons (fC (.int 0)) aNil)))) (fC1 gMin (aCons (f2 gMinus (fC1 gMin (aCons (fVar 1) (aCons (fC (.int 0)) aNil))) (fVar 4)) (aCons (fC (.int 0)) aNil)))) (aCons (f2 gMinus (fVar 1) (fC1 gMin (aCons (fVar 4) (aCons (fC (.int 0)) aNil)))) aNil)))))))
def crL (a b c d : Int) : List Int := [a + upI b + upI (upI d - (a - dnI b - c + upI d)), d - upI (a - dnI b - c + upI d), c + dnI d + dnI (dnI b + (a - dnI b - c + upI d)), b + upI (a - dnI b - c + upI d)]
def crB (a b c d : Int) : List Int := [a - upI b - upI (upI d + (a + dnI b - c - upI d)), d + dnI (a + dnI b - c - upI d), c - dnI d - dnI (dnI b - (a + dnI b - c - upI d)), b - dnI (a + dnI b - c - upI d)]
theorem min0 (x : Int) : (if 0 < x then (0 : Int) else x) = dnI x := by unfold dnI; split <;> split <;> omega
theorem max0 (x : Int) : (if x < 0 then (0 : Int) else x) = upI x := rfl
theorem p_crossed {a b c d : Int} : runD 5 P_crossed [.int a, .int b, .int c, .int d] = some (wd (crL a b c d)) := by
  simp -implicitDefEqProofs [runD_eq, P_crossed, crL, min0, max0]
theorem p_crossed_back {a b c d : Int} : runD 5 P_crossed_back [.int a, .int b, .int c, .int d] = some (wd (crB a b c d)) := by
  simp -implicitDefEqProofs [runD_eq, P_crossed_back, crB, min0, max0]
  refine ⟨?_, ?_, ?_⟩ <;> (generalize dnI b = x; generalize upI d = y; unfold dnI; (repeat' split) <;> omega)
theorem p_plain {s : Int} (hs1 : 2 ≤ s) (hs2 : s ≤ 1000) : runD 1 P_plain [.int s] = some (wd (flatP (plainP s.toNat))) := by
  have w1 : wd (flatP (plainP s.toNat)) = .tuple (List.replicate s.toNat [PyData.int 0, PyData.int 1]).flatten := by rw [rep_plain]
  rw [w1]
  simp -implicitDefEqProofs [runD_eq, P_plain, hs1, hs2]
theorem split_two {α : Type} {xs : List α} {k : Nat} (h : k < xs.length) (h0 : 1 ≤ k) : ∃ A p q B, xs = A ++ p :: q :: B ∧ A.length = k - 1 := by
  refine ⟨xs.take (k - 1), xs[k - 1], xs[k], xs.drop (k + 1), ?_, by rw [List.length_take]; omega⟩
  have e1 := List.take_append_drop (k - 1) xs
  have e2 : xs.drop (k - 1) = xs[k - 1] :: xs.drop (k - 1 + 1) := List.drop_eq_getElem_cons (by omega)
  have e3 : k - 1 + 1 = k := by omega
  rw [e3, List.drop_eq_getElem_cons h] at e2
  rw [e2] at e1
  exact e1.symm
theorem flatP_app (a b : List (Int × Int)) : flatP (a ++ b) = flatP a ++ flatP b := List.flatMap_append
theorem flatP_two (p q : Int × Int) (B : List (Int × Int)) : flatP (p :: q :: B) = p.1 :: p.2 :: q.1 :: q.2 :: flatP B := rfl
theorem p_carried {FC FB : FD} (hc : ∀ a b c d : Int, FC [.int a, .int b, .int c, .int d] = some (wd (crL a b c d))) (hb : ∀ a b c d : Int, FB [.int a, .int b, .int c, .int d] = some (wd (crB a b c d)))
    {ps : List (Int × Int)} {ws : List Int} (hp : ps.length ≤ 1000) (hl : ws.length ≤ 100000) (hw : ∀ w ∈ ws, w ≠ 0 ∧ w.natAbs < ps.length) :
    runD 9 (P_carried FC FB) [wd (flatP ps), wd ws] = some (wd (flatP (carP ws ps))) := by
  simp -implicitDefEqProofs [runD_eq, P_carried, Option.bind_assoc, -List.map_map]
  refine forD_all (fun i ρ => ∃ x3 x4 x5 x6 x7 x8, ρ = [Slot.d (wd (flatP ps)), Slot.d (wd ws), Slot.own ((flatP (carP (ws.take i) ps)).map PyData.int), x3, x4, x5, x6, x7, x8]) ⟨_, _, _, _, _, _, rfl⟩ ?_ ?_
  · rintro i x ρ hi ⟨x3, x4, x5, x6, x7, x8, rfl⟩
    obtain ⟨w, hw1, rfl⟩ := map_get hi
    obtain ⟨h0, h1⟩ := hw w (List.mem_of_getElem? hw1)
    have e : carP (ws.take (i + 1)) ps = lstp w (carP (ws.take i) ps) := by
      rw [List.take_succ, hw1]
      unfold carP
      rw [List.foldl_append]
      rfl
    have hlen := carP_len (ws.take i) ps
    rw [e]
    generalize carP (ws.take i) ps = qs at hlen
    obtain ⟨A, p, q, B, rfl, hA⟩ := split_two (xs := qs) (k := w.natAbs) (by omega) (by omega)
    have hAl := flatP_len A
    have fl : flatP (A ++ p :: q :: B) = flatP A ++ p.1 :: p.2 :: q.1 :: q.2 :: flatP B := by rw [flatP_app, flatP_two]
    have ea : (if w < 0 then -w else w) = ((w.natAbs : Nat) : Int) := by omega
    have eat : (2 * ((w.natAbs : Nat) : Int) - 2) = (((flatP A).length : Nat) : Int) := by omega
    have c2 : CMul 2 ((w.natAbs : Nat) : Int) := .inl ⟨by decide, by decide⟩
    have hBl : (flatP (A ++ p :: q :: B)).length ≤ 2000 := by rw [flatP_len]; omega
    have cutE : cutD ((flatP (A ++ p :: q :: B)).map PyData.int) (some (((flatP A).length : Nat) : Int)) (some ((((flatP A).length : Nat) : Int) + 4)) = [.int p.1, .int p.2, .int q.1, .int q.2] := by
      rw [fl, cut_map, cut_mid (by omega) (by omega)]
      have e1 : (((flatP A).length : Nat) : Int).toNat = (flatP A).length := by omega
      have e2 : ((((flatP A).length : Nat) : Int) + 4).toNat - (flatP A).length = 4 := by omega
      rw [e1, e2, List.drop_left]
      rfl
    have put : ∀ r : List Int, r.length = 4 → ∀ ρ : Rho, ρ[2]? = some (.own ((flatP (A ++ p :: q :: B)).map PyData.int)) → cutS' 2 ρ (r.map PyData.int) (some (((flatP A).length : Nat) : Int)) (some ((((flatP A).length : Nat) : Int) + 4)) = some (.nx (ρ.set 2 (.own ((flatP A ++ r ++ flatP B).map PyData.int)))) := fun r hr ρ hρ => by
      rw [cutS'_own hρ (by omega) (by omega) (by rw [List.length_map, fl, List.length_append]; simp only [List.length_cons]; omega) (by rw [List.length_map, List.length_map, hr]; show _ ≤ _; omega)]
      have e1 : (((flatP A).length : Nat) : Int).toNat = (flatP A).length := by omega
      have e2 : ((((flatP A).length : Nat) : Int) + 4).toNat = (flatP A).length + 4 := by omega
      rw [e1, e2, fl, List.map_append, ← List.length_map (f := PyData.int) (as := flatP A), List.take_left, ← List.drop_drop, List.drop_left]
      simp
    refine goes_at (ρ1 := [Slot.d (wd (flatP ps)), Slot.d (wd ws), Slot.own ((flatP (A ++ p :: q :: B)).map PyData.int), Slot.d (.int w), x4, x5, x6, x7, x8]) rfl ?_
    have gd1 : (A ++ p :: q :: B).getD (w.natAbs - 1) (0, 0) = p := by rw [List.getD_eq_getElem?_getD, ← hA, List.getElem?_append_right (Nat.le_refl _)]; simp
    have gd2 : (A ++ p :: q :: B).getD w.natAbs (0, 0) = q := by rw [List.getD_eq_getElem?_getD, show w.natAbs = A.length + 1 by omega, List.getElem?_append_right (by omega)]; simp
    have st : ∀ u v : Int × Int, ((A ++ p :: q :: B).set (w.natAbs - 1) u).set w.natAbs v = A ++ u :: v :: B := fun u v => by
      rw [show w.natAbs = A.length + 1 by omega, List.set_append_right _ _ (by omega), show A.length + 1 - 1 - A.length = 0 by omega, List.set_append_right _ _ (by omega), show A.length + 1 - A.length = 1 by omega]
      rfl
    by_cases hpos : 0 < w
    · refine goes_one ⟨[Slot.d (wd (flatP ps)), Slot.d (wd ws), Slot.own ((flatP (lstp w (A ++ p :: q :: B))).map PyData.int), Slot.d (.int w), .d (.int (((flatP A).length : Nat) : Int)), .d (.int p.1), .d (.int p.2), .d (.int q.1), .d (.int q.2)], ?_, _, _, _, _, _, _, rfl⟩
      have lr : flatP (lstp w (A ++ p :: q :: B)) = flatP A ++ crL p.1 p.2 q.1 q.2 ++ flatP B := by
        unfold lstp
        dsimp only
        rw [if_pos hpos, gd1, gd2, st, flatP_app, flatP_two]
        simp [crL]
      rw [lr]
      have := put (crL p.1 p.2 q.1 q.2) rfl [Slot.d (wd (flatP ps)), Slot.d (wd ws), Slot.own ((flatP (A ++ p :: q :: B)).map PyData.int), Slot.d (.int w), .d (.int (((flatP A).length : Nat) : Int)), .d (.int p.1), .d (.int p.2), .d (.int q.1), .d (.int q.2)] rfl
      simp -implicitDefEqProofs [ea, eat, c2, cutE, hc, hpos, this, -List.map_append, -List.map_map]
    · refine goes_one ⟨[Slot.d (wd (flatP ps)), Slot.d (wd ws), Slot.own ((flatP (lstp w (A ++ p :: q :: B))).map PyData.int), Slot.d (.int w), .d (.int (((flatP A).length : Nat) : Int)), .d (.int p.1), .d (.int p.2), .d (.int q.1), .d (.int q.2)], ?_, _, _, _, _, _, _, rfl⟩
      have lr : flatP (lstp w (A ++ p :: q :: B)) = flatP A ++ crB p.1 p.2 q.1 q.2 ++ flatP B := by
        unfold lstp
        dsimp only
        rw [if_neg hpos, gd1, gd2, st, flatP_app, flatP_two]
        simp [crB]
      rw [lr]
      have := put (crB p.1 p.2 q.1 q.2) rfl [Slot.d (wd (flatP ps)), Slot.d (wd ws), Slot.own ((flatP (A ++ p :: q :: B)).map PyData.int), Slot.d (.int w), .d (.int (((flatP A).length : Nat) : Int)), .d (.int p.1), .d (.int p.2), .d (.int q.1), .d (.int q.2)] rfl
      simp -implicitDefEqProofs [ea, eat, c2, cutE, hb, hpos, this, -List.map_append, -List.map_map]
  · rintro ρ ⟨x3, x4, x5, x6, x7, x8, rfl⟩
    simp -implicitDefEqProofs [-List.map_map]
theorem p_curve_of {FC FP : FD} {s : Int} {ws : List Int} (hs1 : 2 ≤ s) (hs2 : s ≤ 1000) (hp : FP [.int s] = some (wd (flatP (plainP s.toNat)))) (hc : FC [wd (flatP (plainP s.toNat)), wd ws] = some (wd (flatP (carP ws (plainP s.toNat))))) :
    runD 2 (P_curve_of FC FP) [.int s, wd ws] = some (wd (curveL s.toNat ws)) := by
  simp -implicitDefEqProofs [runD_eq, P_curve_of, hp, hc, curveL, -List.map_map]
theorem every_flat : ∀ ps : List (Int × Int), everyK 2 ((flatP ps).map PyData.int) = ps.map fun p => PyData.int p.1
  | ps => by
    unfold everyK
    have hl := flatP_len ps
    have e : (if 0 < ((flatP ps).map PyData.int).length then (((flatP ps).map PyData.int).length - 1) / 2 + 1 else 0) = ps.length := by
      rw [List.length_map]
      split <;> omega
    rw [e]
    have key : ∀ (qs : List (Int × Int)), (List.range qs.length).filterMap (fun m => ((flatP qs).map PyData.int)[m * 2]?) = qs.map fun p => PyData.int p.1 := fun qs => by
      induction qs with
      | nil => rfl
      | cons p qs ih =>
        rw [List.length_cons, List.range_succ_eq_map, List.filterMap_cons, List.filterMap_map, List.map_cons, ← ih]
        have f2 : ∀ m : Nat, ((flatP (p :: qs)).map PyData.int)[(m + 1) * 2]? = ((flatP qs).map PyData.int)[m * 2]? := fun m => by
          have : (m + 1) * 2 = m * 2 + 1 + 1 := by omega
          rw [this]
          rfl
        show PyData.int p.1 :: _ = PyData.int p.1 :: _
        congr 1
        refine congrArg (fun f => List.filterMap f (List.range qs.length)) ?_
        funext m
        exact f2 m
    exact key ps
theorem p_lean {ps : List (Int × Int)} : runD 2 P_lean [wd (flatP ps)] = some (.int (leanP ps)) := by
  simp -implicitDefEqProofs [runD_eq, P_lean, Option.bind_assoc, -List.map_map, every_flat]
  refine forD_go (fun i ρ => ∃ x, ρ = [Slot.d (wd (flatP ps)), x] ∧ leanP ps = leanP (ps.drop i)) (fun d => d = .int (leanP ps)) ⟨_, rfl, rfl⟩ ?_ ?_ ?_
  · rintro i x ρ hi ⟨x0, rfl, hle⟩
    obtain ⟨p, hp, rfl⟩ := map_get hi
    have hlt : i < ps.length := (List.getElem?_eq_some_iff.mp hp).1
    have hd : ps.drop i = ps[i] :: ps.drop (i + 1) := List.drop_eq_getElem_cons hlt
    have hpi : ps[i] = p := by rw [List.getElem?_eq_getElem hlt] at hp; exact Option.some.inj hp
    rw [hd, hpi] at hle
    have hle' : leanP ps = if p.1 = 0 then leanP (ps.drop (i + 1)) else if 0 < p.1 then 1 else -1 := hle
    by_cases h0 : p.1 = 0
    · rw [if_pos h0] at hle'
      simp -implicitDefEqProofs [h0]
      exact hle'
    · rw [if_neg h0] at hle'
      by_cases h3 : 0 < p.1
      · rw [if_pos h3] at hle'
        simp -implicitDefEqProofs [h0, h3, hle']
      · rw [if_neg h3] at hle'
        simp -implicitDefEqProofs [h0, h3, hle']
  · rintro ρ ⟨x, rfl, hle⟩
    rw [List.length_map, List.drop_length] at hle
    rw [hle]
    simp -implicitDefEqProofs [leanP]
  · rintro d rfl
    simp -implicitDefEqProofs
end DL
/-! the laws' comparison of values with their kinds: numbers, words, lists of numbers -/
namespace DL
open PySem PySem.Spec PyProof.Rows L2
/-- slots 0 told, 1 due, 2 k -/
def G_same (F__law_same : FD) : FS := (gSeq (gIf (tOrF (fTru (f1 (gIsi "tuple") (fVar 1))) (fTru (f1 (gIsi "list") (fVar 1)))) (gSeq (gIf (tOrF (fB (f2 gNe (f1 (gIsi "tuple") (fVar 1)) (f1 (gIsi "tuple") (fVar 0)))) (fB (f2 gNe (f1 (gIsi "list") (fVar 1)) (f1 (gIsi "list") (fVar 0))))) (gRet (fC (.bool false))) DL.gNil)
    (gSeq (gIf (fB (f2 gNe (fC1 gLen (aCons (fVar 0) aNil)) (fC1 gLen (aCons (fVar 1) aNil)))) (gRet (fC (.bool false))) DL.gNil)
    (gRet (f2 gEq (fLc (rg1 (aCons (fC1 gLen (aCons (fVar 1) aNil)) aNil)) 2 (tNotF (fTru (fCall F__law_same (aCons (f2 gIx (fVar 0) (fVar 2)) (aCons (f2 gIx (fVar 1) (fVar 2)) aNil))))) (fVar 2) [2]) (fLst aNil))))) DL.gNil)
    (gSeq (gIf (fTru (f1 (gIsi "int") (fVar 1))) (gRet (fAnd (f1 (gIsi "int") (fVar 0)) (fAnd (fNot (f1 (gIsi "bool") (fVar 0))) (f2 gEq (fVar 0) (fVar 1))))) DL.gNil)
    (gRet (f2 gEq (fVar 0) (fVar 1)))))
/-- slots 0 told, 1 due -/
def G_says : FS := (gRet (fAnd (f1 (gIsi "bool") (fVar 0)) (f2 gEq (fVar 0) (fVar 1))))
theorem r_says {b c : Bool} : runD 2 G_says [.bool b, .bool c] = some (.bool (decide (b = c))) := by
  simp -implicitDefEqProofs [runD_eq, G_says]
theorem r_same_int {F : FD} {i j : Int} : runD 3 (G_same F) [.int i, .int j] = some (.bool (decide (i = j))) := by
  simp -implicitDefEqProofs [runD_eq, G_same]
/-- the places at which two lists of numbers differ -/
def diffs (us vs : List Int) : List Nat := (List.range vs.length).filter fun i => !decide (us[i]? = vs[i]?)
theorem diffs_nil {us vs : List Int} (h : us.length = vs.length) : diffs us vs = [] ↔ us = vs := by
  unfold diffs
  rw [List.filter_eq_nil_iff]
  constructor
  · intro q
    apply List.ext_getElem?
    intro i
    by_cases hi : i < vs.length
    · have := q i (List.mem_range.mpr hi)
      simpa using this
    · rw [List.getElem?_eq_none (by omega), List.getElem?_eq_none (by omega)]
  · intro q i _
    rw [q]
    simp
theorem diffs_lc {F : FD} {us vs : List Int} {c1 c2 : List PyData → PyData} (hF : ∀ i j : Int, F [.int i, .int j] = some (.bool (decide (i = j)))) (hl : us.length = vs.length)
    (g1 : ∀ (xs : List PyData) (j : Int), gIx (c1 xs) (.int j) = (atI xs j).map .fz) (g2 : ∀ (xs : List PyData) (j : Int), gIx (c2 xs) (.int j) = (atI xs j).map .fz) :
    lcD 2 (tNotF (fTru (fCall F (aCons (f2 gIx (fVar 0) (fVar 2)) (aCons (f2 gIx (fVar 1) (fVar 2)) aNil))))) (fVar 2) [Slot.d (c1 (us.map PyData.int)), .d (c2 (vs.map PyData.int)), .und] (rgD 0 vs.length) = some (((diffs us vs).map fun i : Nat => (i : Int)).map PyData.int) := by
  rw [rgD0, lcD_gen (e := fun i : Nat => PyData.int (i : Int)) (e' := PyData.int) (fun i => !decide (us[i]? = vs[i]?)) (fun i : Nat => (i : Int))]
  · rfl
  · intro i hi
    have hi' := List.mem_range.mp hi
    have a1 := atI_int (r := us) (i := i) (by omega)
    have a2 := atI_int (r := vs) (i := i) (by omega)
    have b1 : us.getD i 0 = us[i]'(by omega) := by simp [List.getD, List.getElem?_eq_getElem (show i < us.length by omega)]
    have b2 : vs.getD i 0 = vs[i] := by simp [List.getD, List.getElem?_eq_getElem hi']
    rw [b1] at a1
    rw [b2] at a2
    simp -implicitDefEqProofs [g1, g2, a1, a2, hF, hi', show i < us.length by omega]
  · intro i hi _; simp
theorem r_same_word {F : FD} {us vs : List Int} (h : vs.length ≤ 1000) (hF : ∀ i j : Int, F [.int i, .int j] = some (.bool (decide (i = j)))) : runD 3 (G_same F) [wd us, wd vs] = some (.bool (decide (us = vs))) := by
  by_cases hl : us.length = vs.length
  · have q := diffs_lc (c1 := .tuple) (c2 := .tuple) hF hl (fun _ _ => rfl) (fun _ _ => rfl)
    have hd := diffs_nil hl
    have hl' : ((us.length : Nat) : Int) = ((vs.length : Nat) : Int) := by omega
    have z : vs.length ≤ 100000 := by omega
    simp -implicitDefEqProofs [runD_eq, G_same, hl', rg1_nat (show vs.length ≤ 1000000 by omega), rgD_len, z, -List.map_map]
    rw [q]
    simp -implicitDefEqProofs [-List.map_map]
    by_cases e : us = vs
    · have := hd.mpr e
      subst e
      simp [this]
    · have : ¬ diffs us vs = [] := fun w => e (hd.mp w)
      simp [this, e]
  · have hl' : ¬ ((us.length : Nat) : Int) = ((vs.length : Nat) : Int) := by omega
    have e : ¬ us = vs := fun w => hl (by rw [w])
    simp -implicitDefEqProofs [runD_eq, G_same, hl', e]
theorem r_same_list {F : FD} {us vs : List Int} (h : vs.length ≤ 1000) (hF : ∀ i j : Int, F [.int i, .int j] = some (.bool (decide (i = j)))) : runD 3 (G_same F) [.list (us.map PyData.int), .list (vs.map PyData.int)] = some (.bool (decide (us = vs))) := by
  by_cases hl : us.length = vs.length
  · have q := diffs_lc (c1 := .list) (c2 := .list) hF hl (fun _ _ => rfl) (fun _ _ => rfl)
    have hd := diffs_nil hl
    have hl' : ((us.length : Nat) : Int) = ((vs.length : Nat) : Int) := by omega
    have z : vs.length ≤ 100000 := by omega
    simp -implicitDefEqProofs [runD_eq, G_same, hl', rg1_nat (show vs.length ≤ 1000000 by omega), rgD_len, z, -List.map_map]
    rw [q]
    simp -implicitDefEqProofs [-List.map_map]
    by_cases e : us = vs
    · have := hd.mpr e
      subst e
      simp [this]
    · have : ¬ diffs us vs = [] := fun w => e (hd.mp w)
      simp [this, e]
  · have hl' : ¬ ((us.length : Nat) : Int) = ((vs.length : Nat) : Int) := by omega
    have e : ¬ us = vs := fun w => hl (by rw [w])
    simp -implicitDefEqProofs [runD_eq, G_same, hl', e]
end DL
namespace K25
open PySem PySem.Spec PyProof.Rows L2 DL
theorem mixed_at {c t : Int} : R__law_mixed [.int c, .int t] = some (.int (mixed c t)) := r_mixed c t
theorem word_at {v s m : Int} (h1 : 2 ≤ s) (h2 : s ≤ 1000) (h3 : 0 ≤ m) (h4 : m ≤ 1000) : R__law_word [.int v, .int s, .int m] = some (wd (lword v s m)) := r_word v s m h1 h2 h3 h4
theorem same1 {i j : Int} : R__law_same_1 [.int i, .int j] = some (.bool (decide (i = j))) := r_same_int (F := R__law_same_0)
theorem same_int {i j : Int} : R__law_same [.int i, .int j] = some (.bool (decide (i = j))) := by unfold R__law_same R__law_same_2; exact r_same_int (i := i) (j := j)
theorem same_word {us vs : List Int} (h : vs.length ≤ 1000) : R__law_same [wd us, wd vs] = some (.bool (decide (us = vs))) := r_same_word h fun _ _ => same1
theorem same_list {us vs : List Int} (h : vs.length ≤ 1000) : R__law_same [.list (us.map PyData.int), .list (vs.map PyData.int)] = some (.bool (decide (us = vs))) := r_same_list h fun _ _ => same1
theorem lawup_at {x : Int} : R__law_up [.int x] = some (.int (upI x)) := r_up
theorem lawdown_at {x : Int} : R__law_down [.int x] = some (.int (dnI x)) := r_down
theorem lawcarried_at {ps : List (Int × Int)} {ws : List Int} (hp : ps.length ≤ 1000) (hl : ws.length ≤ 100000) (hw : ∀ w ∈ ws, w ≠ 0 ∧ w.natAbs < ps.length) : R__law_carried [wd (flatP ps), wd ws] = some (wd (flatP (carP ws ps))) := r_carried (fun _ => lawdown_at) (fun _ => lawup_at) hp hl hw
theorem lawcurve_at {s : Int} {ws : List Int} (hs1 : 2 ≤ s) (hs2 : s ≤ 1000) (hl : ws.length ≤ 100000) (hw : ∀ w ∈ ws, w ≠ 0 ∧ w.natAbs < s.toNat) : R__law_curve [.int s, wd ws] = some (wd (curveL s.toNat ws)) := r_curve hs1 hs2 fun ps hp => lawcarried_at (by omega) hl fun w h => by rw [hp]; exact hw w h
theorem lawlean_at {ps : List (Int × Int)} (hp : ps.length ≤ 1000) : R__law_lean [wd (flatP ps)] = some (.int (leanP ps)) := r_lean hp
theorem plain_at {s : Int} (hs1 : 2 ≤ s) (hs2 : s ≤ 1000) : R_plain_curve [.int s] = some (wd (flatP (plainP s.toNat))) := p_plain hs1 hs2
theorem carried_at {ps : List (Int × Int)} {ws : List Int} (hp : ps.length ≤ 1000) (hl : ws.length ≤ 100000) (hw : ∀ w ∈ ws, w ≠ 0 ∧ w.natAbs < ps.length) : R_carried [wd (flatP ps), wd ws] = some (wd (flatP (carP ws ps))) := p_carried (fun _ _ _ _ => p_crossed) (fun _ _ _ _ => p_crossed_back) hp hl hw
theorem curve_at {s : Int} {ws : List Int} (hs1 : 2 ≤ s) (hs2 : s ≤ 1000) (hl : ws.length ≤ 100000) (hw : ∀ w ∈ ws, w ≠ 0 ∧ w.natAbs < s.toNat) : R_curve_of [.int s, wd ws] = some (wd (curveL s.toNat ws)) := by
  have e : (plainP s.toNat).length = s.toNat := by unfold plainP; rw [List.length_replicate]
  exact p_curve_of hs1 hs2 (plain_at hs1 hs2) (carried_at (by rw [e]; omega) hl fun w h => by rw [e]; exact hw w h)
theorem lean_at {ps : List (Int × Int)} : R_lean [wd (flatP ps)] = some (.int (leanP ps)) := p_lean
theorem carP_app (us vs : List Int) (ps : List (Int × Int)) : carP (us ++ vs) ps = carP vs (carP us ps) := List.foldl_append
theorem law_at (ns : List Int) (hn : ns.length ≤ 63) : R_law [.list (ns.map .int)] = some (.bool true) := by
  simp -implicitDefEqProofs [R_law, runD_eq, g_law, Option.bind_assoc]
  refine forD_all (fun i ρ => ∃ a b c d e f g h k, ρ = [Slot.d (PyData.list (List.map PyData.int ns)), a, b, c, d, e, f, g, h, k]) ⟨_, _, _, _, _, _, _, _, _, rfl⟩ ?_ ?_
  · rintro i x ρ hi ⟨a, b, c, d, e, f, g, h, k, rfl⟩
    obtain ⟨y, hy, rfl⟩ := enD_at hi
    rw [cut_map] at hy
    obtain ⟨z, hz, rfl⟩ := map_get hy
    obtain ⟨v, hv⟩ : ∃ v, v = mixed z i := ⟨_, rfl⟩
    have hv1 := Int.emod_nonneg v (show (7 : Int) ≠ 0 by omega)
    have hv2 := Int.emod_lt_of_pos v (show (0 : Int) < 7 by omega)
    obtain ⟨s, hs⟩ : ∃ s, s = 2 + v % 7 := ⟨_, rfl⟩
    have hs1 : 2 ≤ s := by omega
    have hs2 : s ≤ 8 := by omega
    have k1 := word_at (v := v / 7) (s := s) (m := 24) (by omega) (by omega) (by omega) (by omega)
    have w1 : (∀ w ∈ lword (v / 7) s 24, w ≠ 0 ∧ -s < w ∧ w < s) := fun w hw => lword_mem hs1 hw
    have l1 := lword_len (v := v / 7) (s := s) (m := 24) (by omega)
    generalize lword (v / 7) s 24 = ws at k1 w1 l1
    have hw : ∀ w ∈ ws, w ≠ 0 ∧ w.natAbs < s.toNat := fun w h => by have := w1 w h; omega
    have hpl : (plainP s.toNat).length = s.toNat := by unfold plainP; rw [List.length_replicate]
    have q1 := lawcurve_at (s := s) (ws := ws) hs1 (by omega) (by omega) hw
    have q2 := plain_at (s := s) hs1 (by omega)
    have q3 := curve_at (s := s) (ws := ws) hs1 (by omega) (by omega) hw
    have e0 : wd (flatP (plainP s.toNat)) = .tuple (List.replicate s.toNat [PyData.int 0, PyData.int 1]).flatten := by rw [rep_plain]
    have lc : (curveL s.toNat ws).length ≤ 1000 := by unfold curveL; rw [flatP_len, carP_len, hpl]; omega
    have lp : (flatP (plainP s.toNat)).length ≤ 1000 := by rw [flatP_len, hpl]; omega
    have q4 := same_word (us := flatP (plainP s.toNat)) (vs := flatP (plainP s.toNat)) lp
    have q5 := same_word (us := curveL s.toNat ws) (vs := curveL s.toNat ws) lc
    have hm1 := Int.emod_nonneg (v / 1000000000000) (show ((ws.length : Int) + 1) ≠ 0 by omega)
    have hm2 := Int.emod_lt_of_pos (v / 1000000000000) (show (0 : Int) < ((ws.length : Int) + 1) by omega)
    obtain ⟨at', hat⟩ : ∃ a, a = v / 1000000000000 % ((ws.length : Int) + 1) := ⟨_, rfl⟩
    have hat1 : 0 ≤ at' := by omega
    have hw2 : ∀ w ∈ ws.take at'.toNat, w ≠ 0 ∧ w.natAbs < s.toNat := fun w h => hw w (List.mem_of_mem_take h)
    have hw3 : ∀ w ∈ ws.drop at'.toNat, w ≠ 0 ∧ w.natAbs < s.toNat := fun w h => hw w (List.mem_of_mem_drop h)
    have q6 := curve_at (s := s) (ws := ws.take at'.toNat) hs1 (by omega) (by rw [List.length_take]; omega) hw2
    have lcp : (carP (ws.take at'.toNat) (plainP s.toNat)).length = s.toNat := by rw [carP_len, hpl]
    have q7 := carried_at (ps := carP (ws.take at'.toNat) (plainP s.toNat)) (ws := ws.drop at'.toNat) (by omega) (by rw [List.length_drop]; omega) (by rw [lcp]; exact hw3)
    rw [← carP_app, List.take_append_drop] at q7
    have lce : (carP ws (plainP s.toNat)).length = s.toNat := by rw [carP_len, hpl]
    have q8 : R_carried [wd (curveL s.toNat ws), .tuple []] = some (wd (curveL s.toNat ws)) := carried_at (ps := carP ws (plainP s.toNat)) (ws := []) (by omega) (by simp) (by simp)
    have q9 : R_lean [wd (curveL s.toNat ws)] = some (.int (leanP (carP ws (plainP s.toNat)))) := lean_at
    have q10 : R__law_lean [wd (curveL s.toNat ws)] = some (.int (leanP (carP ws (plainP s.toNat)))) := lawlean_at (by omega)
    have q11 : R_carried [wd (curveL s.toNat (ws.take at'.toNat)), wd (ws.drop at'.toNat)] = some (wd (curveL s.toNat ws)) := q7
    have c1 : cutD (ws.map PyData.int) none (some at') = (ws.take at'.toNat).map PyData.int := by rw [cut_map, cut_to hat1]
    have c2 : cutD (ws.map PyData.int) (some at') none = (ws.drop at'.toNat).map PyData.int := by rw [cut_map, cut_from hat1]
    rw [e0] at q2 q4
    simp -implicitDefEqProofs [mixed_at, ← hv, ← hs, k1, q1, q2, q3, q4, q5, hs1, show s ≤ 1000 by omega, ← hat, c1, c2, q6, q8, q9, q10, q11, same_int, -List.map_take, -List.map_drop, -List.flatten_replicate_singleton]
  · rintro ρ ⟨a, b, c, d, e, f, g, h, k, rfl⟩
    simp
end K25
namespace K25
open PySem PySem.Spec PyProof.Rows L2 DL
theorem all_mk {l : PySem.W.OpenLaw} {w : World} {K : PySem.W.Frag} {h : Heap} {mg : Str → Option Value} {fa f_plain_curve f_carried f_curve_of f_lean f__crossed f__crossed_back f__law_mixed f__law_word f__law_up f__law_down f__law_carried f__law_curve f__law_lean f__law_same f_law : Addr} (X : K.In h) (G : h.Ns mainGlobals mg) (hfa : mg "law" = some (.ref fa))
    {od_plain_curve an_plain_curve od_carried an_carried od_curve_of an_curve_of od_lean an_lean od__crossed an__crossed od__crossed_back an__crossed_back od__law_mixed an__law_mixed od__law_word an__law_word od__law_up an__law_up od__law_down an__law_down od__law_carried an__law_carried od__law_curve an__law_curve od__law_lean an__law_lean od__law_same an__law_same od_law an_law : Option Addr} {sl_plain_curve sl_carried sl_curve_of sl_lean sl__crossed sl__crossed_back sl__law_mixed sl__law_word sl__law_up sl__law_down sl__law_carried sl__law_curve sl__law_lean sl__law_same sl_law : Array (Option Value)} {oc_plain_curve kV_plain_curve dc_plain_curve pm_plain_curve cd_plain_curve ct_plain_curve oc_carried kV_carried dc_carried pm_carried cd_carried ct_carried oc_curve_of kV_curve_of dc_curve_of pm_curve_of cd_curve_of ct_curve_of oc_lean kV_lean dc_lean pm_lean cd_lean ct_lean oc__crossed kV__crossed dc__crossed pm__crossed cd__crossed ct__crossed oc__crossed_back kV__crossed_back dc__crossed_back pm__crossed_back cd__crossed_back ct__crossed_back oc__law_mixed kV__law_mixed dc__law_mixed pm__law_mixed cd__law_mixed ct__law_mixed oc__law_word kV__law_word dc__law_word pm__law_word cd__law_word ct__law_word oc__law_up kV__law_up dc__law_up pm__law_up cd__law_up ct__law_up oc__law_down kV__law_down dc__law_down pm__law_down cd__law_down ct__law_down oc__law_carried kV__law_carried dc__law_carried pm__law_carried cd__law_carried ct__law_carried oc__law_curve kV__law_curve dc__law_curve pm__law_curve cd__law_curve ct__law_curve oc__law_lean kV__law_lean dc__law_lean pm__law_lean cd__law_lean ct__law_lean oc__law_same kV__law_same dc__law_same pm__law_same cd__law_same ct__law_same oc_law kV_law dc_law pm_law cd_law ct_law : Value}
    (a_plain_curve : PySem.W.nsIn K mainGlobals "plain_curve" = some (some (.ref f_plain_curve))) (l_plain_curve : K.lookup f_plain_curve = some ⟨oc_plain_curve, od_plain_curve, .func (PySem.W.fnOf "plain_curve" "plain_curve" (defArgs s_plain_curve) (defBody s_plain_curve) (defScope s_plain_curve) .none kV_plain_curve dc_plain_curve pm_plain_curve an_plain_curve cd_plain_curve ct_plain_curve), sl_plain_curve⟩) (c_plain_curve : PySem.W.codeIn K cd_plain_curve "plain_curve" = true) (k_plain_curve : PySem.W.keepIn K (.ref f_plain_curve) = true)
    (a_carried : PySem.W.nsIn K mainGlobals "carried" = some (some (.ref f_carried))) (l_carried : K.lookup f_carried = some ⟨oc_carried, od_carried, .func (PySem.W.fnOf "carried" "carried" (defArgs s_carried) (defBody s_carried) (defScope s_carried) .none kV_carried dc_carried pm_carried an_carried cd_carried ct_carried), sl_carried⟩) (c_carried : PySem.W.codeIn K cd_carried "carried" = true) (k_carried : PySem.W.keepIn K (.ref f_carried) = true)
    (a_curve_of : PySem.W.nsIn K mainGlobals "curve_of" = some (some (.ref f_curve_of))) (l_curve_of : K.lookup f_curve_of = some ⟨oc_curve_of, od_curve_of, .func (PySem.W.fnOf "curve_of" "curve_of" (defArgs s_curve_of) (defBody s_curve_of) (defScope s_curve_of) .none kV_curve_of dc_curve_of pm_curve_of an_curve_of cd_curve_of ct_curve_of), sl_curve_of⟩) (c_curve_of : PySem.W.codeIn K cd_curve_of "curve_of" = true) (k_curve_of : PySem.W.keepIn K (.ref f_curve_of) = true)
    (a_lean : PySem.W.nsIn K mainGlobals "lean" = some (some (.ref f_lean))) (l_lean : K.lookup f_lean = some ⟨oc_lean, od_lean, .func (PySem.W.fnOf "lean" "lean" (defArgs s_lean) (defBody s_lean) (defScope s_lean) .none kV_lean dc_lean pm_lean an_lean cd_lean ct_lean), sl_lean⟩) (c_lean : PySem.W.codeIn K cd_lean "lean" = true) (k_lean : PySem.W.keepIn K (.ref f_lean) = true)
    (a__crossed : PySem.W.nsIn K mainGlobals "_crossed" = some (some (.ref f__crossed))) (l__crossed : K.lookup f__crossed = some ⟨oc__crossed, od__crossed, .func (PySem.W.fnOf "_crossed" "_crossed" (defArgs s__crossed) (defBody s__crossed) (defScope s__crossed) .none kV__crossed dc__crossed pm__crossed an__crossed cd__crossed ct__crossed), sl__crossed⟩) (c__crossed : PySem.W.codeIn K cd__crossed "_crossed" = true) (k__crossed : PySem.W.keepIn K (.ref f__crossed) = true)
    (a__crossed_back : PySem.W.nsIn K mainGlobals "_crossed_back" = some (some (.ref f__crossed_back))) (l__crossed_back : K.lookup f__crossed_back = some ⟨oc__crossed_back, od__crossed_back, .func (PySem.W.fnOf "_crossed_back" "_crossed_back" (defArgs s__crossed_back) (defBody s__crossed_back) (defScope s__crossed_back) .none kV__crossed_back dc__crossed_back pm__crossed_back an__crossed_back cd__crossed_back ct__crossed_back), sl__crossed_back⟩) (c__crossed_back : PySem.W.codeIn K cd__crossed_back "_crossed_back" = true) (k__crossed_back : PySem.W.keepIn K (.ref f__crossed_back) = true)
    (a__law_mixed : PySem.W.nsIn K mainGlobals "_law_mixed" = some (some (.ref f__law_mixed))) (l__law_mixed : K.lookup f__law_mixed = some ⟨oc__law_mixed, od__law_mixed, .func (PySem.W.fnOf "_law_mixed" "_law_mixed" (defArgs s__law_mixed) (defBody s__law_mixed) (defScope s__law_mixed) .none kV__law_mixed dc__law_mixed pm__law_mixed an__law_mixed cd__law_mixed ct__law_mixed), sl__law_mixed⟩) (c__law_mixed : PySem.W.codeIn K cd__law_mixed "_law_mixed" = true) (k__law_mixed : PySem.W.keepIn K (.ref f__law_mixed) = true)
    (a__law_word : PySem.W.nsIn K mainGlobals "_law_word" = some (some (.ref f__law_word))) (l__law_word : K.lookup f__law_word = some ⟨oc__law_word, od__law_word, .func (PySem.W.fnOf "_law_word" "_law_word" (defArgs s__law_word) (defBody s__law_word) (defScope s__law_word) .none kV__law_word dc__law_word pm__law_word an__law_word cd__law_word ct__law_word), sl__law_word⟩) (c__law_word : PySem.W.codeIn K cd__law_word "_law_word" = true) (k__law_word : PySem.W.keepIn K (.ref f__law_word) = true)
    (a__law_up : PySem.W.nsIn K mainGlobals "_law_up" = some (some (.ref f__law_up))) (l__law_up : K.lookup f__law_up = some ⟨oc__law_up, od__law_up, .func (PySem.W.fnOf "_law_up" "_law_up" (defArgs s__law_up) (defBody s__law_up) (defScope s__law_up) .none kV__law_up dc__law_up pm__law_up an__law_up cd__law_up ct__law_up), sl__law_up⟩) (c__law_up : PySem.W.codeIn K cd__law_up "_law_up" = true) (k__law_up : PySem.W.keepIn K (.ref f__law_up) = true)
    (a__law_down : PySem.W.nsIn K mainGlobals "_law_down" = some (some (.ref f__law_down))) (l__law_down : K.lookup f__law_down = some ⟨oc__law_down, od__law_down, .func (PySem.W.fnOf "_law_down" "_law_down" (defArgs s__law_down) (defBody s__law_down) (defScope s__law_down) .none kV__law_down dc__law_down pm__law_down an__law_down cd__law_down ct__law_down), sl__law_down⟩) (c__law_down : PySem.W.codeIn K cd__law_down "_law_down" = true) (k__law_down : PySem.W.keepIn K (.ref f__law_down) = true)
    (a__law_carried : PySem.W.nsIn K mainGlobals "_law_carried" = some (some (.ref f__law_carried))) (l__law_carried : K.lookup f__law_carried = some ⟨oc__law_carried, od__law_carried, .func (PySem.W.fnOf "_law_carried" "_law_carried" (defArgs s__law_carried) (defBody s__law_carried) (defScope s__law_carried) .none kV__law_carried dc__law_carried pm__law_carried an__law_carried cd__law_carried ct__law_carried), sl__law_carried⟩) (c__law_carried : PySem.W.codeIn K cd__law_carried "_law_carried" = true) (k__law_carried : PySem.W.keepIn K (.ref f__law_carried) = true)
    (a__law_curve : PySem.W.nsIn K mainGlobals "_law_curve" = some (some (.ref f__law_curve))) (l__law_curve : K.lookup f__law_curve = some ⟨oc__law_curve, od__law_curve, .func (PySem.W.fnOf "_law_curve" "_law_curve" (defArgs s__law_curve) (defBody s__law_curve) (defScope s__law_curve) .none kV__law_curve dc__law_curve pm__law_curve an__law_curve cd__law_curve ct__law_curve), sl__law_curve⟩) (c__law_curve : PySem.W.codeIn K cd__law_curve "_law_curve" = true) (k__law_curve : PySem.W.keepIn K (.ref f__law_curve) = true)
    (a__law_lean : PySem.W.nsIn K mainGlobals "_law_lean" = some (some (.ref f__law_lean))) (l__law_lean : K.lookup f__law_lean = some ⟨oc__law_lean, od__law_lean, .func (PySem.W.fnOf "_law_lean" "_law_lean" (defArgs s__law_lean) (defBody s__law_lean) (defScope s__law_lean) .none kV__law_lean dc__law_lean pm__law_lean an__law_lean cd__law_lean ct__law_lean), sl__law_lean⟩) (c__law_lean : PySem.W.codeIn K cd__law_lean "_law_lean" = true) (k__law_lean : PySem.W.keepIn K (.ref f__law_lean) = true)
    (a__law_same : PySem.W.nsIn K mainGlobals "_law_same" = some (some (.ref f__law_same))) (l__law_same : K.lookup f__law_same = some ⟨oc__law_same, od__law_same, .func (PySem.W.fnOf "_law_same" "_law_same" (defArgs s__law_same) (defBody s__law_same) (defScope s__law_same) .none kV__law_same dc__law_same pm__law_same an__law_same cd__law_same ct__law_same), sl__law_same⟩) (c__law_same : PySem.W.codeIn K cd__law_same "_law_same" = true) (k__law_same : PySem.W.keepIn K (.ref f__law_same) = true)
    (a_law : PySem.W.nsIn K mainGlobals "law" = some (some (.ref f_law))) (l_law : K.lookup f_law = some ⟨oc_law, od_law, .func (PySem.W.fnOf "law" "law" (defArgs s_law) (defBody s_law) (defScope s_law) .none kV_law dc_law pm_law an_law cd_law ct_law), sl_law⟩) (c_law : PySem.W.codeIn K cd_law "law" = true) (k_law : PySem.W.keepIn K (.ref f_law) = true)
    (z_tuple : PySem.W.nsIn K mainGlobals "tuple" = some none) (z_abs : PySem.W.nsIn K mainGlobals "abs" = some none) (z_list : PySem.W.nsIn K mainGlobals "list" = some none) (z_max : PySem.W.nsIn K mainGlobals "max" = some none) (z_min : PySem.W.nsIn K mainGlobals "min" = some none) (z_int : PySem.W.nsIn K mainGlobals "int" = some none) (z_range : PySem.W.nsIn K mainGlobals "range" = some none) (z_len : PySem.W.nsIn K mainGlobals "len" = some none) (z_isinstance : PySem.W.nsIn K mainGlobals "isinstance" = some none) (z_bool : PySem.W.nsIn K mainGlobals "bool" = some none) (z_enumerate : PySem.W.nsIn K mainGlobals "enumerate" = some none) :
    ∃ fd : FuncData, (∀ (s : Shared) (v : Value), BindsTo s fd ⟨[v], []⟩ [("script", v)]) ∧ ∀ base : Heap, K.In base → base.Ns mainGlobals mg → FnOk l.prog w K mg base CX0 4 fa fd ["script"] (spLaw K) := by
  have e := hfa.symm.trans (PySem.W.mg_of X G a_law)
  cases e
  have F_plain_curve := fun_mk (st := s_plain_curve) l_plain_curve c_plain_curve k_plain_curve
  have m_plain_curve := PySem.W.mg_of X G a_plain_curve
  have b_plain_curve := F_plain_curve.binds (ps := ["strands"]) fun _ _ _ _ _ _ us hl => match us, hl with | [_], _ => rfl
  have F_carried := fun_mk (st := s_carried) l_carried c_carried k_carried
  have m_carried := PySem.W.mg_of X G a_carried
  have b_carried := F_carried.binds (ps := ["curve", "word"]) fun _ _ _ _ _ _ us hl => match us, hl with | [_, _], _ => rfl
  have F_curve_of := fun_mk (st := s_curve_of) l_curve_of c_curve_of k_curve_of
  have m_curve_of := PySem.W.mg_of X G a_curve_of
  have b_curve_of := F_curve_of.binds (ps := ["strands", "word"]) fun _ _ _ _ _ _ us hl => match us, hl with | [_, _], _ => rfl
  have F_lean := fun_mk (st := s_lean) l_lean c_lean k_lean
  have m_lean := PySem.W.mg_of X G a_lean
  have b_lean := F_lean.binds (ps := ["curve"]) fun _ _ _ _ _ _ us hl => match us, hl with | [_], _ => rfl
  have F__crossed := fun_mk (st := s__crossed) l__crossed c__crossed k__crossed
  have m__crossed := PySem.W.mg_of X G a__crossed
  have b__crossed := F__crossed.binds (ps := ["a", "b", "c", "d"]) fun _ _ _ _ _ _ us hl => match us, hl with | [_, _, _, _], _ => rfl
  have F__crossed_back := fun_mk (st := s__crossed_back) l__crossed_back c__crossed_back k__crossed_back
  have m__crossed_back := PySem.W.mg_of X G a__crossed_back
  have b__crossed_back := F__crossed_back.binds (ps := ["a", "b", "c", "d"]) fun _ _ _ _ _ _ us hl => match us, hl with | [_, _, _, _], _ => rfl
  have F__law_mixed := fun_mk (st := s__law_mixed) l__law_mixed c__law_mixed k__law_mixed
  have m__law_mixed := PySem.W.mg_of X G a__law_mixed
  have b__law_mixed := F__law_mixed.binds (ps := ["cell", "turn"]) fun _ _ _ _ _ _ us hl => match us, hl with | [_, _], _ => rfl
  have F__law_word := fun_mk (st := s__law_word) l__law_word c__law_word k__law_word
  have m__law_word := PySem.W.mg_of X G a__law_word
  have b__law_word := F__law_word.binds (ps := ["value", "strands", "most"]) fun _ _ _ _ _ _ us hl => match us, hl with | [_, _, _], _ => rfl
  have F__law_up := fun_mk (st := s__law_up) l__law_up c__law_up k__law_up
  have m__law_up := PySem.W.mg_of X G a__law_up
  have b__law_up := F__law_up.binds (ps := ["x"]) fun _ _ _ _ _ _ us hl => match us, hl with | [_], _ => rfl
  have F__law_down := fun_mk (st := s__law_down) l__law_down c__law_down k__law_down
  have m__law_down := PySem.W.mg_of X G a__law_down
  have b__law_down := F__law_down.binds (ps := ["x"]) fun _ _ _ _ _ _ us hl => match us, hl with | [_], _ => rfl
  have F__law_carried := fun_mk (st := s__law_carried) l__law_carried c__law_carried k__law_carried
  have m__law_carried := PySem.W.mg_of X G a__law_carried
  have b__law_carried := F__law_carried.binds (ps := ["curve", "word"]) fun _ _ _ _ _ _ us hl => match us, hl with | [_, _], _ => rfl
  have F__law_curve := fun_mk (st := s__law_curve) l__law_curve c__law_curve k__law_curve
  have m__law_curve := PySem.W.mg_of X G a__law_curve
  have b__law_curve := F__law_curve.binds (ps := ["strands", "word"]) fun _ _ _ _ _ _ us hl => match us, hl with | [_, _], _ => rfl
  have F__law_lean := fun_mk (st := s__law_lean) l__law_lean c__law_lean k__law_lean
  have m__law_lean := PySem.W.mg_of X G a__law_lean
  have b__law_lean := F__law_lean.binds (ps := ["curve"]) fun _ _ _ _ _ _ us hl => match us, hl with | [_], _ => rfl
  have F__law_same := fun_mk (st := s__law_same) l__law_same c__law_same k__law_same
  have m__law_same := PySem.W.mg_of X G a__law_same
  have b__law_same := F__law_same.binds (ps := ["told", "due"]) fun _ _ _ _ _ _ us hl => match us, hl with | [_, _], _ => rfl
  have F_law := fun_mk (st := s_law) l_law c_law k_law
  have m_law := PySem.W.mg_of X G a_law
  have m_tuple := PySem.W.mg_none_of X G z_tuple
  have m_abs := PySem.W.mg_none_of X G z_abs
  have m_list := PySem.W.mg_none_of X G z_list
  have m_max := PySem.W.mg_none_of X G z_max
  have m_min := PySem.W.mg_none_of X G z_min
  have m_int := PySem.W.mg_none_of X G z_int
  have m_range := PySem.W.mg_none_of X G z_range
  have m_len := PySem.W.mg_none_of X G z_len
  have m_isinstance := PySem.W.mg_none_of X G z_isinstance
  have m_bool := PySem.W.mg_none_of X G z_bool
  have m_enumerate := PySem.W.mg_none_of X G z_enumerate
  refine ⟨PySem.W.fnOf "law" "law" (defArgs s_law) (defBody s_law) (defScope s_law) .none kV_law dc_law pm_law an_law cd_law ct_law, fun s v => .of_eq rfl, fun base _ _ => ?_⟩
  have G_plain_curve : FnOk l.prog w K mg base CX0 1 f_plain_curve _ ["strands"] (spD K 1 R_plain_curve) := ok_plain_curve (k := 0) F_plain_curve
  have G__crossed : FnOk l.prog w K mg base CX0 1 f__crossed _ ["a", "b", "c", "d"] (spD K 4 R__crossed) := ok__crossed (k := 0) F__crossed m_max m_min
  have G__crossed_back : FnOk l.prog w K mg base CX0 1 f__crossed_back _ ["a", "b", "c", "d"] (spD K 4 R__crossed_back) := ok__crossed_back (k := 0) F__crossed_back m_max m_min
  have G_carried : FnOk l.prog w K mg base CX0 2 f_carried _ ["curve", "word"] (spD K 2 R_carried) := ok_carried (k := 1) F_carried G__crossed (by decide) m__crossed k__crossed b__crossed G__crossed_back (by decide) m__crossed_back k__crossed_back b__crossed_back m_tuple m_abs m_list
  have G_curve_of : FnOk l.prog w K mg base CX0 3 f_curve_of _ ["strands", "word"] (spD K 2 R_curve_of) := ok_curve_of (k := 2) F_curve_of G_carried (by decide) m_carried k_carried b_carried G_plain_curve (by decide) m_plain_curve k_plain_curve b_plain_curve
  have G_lean : FnOk l.prog w K mg base CX0 1 f_lean _ ["curve"] (spD K 1 R_lean) := ok_lean (k := 0) F_lean
  have G__law_mixed : FnOk l.prog w K mg base CX0 1 f__law_mixed _ ["cell", "turn"] (spD K 2 R__law_mixed) := ok__law_mixed (k := 0) F__law_mixed m_int
  have G__law_word : FnOk l.prog w K mg base CX0 1 f__law_word _ ["value", "strands", "most"] (spD K 3 R__law_word) := ok__law_word (k := 0) F__law_word m_tuple m_range m_int
  have G__law_up : FnOk l.prog w K mg base CX0 1 f__law_up _ ["x"] (spD K 1 R__law_up) := ok__law_up (k := 0) F__law_up
  have G__law_down : FnOk l.prog w K mg base CX0 1 f__law_down _ ["x"] (spD K 1 R__law_down) := ok__law_down (k := 0) F__law_down
  have G__law_carried : FnOk l.prog w K mg base CX0 2 f__law_carried _ ["curve", "word"] (spD K 2 R__law_carried) := ok__law_carried (k := 1) F__law_carried G__law_down (by decide) m__law_down k__law_down b__law_down G__law_up (by decide) m__law_up k__law_up b__law_up m_tuple m_abs m_range m_len m_list
  have G__law_curve : FnOk l.prog w K mg base CX0 3 f__law_curve _ ["strands", "word"] (spD K 2 R__law_curve) := ok__law_curve (k := 2) F__law_curve G__law_carried (by decide) m__law_carried k__law_carried b__law_carried
  have G__law_lean : FnOk l.prog w K mg base CX0 1 f__law_lean _ ["curve"] (spD K 1 R__law_lean) := ok__law_lean (k := 0) F__law_lean m_range m_len
  have G__law_same_0 : FnOk l.prog w K mg base CX0 0 f__law_same (PySem.W.fnOf "_law_same" "_law_same" (defArgs s__law_same) (defBody s__law_same) (defScope s__law_same) .none kV__law_same dc__law_same pm__law_same an__law_same cd__law_same ct__law_same) ["told", "due"] (spD K 2 R__law_same_0) := fn_none
  have G__law_same_1 : FnOk l.prog w K mg base CX0 1 f__law_same _ ["told", "due"] (spD K 2 R__law_same_1) := ok__law_same (k := 0) F__law_same G__law_same_0 (by decide) m__law_same k__law_same b__law_same m_isinstance m_int m_bool m_tuple m_list m_range m_len
  have G__law_same_2 : FnOk l.prog w K mg base CX0 2 f__law_same _ ["told", "due"] (spD K 2 R__law_same_2) := ok__law_same (k := 1) F__law_same G__law_same_1 (by decide) m__law_same k__law_same b__law_same m_isinstance m_int m_bool m_tuple m_list m_range m_len
  have G__law_same : FnOk l.prog w K mg base CX0 2 f__law_same _ ["told", "due"] (spD K 2 R__law_same) := G__law_same_2
  exact law_of (ok_law (k := 3) F_law G__law_same (by decide) m__law_same k__law_same b__law_same G_lean (by decide) m_lean k_lean b_lean G__law_lean (by decide) m__law_lean k__law_lean b__law_lean G_carried (by decide) m_carried k_carried b_carried G_curve_of (by decide) m_curve_of k_curve_of b_curve_of G_plain_curve (by decide) m_plain_curve k_plain_curve b_plain_curve G__law_curve (by decide) m__law_curve k__law_curve b__law_curve G__law_word (by decide) m__law_word k__law_word b__law_word G__law_mixed (by decide) m__law_mixed k__law_mixed b__law_mixed m_enumerate m_tuple m_len) law_at
end K25
open PySem PySem.W PyProof.Rows
set_option maxRecDepth 100000 in
set_option maxHeartbeats 0 in
theorem PySem.Challenge.cw_strandsplaited_k25_curves_holds : PySem.Challenge.rw_strandsplaited_k25_curves.Holds := by
  w_on; o_law; k_head; (case hw => w_witness2)
  k_fill
  refine L2.walk_of (l := PySem.Challenge.rw_strandsplaited_k25_curves) (n := 63) (k := 4) (x := "script") (CX := fun _ => L2.CX0) (sp := fun w => DL.spLaw _) rfl (by decide) rfl ⟨rfl, by decide, by decide⟩ (fun w h Y => PySem.W.kIn_of Y) ?F (fun _ _ a ns hl _ hS => ⟨a, ns, rfl, hS, hl, fun _ => rfl⟩) (fun _ _ _ _ _ h => h)
  case F =>
    intro w mg fa h KX G hmg
    refine' K25.all_mk KX G hmg ?a_plain_curve ?l_plain_curve ?c_plain_curve ?k_plain_curve ?a_carried ?l_carried ?c_carried ?k_carried ?a_curve_of ?l_curve_of ?c_curve_of ?k_curve_of ?a_lean ?l_lean ?c_lean ?k_lean ?a__crossed ?l__crossed ?c__crossed ?k__crossed ?a__crossed_back ?l__crossed_back ?c__crossed_back ?k__crossed_back ?a__law_mixed ?l__law_mixed ?c__law_mixed ?k__law_mixed ?a__law_word ?l__law_word ?c__law_word ?k__law_word ?a__law_up ?l__law_up ?c__law_up ?k__law_up ?a__law_down ?l__law_down ?c__law_down ?k__law_down ?a__law_carried ?l__law_carried ?c__law_carried ?k__law_carried ?a__law_curve ?l__law_curve ?c__law_curve ?k__law_curve ?a__law_lean ?l__law_lean ?c__law_lean ?k__law_lean ?a__law_same ?l__law_same ?c__law_same ?k__law_same ?a_law ?l_law ?c_law ?k_law ?z_tuple ?z_abs ?z_list ?z_max ?z_min ?z_int ?z_range ?z_len ?z_isinstance ?z_bool ?z_enumerate
    (case a_plain_curve => k_is); (case l_plain_curve => k_is); (case c_plain_curve => k_is); (case k_plain_curve => k_is)
    (case a_carried => k_is); (case l_carried => k_is); (case c_carried => k_is); (case k_carried => k_is)
    (case a_curve_of => k_is); (case l_curve_of => k_is); (case c_curve_of => k_is); (case k_curve_of => k_is)
    (case a_lean => k_is); (case l_lean => k_is); (case c_lean => k_is); (case k_lean => k_is)
    (case a__crossed => k_is); (case l__crossed => k_is); (case c__crossed => k_is); (case k__crossed => k_is)
    (case a__crossed_back => k_is); (case l__crossed_back => k_is); (case c__crossed_back => k_is); (case k__crossed_back => k_is)
    (case a__law_mixed => k_is); (case l__law_mixed => k_is); (case c__law_mixed => k_is); (case k__law_mixed => k_is)
    (case a__law_word => k_is); (case l__law_word => k_is); (case c__law_word => k_is); (case k__law_word => k_is)
    (case a__law_up => k_is); (case l__law_up => k_is); (case c__law_up => k_is); (case k__law_up => k_is)
    (case a__law_down => k_is); (case l__law_down => k_is); (case c__law_down => k_is); (case k__law_down => k_is)
    (case a__law_carried => k_is); (case l__law_carried => k_is); (case c__law_carried => k_is); (case k__law_carried => k_is)
    (case a__law_curve => k_is); (case l__law_curve => k_is); (case c__law_curve => k_is); (case k__law_curve => k_is)
    (case a__law_lean => k_is); (case l__law_lean => k_is); (case c__law_lean => k_is); (case k__law_lean => k_is)
    (case a__law_same => k_is); (case l__law_same => k_is); (case c__law_same => k_is); (case k__law_same => k_is)
    (case a_law => k_is); (case l_law => k_is); (case c_law => k_is); (case k_law => k_is)
    (case z_tuple => k_is); (case z_abs => k_is); (case z_list => k_is); (case z_max => k_is)
    (case z_min => k_is); (case z_int => k_is); (case z_range => k_is); (case z_len => k_is)
    (case z_isinstance => k_is); (case z_bool => k_is); (case z_enumerate => k_is)
