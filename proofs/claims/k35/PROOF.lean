import PyProof.Rows.All
import Wide.All
import OpenK.AllK
import Wide.FinOn
import HandS.Base
import HandS.Call
import HandS.List
import HandS.Comp
import HandS.Ends
import HandS.Iter
import HandS.Walk
import HandS.Words
import HandS.Wide
import HandS.WideBits
import HandS.Gcd
import HandS.IsInst
import HandS.More
import HandS.Style
import HandS.Conv
import HandS.RaiseMore
import PyProof.ReprRoads
import HandS.TupAny
import KE.GoesMore
import HandS.Zip
import KE.GoesEnum
import PyProof.EnumMake
import HandS.Star
import HandS.Rev
import KE.KMathG
import HandS.NoneIn
import HandS.TupLe
import HandS.TupMul
import HandS.Deep
import KE.KRevSl
import PySem.Challenge.RW_platelights_k35_courses_levels_parts
set_option Elab.async false
set_option linter.all false
set_option maxRecDepth 100000
set_option maxHeartbeats 4000000
/-! A layer of my own over the hand layer: plain data, evaluated without the heap. -/
namespace DL
open PySem PySem.Spec L2
open PyProof.Rows hiding St

/-! ### heaps -/
def hid (hs : List Addr) (H : Hp) : Hp := fun a => if a ∈ hs then none else H a
theorem hid_out {hs : List Addr} {H : Hp} {a : Addr} (h : a ∉ hs) : hid hs H a = H a := if_neg h
theorem hid_some {hs : List Addr} {H : Hp} {a : Addr} {o : HO} (h : hid hs H a = some o) : a ∉ hs ∧ H a = some o := by
  unfold hid at h
  by_cases m : a ∈ hs
  · rw [if_pos m] at h; cases h
  · rw [if_neg m] at h; exact ⟨m, h⟩
def Sub (G H : Hp) : Prop := ∀ a o, G a = some o → H a = some o
theorem Sub.refl (H : Hp) : Sub H H := fun _ _ h => h
theorem hid_sub {hs : List Addr} {H : Hp} : Sub (hid hs H) H := fun _ _ h => (hid_some h).2
def Step (ps : List Addr) (H H' : Hp) : Prop := ∀ a o, a ∉ ps → H a = some o → H' a = some o
theorem Step.refl {ps : List Addr} (H : Hp) : Step ps H H := fun _ _ _ h => h
theorem Step.trans {ps : List Addr} {H H1 H2 : Hp} (a : Step ps H H1) (b : Step ps H1 H2) : Step ps H H2 := fun x o n h => b x o n (a x o n h)
theorem Step.mono {ps qs : List Addr} {H H1 : Hp} (a : Step ps H H1) (h : ∀ p ∈ ps, p ∈ qs) : Step qs H H1 := fun x o n q => a x o (fun m => n (h x m)) q
theorem Step.new {ps : List Addr} {H : Hp} {p : Addr} {o : HO} (h : H p = none) : Step ps H (upd H p o) := fun a u _ e => by
  rw [upd_ne (ne_of_none e h)]; exact e
theorem Step.hd {ps hs hs' : List Addr} {H H' : Hp} (s : Step ps H H') (h1 : ∀ p ∈ ps, p ∈ hs) (h2 : ∀ a ∈ hs', a ∉ hs → H a = none) : Sub (hid hs H) (hid hs' H') := fun a o e => by
  obtain ⟨n, q⟩ := hid_some e
  rw [hid_out (fun m => by rw [h2 a m n] at q; cases q)]
  exact s a o (fun m => n (h1 a m)) q
theorem Step.hd0 {ps hs : List Addr} {H H' : Hp} (s : Step ps H H') (h1 : ∀ p ∈ ps, p ∈ hs) : Sub (hid hs H) (hid hs H') := s.hd h1 fun _ m n => absurd m n

/-! ### data -/
theorem sqL_mono {K : PySem.W.Frag} {G H : Hp} {a : Addr} {xs : List V} (s : Sub G H) (h : SqL K G a xs) : SqL K H a xs := by
  rcases h with (h | ⟨o, h⟩) | h
  · exact .inl (.inl (s _ _ h))
  · exact .inl (.inr ⟨o, s _ _ h⟩)
  · exact .inr h
theorem sqT_mono {K : PySem.W.Frag} {G H : Hp} {a : Addr} {xs : List V} (s : Sub G H) (h : SqT K G a xs) : SqT K H a xs := by
  rcases h with (h | ⟨o, h⟩) | h
  · exact .inl (.inl (s _ _ h))
  · exact .inl (.inr ⟨o, s _ _ h⟩)
  · exact .inr h
mutual
theorem dp_mono {K : PySem.W.Frag} {G H : Hp} (s : Sub G H) : ∀ (d : PyData) (v : V), Dp K G v d → Dp K H v d
  | .none, _, h => by cases h; exact .non
  | .bool b, _, h => by cases h; exact .bl b
  | .int i, _, h => by cases h; exact .int i
  | .str x, _, h => by cases h; exact .str x
  | .list ds, _, h => by
    cases h with
    | lst hs ha => exact .lst (sqL_mono s hs) (dpa_mono s ds _ ha)
  | .tuple ds, _, h => by
    cases h with
    | tup hs ha => exact .tup (sqT_mono s hs) (dpa_mono s ds _ ha)
  | .dict _, _, h => by cases h
theorem dpa_mono {K : PySem.W.Frag} {G H : Hp} (s : Sub G H) : ∀ (ds : List PyData) (vs : List V), DpAll K G vs ds → DpAll K H vs ds
  | [], _, h => by cases h; exact .nil
  | d :: ds, _, h => by
    cases h with
    | cons h1 h2 => exact .cons (dp_mono s d _ h1) (dpa_mono s ds _ h2)
end
end DL
namespace L2
open PySem PySem.Spec DL
section
variable {K : PySem.W.Frag} {G H : Hp}
theorem Dp.up {v : V} {d : PyData} (h : Dp K G v d) (s : Sub G H) : Dp K H v d := dp_mono s d v h
theorem DpAll.up {vs : List V} {ds : List PyData} (h : DpAll K G vs ds) (s : Sub G H) : DpAll K H vs ds := dpa_mono s ds vs h
theorem DpAll.len : ∀ {vs : List V} {ds : List PyData}, DpAll K H vs ds → vs.length = ds.length
  | _, _, .nil => rfl
  | _, _, .cons _ t => congrArg (· + 1) (DpAll.len t)
theorem DpAll.get : ∀ {vs : List V} {ds : List PyData} {i : Nat} {d : PyData}, DpAll K H vs ds → ds[i]? = some d → ∃ v, vs[i]? = some v ∧ Dp K H v d
  | _, _, 0, _, .cons h _, e => by
    have e' := Option.some.inj e; subst e'; exact ⟨_, rfl, h⟩
  | _, _, i + 1, _, .cons _ t, e => by
    obtain ⟨v, h1, h2⟩ := DpAll.get (i := i) t (by simpa using e)
    exact ⟨v, by simpa using h1, h2⟩
theorem DpAll.getV : ∀ {vs : List V} {ds : List PyData} {i : Nat} {v : V}, DpAll K H vs ds → vs[i]? = some v → ∃ d, ds[i]? = some d ∧ Dp K H v d
  | _, _, 0, _, .cons h _, e => by
    have e' := Option.some.inj e; subst e'; exact ⟨_, rfl, h⟩
  | _, _, i + 1, _, .cons _ t, e => by
    obtain ⟨v, h1, h2⟩ := DpAll.getV (i := i) t (by simpa using e)
    exact ⟨v, by simpa using h1, h2⟩
theorem DpAll.app : ∀ {vs ws : List V} {ds es : List PyData}, DpAll K H vs ds → DpAll K H ws es → DpAll K H (vs ++ ws) (ds ++ es)
  | _, _, _, _, .nil, h => h
  | _, _, _, _, .cons a t, h => .cons a (DpAll.app t h)
theorem DpAll.tk : ∀ {vs : List V} {ds : List PyData} (n : Nat), DpAll K H vs ds → DpAll K H (vs.take n) (ds.take n)
  | _, _, 0, _ => .nil
  | _, _, _ + 1, .nil => .nil
  | _, _, n + 1, .cons a t => .cons a (DpAll.tk n t)
theorem DpAll.dr : ∀ {vs : List V} {ds : List PyData} (n : Nat), DpAll K H vs ds → DpAll K H (vs.drop n) (ds.drop n)
  | _, _, 0, h => h
  | _, _, _ + 1, .nil => .nil
  | _, _, n + 1, .cons _ t => DpAll.dr n t
theorem DpAll.set' : ∀ {vs : List V} {ds : List PyData} (n : Nat) {v : V} {d : PyData}, DpAll K H vs ds → Dp K H v d → DpAll K H (vs.set n v) (ds.set n d)
  | _, _, _, _, _, .nil, _ => .nil
  | _, _, 0, _, _, .cons _ t, h => .cons h t
  | _, _, n + 1, _, _, .cons a t, h => .cons a (DpAll.set' n t h)
theorem DpAll.ints : ∀ (ns : List Int), DpAll K H (ns.map V.int) (ns.map PyData.int)
  | [] => .nil
  | n :: ns => .cons (.int n) (DpAll.ints ns)
end

end L2
namespace DL
open PySem PySem.Spec L2
open PyProof.Rows hiding St
/-! ### states -/
inductive SV where
  | dat (d : PyData) | cel (i : Nat) | fn (x : Str)
abbrev Slots := List (Option SV)
structure Sta where
  ds : Slots
  cs : List (List PyData)
section
variable (K : PySem.W.Frag)
def RelS (hs ps : List Addr) (H : Hp) (v : V) : SV → Prop
  | .dat d => Dp K (hid hs H) v d
  | .cel i => ∃ p, ps[i]? = some p ∧ v = .ref p
  | .fn x => ∃ f, v = .ref f ∧ PySem.W.nsIn K mainGlobals x = some (some (.ref f))
structure HR (hs ps : List Addr) (H : Hp) (cs : List (List PyData)) : Prop where
  sub : ∀ p ∈ ps, p ∈ hs
  nd : ps.Nodup
  len : ps.length = cs.length
  trk : ∀ a ∈ hs, H a ≠ none
  cel : ∀ (i : Nat) (p : Addr) (xs : List PyData), ps[i]? = some p → cs[i]? = some xs → ∃ vs, H p = some (.lst vs) ∧ DpAll K (hid hs H) vs xs
structure Rel (hs ps : List Addr) (σ : St) (H : Hp) (st : Sta) : Prop where
  hr : HR K hs ps H st.cs
  len : σ.length = st.ds.length
  slot : ∀ (i : Nat) (x : SV), st.ds[i]? = some (some x) → ∃ v, σ[i]? = some (some v) ∧ RelS K hs ps H v x
end
section
variable {K : PySem.W.Frag} {hs hs' ps ps' : List Addr} {σ : St} {H H' : Hp} {st : Sta} {cs cs' : List (List PyData)}
theorem RelS.up {v : V} {x : SV} (h : RelS K hs ps H v x) (s : Sub (hid hs H) (hid hs' H')) : RelS K hs' ps H' v x := by
  cases x with
  | dat d => exact Dp.up h s
  | cel i => exact h
  | fn y => exact h
theorem Rel.slots (R : Rel K hs ps σ H st) (s : Sub (hid hs H) (hid hs' H')) (q : HR K hs' ps H' cs') : Rel K hs' ps σ H' ⟨st.ds, cs'⟩ :=
  ⟨q, R.len, fun i x e => let ⟨v, h1, h2⟩ := R.slot i x e; ⟨v, h1, h2.up s⟩⟩
/-- a step that changes nothing of the cells -/
theorem HR.step (R : HR K hs ps H cs) (s : Step [] H H') : HR K hs ps H' cs := by
  refine ⟨R.sub, R.nd, R.len, fun a m e => ?_, fun i p xs h1 h2 => ?_⟩
  · cases q : H a with
    | none => exact R.trk a m q
    | some o =>
      rw [s a o (by simp) q] at e
      cases e
  · obtain ⟨vs, q1, q2⟩ := R.cel i p xs h1 h2
    exact ⟨vs, s _ _ (by simp) q1, q2.up ((s.mono (qs := ps) (by simp)).hd0 R.sub)⟩
theorem Rel.step (R : Rel K hs ps σ H st) (s : Step [] H H') : Rel K hs ps σ H' st :=
  R.slots ((s.mono (qs := ps) (by simp)).hd0 R.hr.sub) (R.hr.step s)
/-- fewer addresses are hidden -/
theorem HR.less (R : HR K hs ps H cs) (h : ∀ a ∈ hs', a ∈ hs) (hp : ∀ p ∈ ps, p ∈ hs') : HR K hs' ps H cs := by
  have s : Sub (hid hs H) (hid hs' H) := fun a o e => by
    obtain ⟨n, q⟩ := hid_some e
    rw [hid_out fun m => n (h a m)]; exact q
  exact ⟨hp, R.nd, R.len, fun a m => R.trk a (h a m), fun i p xs h1 h2 => let ⟨vs, q1, q2⟩ := R.cel i p xs h1 h2; ⟨vs, q1, q2.up s⟩⟩
theorem Rel.less (R : Rel K hs ps σ H st) (h : ∀ a ∈ hs', a ∈ hs) (hp : ∀ p ∈ ps, p ∈ hs') : Rel K hs' ps σ H st := by
  have s : Sub (hid hs H) (hid hs' H) := fun a o e => by
    obtain ⟨n, q⟩ := hid_some e
    rw [hid_out fun m => n (h a m)]; exact q
  exact R.slots s (R.hr.less h hp)
/-- more are: new ones -/
theorem Rel.more (R : Rel K hs ps σ H st) {p : Addr} (s : Step [] H H') (hp : H p = none) (hp' : H' p ≠ none) : Rel K (p :: hs) ps σ H' st := by
  have e : ∀ a ∈ p :: hs, a ∉ hs → H a = none := fun a m n => by
    rcases List.mem_cons.mp m with e | m
    · rw [e]; exact hp
    · exact absurd m n
  have s1 := (s.mono (qs := ps) (by simp)).hd (hs' := p :: hs) R.hr.sub e
  have R1 := R.hr.step s
  refine R.slots s1 ⟨fun q m => List.mem_cons_of_mem _ (R.hr.sub q m), R.hr.nd, R.hr.len, fun a m => ?_, fun i q xs h1 h2 => ?_⟩
  · rcases List.mem_cons.mp m with e | m
    · rw [e]; exact hp'
    · exact R1.trk a m
  · obtain ⟨vs, q1, q2⟩ := R.hr.cel i q xs h1 h2
    exact ⟨vs, s _ _ (by simp) q1, q2.up s1⟩
end

/-! ### what readings evaluate to -/
section
variable (K : PySem.W.Frag)
def ED (te : TE) (st : Sta) (d : PyData) (cs' : List (List PyData)) : Prop :=
  ∀ hs ps σ H, Rel K hs ps σ H st → ∀ Q : VK, (∀ v H2, Step ps H H2 → Rel K hs ps σ H2 ⟨st.ds, cs'⟩ → Dp K (hid hs H2) v d → Q v H2) → te σ H Q
def EDT (tt : TT) (st : Sta) (b : Bool) (cs' : List (List PyData)) : Prop :=
  ∀ hs ps σ H, Rel K hs ps σ H st → ∀ Q : Bool → Hp → Prop, (∀ H2, Step ps H H2 → Rel K hs ps σ H2 ⟨st.ds, cs'⟩ → Q b H2) → tt σ H Q
def EDA (ta : TA) (st : Sta) (xs : List SV) (cs' : List (List PyData)) : Prop :=
  ∀ hs ps σ H, Rel K hs ps σ H st → ∀ Q : List V → Hp → Prop, (∀ vs H2, Step ps H H2 → Rel K hs ps σ H2 ⟨st.ds, cs'⟩ → Paired (RelS K hs ps H2) vs xs → Q vs H2) → ta σ H Q
/-- a fresh list -/
def EDL (te : TE) (st : Sta) (xs : List PyData) (cs' : List (List PyData)) : Prop :=
  ∀ hs ps σ H, Rel K hs ps σ H st → ∀ Q : VK, (∀ p vs H2, H p = none → Step ps H H2 → Rel K (p :: hs) ps σ H2 ⟨st.ds, cs'⟩ → H2 p = some (.lst vs) → DpAll K (hid (p :: hs) H2) vs xs → Q (.ref p) H2) → te σ H Q
end
section
variable {K : PySem.W.Frag} {st : Sta} {d x y z : PyData} {cs cs' c1 c2 : List (List PyData)} {ta tb te : TE} {tt tu : TT}
theorem hid_cons_sub {p : Addr} {hs : List Addr} {H : Hp} : Sub (hid (p :: hs) H) (hid hs H) := fun a o e => by
  obtain ⟨n, q⟩ := hid_some e
  rw [hid_out fun m => n (List.mem_cons_of_mem _ m)]; exact q
theorem EDL.ed {xs : List PyData} (h : EDL K te st xs cs') : ED K te st (.list xs) cs' := fun hs ps σ H R Q q => h hs ps σ H R Q fun p vs H2 hp s R2 e a => by
  have hph : p ∉ hs := fun m => R.hr.trk p m hp
  refine q _ H2 s (R2.less (fun a m => List.mem_cons_of_mem _ m) R.hr.sub) ?_
  exact .lst (.inl (.inl (by rw [hid_out hph]; exact e))) (a.up hid_cons_sub)
theorem ed_var {i : Nat} (h : st.ds[i]? = some (some (.dat d))) : ED K (tVar i) st d st.cs := fun hs ps σ H R Q q => by
  obtain ⟨v, h1, h2⟩ := R.slot i _ h
  exact ⟨v, h1, q v H (Step.refl H) R h2⟩
theorem ed_c {v : V} (h : ∀ H, Dp K H v d) : ED K (tC v) st d st.cs := fun hs ps σ H R Q q => q v H (Step.refl H) R (h _)
/-- a two-place operation on data; it may make new things -/
def RD (K : PySem.W.Frag) (r : R2) (x y z : PyData) : Prop := ∀ (hs : List Addr) (H : Hp) (v w : V), (∀ a ∈ hs, H a ≠ none) → Dp K (hid hs H) v x → Dp K (hid hs H) w y →
  ∀ Q : VK, (∀ u H', Step [] H H' → Dp K (hid hs H') u z → Q u H') → r v w H Q
theorem ed_op {r : R2} (ha : ED K ta st x c1) (hb : ED K tb ⟨st.ds, c1⟩ y c2) (hr : RD K r x y z) : ED K (tOp r ta tb) st z c2 := fun hs ps σ H R Q q =>
  ha hs ps σ H R _ fun v H1 s1 R1 d1 => hb hs ps σ H1 R1 _ fun w H2 s2 R2 d2 => hr hs H2 v w R2.hr.trk (d1.up (s2.hd0 R.hr.sub)) d2 Q fun u H3 s3 d3 =>
    q u H3 ((s1.trans s2).trans (s3.mono (by simp))) (R2.step s3) d3
def RU (K : PySem.W.Frag) (r : V → Hp → VK → Prop) (x z : PyData) : Prop := ∀ (hs : List Addr) (H : Hp) (v : V), (∀ a ∈ hs, H a ≠ none) → Dp K (hid hs H) v x →
  ∀ Q : VK, (∀ u H', Step [] H H' → Dp K (hid hs H') u z → Q u H') → r v H Q
theorem ed_un {r : V → Hp → VK → Prop} (ha : ED K ta st x c1) (hr : RU K r x z) : ED K (tUn r ta) st z c1 := fun hs ps σ H R Q q =>
  ha hs ps σ H R _ fun v H1 s1 R1 d1 => hr hs H1 v R1.hr.trk d1 Q fun u H3 s3 d3 => q u H3 (s1.trans (s3.mono (by simp))) (R1.step s3) d3
theorem eda_nil : EDA K tNil st [] st.cs := fun hs ps σ H R Q q => q [] H (Step.refl H) R .nil
theorem Paired.up {hs ps : List Addr} {H H' : Hp} (s : Sub (hid hs H) (hid hs H')) : ∀ {vs : List V} {xs : List SV}, Paired (RelS K hs ps H) vs xs → Paired (RelS K hs ps H') vs xs
  | _, _, .nil => .nil
  | _, _, .cons a t => .cons (a.up s) (Paired.up s t)
theorem eda_cons {tr : TA} {xs : List SV} (ha : ED K ta st x c1) (hr : EDA K tr ⟨st.ds, c1⟩ xs c2) : EDA K (tCons ta tr) st (.dat x :: xs) c2 := fun hs ps σ H R Q q =>
  ha hs ps σ H R _ fun v H1 s1 R1 d1 => hr hs ps σ H1 R1 _ fun vs H2 s2 R2 a2 => q (v :: vs) H2 (s1.trans s2) R2 (.cons (d1.up (s2.hd0 R.hr.sub)) a2)
theorem eda_cel {tr : TA} {xs : List SV} {i k : Nat} (h : st.ds[i]? = some (some (.cel k))) (hr : EDA K tr st xs c2) : EDA K (tCons (tVar i) tr) st (.cel k :: xs) c2 := fun hs ps σ H R Q q => by
  obtain ⟨v, h1, h2⟩ := R.slot i _ h
  exact ⟨v, h1, hr hs ps σ H R _ fun vs H2 s2 R2 a2 => q (v :: vs) H2 s2 R2 (.cons h2 a2)⟩
end
end DL


set_option Elab.async false
set_option linter.all false
set_option maxRecDepth 100000
set_option maxHeartbeats 4000000
namespace DL
open PySem PySem.Spec L2
open PyProof.Rows hiding St

/-! ### the readings that say the least -/
def wE (X : Cx) (e : Expr) : TE := fun σ H Q => ∀ pins s, Inv X pins σ H s → wpAny (model X.prog X.w) X.A (eval e X.env) (EP X pins σ Q) X.xe s
def wT (X : Cx) (e : Expr) : TT := fun σ H Q => ∀ pins s, Inv X pins σ H s → wpAny (model X.prog X.w) X.A (isTrue e X.env (eval e X.env)) (TP X pins σ Q) X.xe s
def wW (X : Cx) (e : Expr) : TT := fun σ H Q => ∀ whole pins s, Inv X pins σ H s → wpAny (model X.prog X.w) X.A (isTrue e X.env whole) (TP X pins σ Q) X.xe s
def wA (X : Cx) (es : List Expr) : TA := fun σ H Q => ∀ pos pins s, Inv X pins σ H s → wpAny (model X.prog X.w) X.A (spliced (backTo pos (starEach es X.env))) (AP X pins σ Q) X.xe s
def wS (X : Cx) (st : Stmt) : TS := fun D σ H => ∀ pins s, Inv X pins σ H s → wpAny (model X.prog X.w) X.A (exec st X.env) (SP X pins D) X.xe s
def wSs (X : Cx) (st : List Stmt) : TS := fun D σ H => ∀ pins s, Inv X pins σ H s → wpAny (model X.prog X.w) X.A (execs st X.env) (SP X pins D) X.xe s
def wI (X : Cx) (tg iter : Expr) : TI := fun σ H R => ∀ pins s, Inv X pins σ H s → wpAny (model X.prog X.w) X.A (eval iter X.env) (fun v s1 => wpAny (model X.prog X.w) X.A (pyIter v) (PIE X pins σ tg R) X.xe s1) X.xe s
section
variable {X : Cx}
theorem pwE (e : Expr) : PE X e (wE X e) := ⟨fun pins s _ _ _ I h => h pins s I⟩
theorem pwT (e : Expr) : PT X e (wT X e) := ⟨fun pins s _ _ _ I h => h pins s I⟩
theorem pwW (e : Expr) : PW X e (wW X e) := ⟨fun w pins s _ _ _ I h => h w pins s I⟩
theorem pwA (es : List Expr) : PA X es (wA X es) := ⟨fun pos pins s _ _ _ I h => h pos pins s I⟩
theorem pwS (st : Stmt) : PS X st (wS X st) := ⟨fun pins s _ _ _ I h => h pins s I⟩
theorem pwSs (st : List Stmt) : PSs X st (wSs X st) := ⟨fun pins s _ _ _ I h => h pins s I⟩
theorem pwI (tg iter : Expr) : PI X tg iter (wI X tg iter) := ⟨fun pins s _ _ _ I h => h pins s I⟩
end

/-! ### what a piece of syntax computes on data -/
abbrev Cs := List (List PyData)
abbrev FE := Sta → Option (PyData × Cs)
abbrev FT := Sta → Option (Bool × Cs)
abbrev FA := Sta → Option (List SV × Cs)
abbrev FL := Sta → Option (List PyData × Cs)
structure RE (X : Cx) (e : Expr) (f : FE) : Prop where
  h : ∀ st d c, f st = some (d, c) → ED X.K (wE X e) st d c
instance (X : Cx) (e : Expr) (f : FE) : CoeFun (RE X e f) (fun _ => ∀ st d c, f st = some (d, c) → ED X.K (wE X e) st d c) := ⟨fun r => r.h⟩
structure RT (X : Cx) (e : Expr) (f : FT) : Prop where
  h : ∀ st d c, f st = some (d, c) → EDT X.K (wT X e) st d c
instance (X : Cx) (e : Expr) (f : FT) : CoeFun (RT X e f) (fun _ => ∀ st d c, f st = some (d, c) → EDT X.K (wT X e) st d c) := ⟨fun r => r.h⟩
structure RW (X : Cx) (e : Expr) (f : FT) : Prop where
  h : ∀ st d c, f st = some (d, c) → EDT X.K (wW X e) st d c
instance (X : Cx) (e : Expr) (f : FT) : CoeFun (RW X e f) (fun _ => ∀ st d c, f st = some (d, c) → EDT X.K (wW X e) st d c) := ⟨fun r => r.h⟩
structure RA (X : Cx) (es : List Expr) (f : FA) : Prop where
  h : ∀ st d c, f st = some (d, c) → EDA X.K (wA X es) st d c
instance (X : Cx) (es : List Expr) (f : FA) : CoeFun (RA X es f) (fun _ => ∀ st d c, f st = some (d, c) → EDA X.K (wA X es) st d c) := ⟨fun r => r.h⟩
structure RL (X : Cx) (e : Expr) (f : FL) : Prop where
  h : ∀ st d c, f st = some (d, c) → EDL X.K (wE X e) st d c
instance (X : Cx) (e : Expr) (f : FL) : CoeFun (RL X e f) (fun _ => ∀ st d c, f st = some (d, c) → EDL X.K (wE X e) st d c) := ⟨fun r => r.h⟩
section
variable {X : Cx} {e : Expr} {st : Sta} {c : Cs}
theorem RE.of {t : TE} {d : PyData} (p : PE X e t) (k : ED X.K t st d c) : ED X.K (wE X e) st d c := fun hs ps σ H R Q q pins s I => p.run pins s σ H Q I (k hs ps σ H R Q q)
theorem RL.of {t : TE} {d : List PyData} (p : PE X e t) (k : EDL X.K t st d c) : EDL X.K (wE X e) st d c := fun hs ps σ H R Q q pins s I => p.run pins s σ H Q I (k hs ps σ H R Q q)
theorem RT.of {t : TT} {d : Bool} (p : PT X e t) (k : EDT X.K t st d c) : EDT X.K (wT X e) st d c := fun hs ps σ H R Q q pins s I => p.run pins s σ H Q I (k hs ps σ H R Q q)
theorem RW.of {t : TT} {d : Bool} (p : PW X e t) (k : EDT X.K t st d c) : EDT X.K (wW X e) st d c := fun hs ps σ H R Q q w pins s I => p.run w pins s σ H Q I (k hs ps σ H R Q q)
theorem RA.of {es : List Expr} {t : TA} {d : List SV} (p : PA X es t) (k : EDA X.K t st d c) : EDA X.K (wA X es) st d c := fun hs ps σ H R Q q pos pins s I => p.run pos pins s σ H Q I (k hs ps σ H R Q q)
end

/-! ### expressions -/
def fVar (i : Nat) : FE := fun st => match st.ds[i]? with
  | some (some (.dat d)) => some (d, st.cs)
  | _ => none
def fLit (d : PyData) : FE := fun st => some (d, st.cs)
def fOp (g : PyData → PyData → Option PyData) (a b : FE) : FE := fun st => (a st).bind fun p => (b ⟨st.ds, p.2⟩).bind fun q => (g p.1 q.1).map fun z => (z, q.2)
def fUn (g : PyData → Option PyData) (a : FE) : FE := fun st => (a st).bind fun p => (g p.1).map fun z => (z, p.2)
def fTup (a : FA) : FE := fun st => (a st).bind fun p => if p.1.length ≤ 100000 then (datsOf p.1).map fun ds => (.tuple ds, p.2) else none
where datsOf : List SV → Option (List PyData)
  | [] => some []
  | .dat d :: r => (datsOf r).map (d :: ·)
  | .cel _ :: _ => none
  | .fn _ :: _ => none
abbrev datsOf := fTup.datsOf
def fLst (a : FA) : FL := fun st => (a st).bind fun p => if p.1.length ≤ 100000 then (datsOf p.1).map fun ds => (ds, p.2) else none
def fNilA : FA := fun st => some ([], st.cs)
def fConsA (a : FE) (r : FA) : FA := fun st => (a st).bind fun p => (r ⟨st.ds, p.2⟩).map fun q => (.dat p.1 :: q.1, q.2)
def fCelA (i : Nat) (r : FA) : FA := fun st => match st.ds[i]? with
  | some (some (.cel k)) => (r st).map fun q => (.cel k :: q.1, q.2)
  | _ => none
def fOfL (a : FL) : FE := fun st => (a st).map fun p => (.list p.1, p.2)
theorem bind_some {α β : Type} {o : Option α} {f : α → Option β} {z : β} (h : o.bind f = some z) : ∃ x, o = some x ∧ f x = some z := Option.bind_eq_some_iff.mp h
theorem map_some {α β : Type} {o : Option α} {f : α → β} {z : β} (h : o.map f = some z) : ∃ x, o = some x ∧ f x = z := Option.map_eq_some_iff.mp h
theorem datsOf_dat : ∀ {xs : List SV} {ds : List PyData}, datsOf xs = some ds → xs = ds.map SV.dat
  | [], ds, h => by
    have h' := Option.some.inj h
    subst h'; rfl
  | .dat d :: r, ds, h => by
    obtain ⟨l, h1, rfl⟩ := map_some (show (datsOf r).map (d :: ·) = some ds from h)
    rw [datsOf_dat h1]; rfl
  | .cel _ :: _, _, h => by cases h
  | .fn _ :: _, _, h => by cases h
theorem paired_dat {K : PySem.W.Frag} {hs ps : List Addr} {H : Hp} : ∀ {ds : List PyData} {vs : List V}, Paired (RelS K hs ps H) vs (ds.map SV.dat) → DpAll K (hid hs H) vs ds
  | [], _, h => by cases h; exact .nil
  | _ :: _, _, h => by
    cases h with
    | cons a t => exact .cons a (paired_dat t)
/-! an argument that is no star -/
section
variable {env : PySem.Env} {es : List Expr}
theorem sn_name {x : Str} {p : Pos} : starEach (.Name x p :: es) env = (false, eval (.Name x p) env) :: starEach es env := rfl
theorem sn_const {c : Const} {j} {p : Pos} : starEach (.Constant c j p :: es) env = (false, eval (.Constant c j p) env) :: starEach es env := rfl
theorem sn_tup {l : List Expr} {j} {p : Pos} : starEach (.Tuple l j p :: es) env = (false, eval (.Tuple l j p) env) :: starEach es env := rfl
theorem sn_list {l : List Expr} {p : Pos} : starEach (.List l p :: es) env = (false, eval (.List l p) env) :: starEach es env := rfl
theorem sn_bin {a b : Expr} {o : Operator} {p : Pos} : starEach (.BinOp a o b p :: es) env = (false, eval (.BinOp a o b p) env) :: starEach es env := rfl
theorem sn_un {a : Expr} {o : UnaryOp} {p : Pos} : starEach (.UnaryOp o a p :: es) env = (false, eval (.UnaryOp o a p) env) :: starEach es env := rfl
theorem sn_bool {l : List Expr} {o : BoolOp} {p : Pos} : starEach (.BoolOp o l p :: es) env = (false, eval (.BoolOp o l p) env) :: starEach es env := rfl
theorem sn_cmp {a : Expr} {o : List CmpOp} {l : List Expr} {p : Pos} : starEach (.Compare a o l p :: es) env = (false, eval (.Compare a o l p) env) :: starEach es env := rfl
theorem sn_call {f : Expr} {l : List Expr} {k : List Keyword} {p : Pos} : starEach (.Call f l k p :: es) env = (false, eval (.Call f l k p) env) :: starEach es env := rfl
theorem sn_sub {a b : Expr} {p : Pos} : starEach (.Subscript a b p :: es) env = (false, eval (.Subscript a b p) env) :: starEach es env := rfl
theorem sn_if {a b c : Expr} {p : Pos} : starEach (.IfExp a b c p :: es) env = (false, eval (.IfExp a b c p) env) :: starEach es env := rfl
theorem sn_attr {a : Expr} {x : Str} {p : Pos} : starEach (.Attribute a x p :: es) env = (false, eval (.Attribute a x p) env) :: starEach es env := rfl
theorem sn_lc {a : Expr} {l : List Comprehension} {sc : Scope} {p : Pos} : starEach (.ListComp a l sc p :: es) env = (false, eval (.ListComp a l sc p) env) :: starEach es env := rfl
end
section
variable {X : Cx} {a b e : Expr} {es : List Expr} {pos : Pos} {fa fb : FE} {f : FA}
theorem re_var {i : Nat} {x : Str} (hN : X.N[i]? = some x) (hv : Vis X.env.scope x) (hd : (x == ("__debug__" : Str)) = false := by decide) (hcd : (x == ("__classdict__" : Str)) = false := by decide) : RE X (.Name x pos) (fVar i) := .mk fun st d c h => by
  unfold fVar at h
  split at h
  · rename_i d' e'
    cases h
    exact RE.of (pe_var hN hv hd hcd) (ed_var e')
  · cases h
theorem re_int {i : Int} {j} : RE X (.Constant (.int i) j pos) (fLit (.int i)) := .mk fun st d c h => by
  cases h; exact RE.of pe_int (ed_c fun _ => .int i)
theorem re_bl {i : Bool} {j} : RE X (.Constant (.bool i) j pos) (fLit (.bool i)) := .mk fun st d c h => by
  cases h; exact RE.of pe_bl (ed_c fun _ => .bl i)
theorem re_non {j} : RE X (.Constant .none j pos) (fLit .none) := .mk fun st d c h => by
  cases h; exact RE.of pe_non (ed_c fun _ => .non)
/-- a module's constant that stands in the written part -/
theorem re_glob {x : Str} {v : V} {u : Value} {d : PyData} (hg : Gl X x) (hm : X.mg x = some u) (r : RelV v u) (hd : ∀ H, Dp X.K H v d) (hdb : (x == ("__debug__" : Str)) = false := by decide) : RE X (.Name x pos) (fLit d) := .mk fun st d c h => by
  cases h; exact RE.of (pe_glob hg hm r hdb) (ed_c hd)
theorem re_op {op : Operator} {r : R2} {g : PyData → PyData → Option PyData} (ho : OpR X (binaryOp op) r) (hr : ∀ x y z, g x y = some z → RD X.K r x y z) (ha : RE X a fa) (hb : RE X b fb) : RE X (.BinOp a op b pos) (fOp g fa fb) := .mk fun st d c h => by
  obtain ⟨⟨x, c1⟩, h1, h⟩ := bind_some h
  obtain ⟨⟨y, c2⟩, h2, h⟩ := bind_some h
  obtain ⟨z, h3, e⟩ := map_some h
  cases e
  exact RE.of (pe_op ho (pwE a) (pwE b)) (ed_op (ha _ _ _ h1) (hb _ _ _ h2) (hr _ _ _ h3))
theorem re_cmp {op : CmpOp} {r : R2} {g : PyData → PyData → Option PyData} (ho : OpR X (compareOp op) r) (hr : ∀ x y z, g x y = some z → RD X.K r x y z) (ha : RE X a fa) (hb : RE X b fb) (hm : behindInMarks op b = false) : RE X (.Compare a [op] [b] pos) (fOp g fa fb) := .mk fun st d c h => by
  obtain ⟨⟨x, c1⟩, h1, h⟩ := bind_some h
  obtain ⟨⟨y, c2⟩, h2, h⟩ := bind_some h
  obtain ⟨z, h3, e⟩ := map_some h
  cases e
  exact RE.of (pe_cmpR ho (pwE a) (pwE b) hm) (ed_op (ha _ _ _ h1) (hb _ _ _ h2) (hr _ _ _ h3))
theorem re_un {op : UnaryOp} {r : V → Hp → VK → Prop} {g : PyData → Option PyData} (ho : UnR X (unaryOp op) r) (hr : ∀ x z, g x = some z → RU X.K r x z) (ha : RE X a fa) : RE X (.UnaryOp op a pos) (fUn g fa) := .mk fun st d c h => by
  obtain ⟨⟨x, c1⟩, h1, h⟩ := bind_some h
  obtain ⟨z, h3, e⟩ := map_some h
  cases e
  exact RE.of (pe_un ho (pwE a)) (ed_un (ha _ _ _ h1) (hr _ _ h3))
theorem ra_nil : RA X [] fNilA := .mk fun st d c h => by
  cases h; exact RA.of pa_nil eda_nil
theorem ra_cons (ha : RE X e fa) (hr : RA X es f) (hs : starEach (e :: es) X.env = (false, eval e X.env) :: starEach es X.env := by with_reducible first | exact sn_name | exact sn_const | exact sn_tup | exact sn_list | exact sn_bin | exact sn_un | exact sn_bool | exact sn_cmp | exact sn_call | exact sn_sub | exact sn_if | exact sn_attr | exact sn_lc) : RA X (e :: es) (fConsA fa f) := .mk fun st d c h => by
  obtain ⟨⟨x, c1⟩, h1, h⟩ := bind_some h
  obtain ⟨⟨xs, c2⟩, h2, e⟩ := map_some h
  cases e
  exact RA.of (pa_cons (pwE e) (pwA es) hs) (eda_cons (ha _ _ _ h1) (hr _ _ _ h2))
theorem ra_cel {i : Nat} {x : Str} (hN : X.N[i]? = some x) (hv : Vis X.env.scope x) (hr : RA X es f) (hd : (x == ("__debug__" : Str)) = false := by decide) (hcd : (x == ("__classdict__" : Str)) = false := by decide)
    (hs : starEach (.Name x pos :: es) X.env = (false, eval (.Name x pos) X.env) :: starEach es X.env := by rfl) : RA X (.Name x pos :: es) (fCelA i f) := .mk fun st d c h => by
  unfold fCelA at h
  split at h
  · rename_i k e'
    obtain ⟨⟨xs, c2⟩, h2, e⟩ := map_some h
    cases e
    exact RA.of (pa_cons (pe_var hN hv hd hcd) (pwA es) hs) (eda_cel e' (hr _ _ _ h2))
  · cases h
theorem re_tup {x1} (ha : RA X es f) : RE X (.Tuple es x1 pos) (fTup f) := .mk fun st d c h => by
  obtain ⟨⟨xs, c1⟩, h1, h⟩ := bind_some h
  simp only at h
  split at h
  · rename_i hl
    obtain ⟨ds, h2, e⟩ := map_some h
    cases e
    refine RE.of (pe_tup (pwA es)) fun hs ps σ H R Q q => ha _ _ _ h1 hs ps σ H R _ fun vs H2 s2 R2 p2 => ?_
    rw [datsOf_dat h2] at p2 hl
    have dd := paired_dat p2
    refine ⟨Nat.le_trans (by rw [dd.len]; simpa using hl) (by decide : 100000 ≤ sizeLine), fun p hp => ?_⟩
    have s3 : Step [] H2 (upd H2 p (.tup vs)) := Step.new hp
    have hph : p ∉ hs := fun m => R2.hr.trk p m hp
    exact q _ _ (s2.trans (s3.mono (by simp))) (R2.step s3) (.tup (.inl (.inl (by rw [hid_out hph]; exact upd_same))) (dd.up (s3.hd0 (by simp))))
  · cases h
theorem rl_lst (ha : RA X es f) : RL X (.List es pos) (fLst f) := .mk fun st d c h => by
  obtain ⟨⟨xs, c1⟩, h1, h⟩ := bind_some h
  simp only at h
  split at h
  · rename_i hl
    obtain ⟨ds, h2, e⟩ := map_some h
    cases e
    refine RL.of (pe_lst (pwA es)) fun hs ps σ H R Q q => ha _ _ _ h1 hs ps σ H R _ fun vs H2 s2 R2 p2 => ?_
    rw [datsOf_dat h2] at p2 hl
    have dd := paired_dat p2
    refine ⟨Nat.le_trans (by rw [dd.len]; simpa using hl) (by decide : 100000 ≤ sizeLine), fun p hp => ?_⟩
    have s3 : Step [] H2 (upd H2 p (.lst vs)) := Step.new hp
    have hp0 : H p = none := by
      cases hq : H p with
      | none => rfl
      | some o =>
        by_cases m : p ∈ ps
        · exact absurd hp (R2.hr.trk p (R2.hr.sub p m))
        · rw [s2 p o m hq] at hp; cases hp
    have e3 : ∀ a ∈ p :: hs, a ∉ hs → H2 a = none := fun a m n => by
      rcases List.mem_cons.mp m with e | m
      · rw [e]; exact hp
      · exact absurd m n
    exact q p vs _ hp0 (s2.trans (s3.mono (by simp))) (R2.more s3 hp (by rw [upd_same]; simp)) upd_same (dd.up ((s3.mono (qs := []) (by simp)).hd (by simp) e3))
  · cases h
theorem re_ofL {g : FL} (h : RL X e g) : RE X e (fOfL g) := .mk fun st d c hq => by
  obtain ⟨⟨xs, c1⟩, h1, e⟩ := map_some hq
  cases e
  exact (h _ _ _ h1).ed
end

/-! ### tests, and, or, not, if -/
def fTru (a : FE) : FT := fun st => (a st).bind fun p => match p.1 with
  | .bool b => some (b, p.2)
  | _ => none
def fAndT (a b : FT) : FT := fun st => (a st).bind fun p => if p.1 = true then b ⟨st.ds, p.2⟩ else some (false, p.2)
def fOrT (a b : FT) : FT := fun st => (a st).bind fun p => if p.1 = true then some (true, p.2) else b ⟨st.ds, p.2⟩
def fNotT (a : FT) : FT := fun st => (a st).map fun p => (!p.1, p.2)
def fAndV (a b : FE) : FE := fun st => (a st).bind fun p => match p.1 with
  | .bool c => if c = true then b ⟨st.ds, p.2⟩ else some (.bool false, p.2)
  | _ => none
def fOrV (a b : FE) : FE := fun st => (a st).bind fun p => match p.1 with
  | .bool c => if c = true then some (.bool true, p.2) else b ⟨st.ds, p.2⟩
  | _ => none
def fNotV (a : FE) : FE := fun st => (a st).bind fun p => match p.1 with
  | .bool c => some (.bool (!c), p.2)
  | _ => none
def fIf (t : FT) (a b : FE) : FE := fun st => (t st).bind fun p => if p.1 = true then a ⟨st.ds, p.2⟩ else b ⟨st.ds, p.2⟩
section
variable {X : Cx} {a b e : Expr} {rest : List Expr} {pos : Pos} {fa fb : FE} {f g : FT}
theorem dp_bool {K : PySem.W.Frag} {H : Hp} {v : V} {b : Bool} (h : Dp K H v (.bool b)) : v = .bl b := by cases h; rfl
theorem dp_int {K : PySem.W.Frag} {H : Hp} {v : V} {b : Int} (h : Dp K H v (.int b)) : v = .int b := by cases h; rfl
theorem rt_val (ha : RE X a fa) (he : ∀ whole, isTrue a X.env whole = (do let v ← whole; standAt a.pos; holding [v] (truthy v)) := by intro _; rfl) : RT X a (fTru fa) := .mk fun st d c h => by
  obtain ⟨⟨x, c1⟩, h1, h⟩ := bind_some h
  simp only at h
  split at h
  · cases h
    exact RT.of (pt_val (pwE a) he) fun hs ps σ H R Q q => ha _ _ _ h1 hs ps σ H R _ fun v H2 s2 R2 d2 => ⟨_, dp_bool d2, q H2 s2 R2⟩
  · cases h
theorem rt_w (h : RW X a f) : RT X a f := .mk fun st d c hq => RT.of (PW.pt (pwW a)) (h _ _ _ hq)
theorem rw_and1 (h : RT X a f) : RW X (.BoolOp .And [a] pos) f := .mk fun st d c hq => RW.of (pw_and1 (pwT a)) (h _ _ _ hq)
theorem rw_or1 (h : RT X a f) : RW X (.BoolOp .Or [a] pos) f := .mk fun st d c hq => RW.of (pw_or1 (pwT a)) (h _ _ _ hq)
theorem rw_and (ha : RT X a f) (hb : RW X (.BoolOp .And (b :: rest) pos) g) : RW X (.BoolOp .And (a :: b :: rest) pos) (fAndT f g) := .mk fun st d c h => by
  obtain ⟨⟨x, c1⟩, h1, h⟩ := bind_some h
  refine RW.of (pw_and (pwT a) (pwW _)) fun hs ps σ H R Q q => ha _ _ _ h1 hs ps σ H R _ fun H2 s2 R2 => ?_
  simp only at h
  cases x with
  | true =>
    rw [if_pos rfl] at h ⊢
    exact hb _ _ _ h hs ps σ H2 R2 _ fun H3 s3 R3 => q H3 (s2.trans s3) R3
  | false =>
    rw [if_neg (by decide)] at h ⊢
    cases h
    exact q H2 s2 R2
theorem rw_or (ha : RT X a f) (hb : RW X (.BoolOp .Or (b :: rest) pos) g) : RW X (.BoolOp .Or (a :: b :: rest) pos) (fOrT f g) := .mk fun st d c h => by
  obtain ⟨⟨x, c1⟩, h1, h⟩ := bind_some h
  refine RW.of (pw_or (pwT a) (pwW _)) fun hs ps σ H R Q q => ha _ _ _ h1 hs ps σ H R _ fun H2 s2 R2 => ?_
  simp only at h
  cases x with
  | true =>
    rw [if_pos rfl] at h ⊢
    cases h
    exact q H2 s2 R2
  | false =>
    rw [if_neg (by decide)] at h ⊢
    exact hb _ _ _ h hs ps σ H2 R2 _ fun H3 s3 R3 => q H3 (s2.trans s3) R3
theorem rt_not (h : RT X a f) : RT X (.UnaryOp .Not a pos) (fNotT f) := .mk fun st d c hq => by
  obtain ⟨⟨x, c1⟩, h1, e⟩ := map_some hq
  cases e
  exact RT.of (pt_not (pwT a)) fun hs ps σ H R Q q => h _ _ _ h1 hs ps σ H R _ fun H2 s2 R2 => q H2 s2 R2
theorem re_one {op} (h : RE X a fa) : RE X (.BoolOp op [a] pos) fa := .mk fun st d c hq => RE.of (pe_one (pwE a)) (h _ _ _ hq)
theorem re_and (ha : RE X a fa) (hb : RE X (.BoolOp .And (b :: rest) pos) fb) : RE X (.BoolOp .And (a :: b :: rest) pos) (fAndV fa fb) := .mk fun st d c h => by
  obtain ⟨⟨x, c1⟩, h1, h⟩ := bind_some h
  simp only at h
  split at h
  · rename_i _ k
    refine RE.of (pe_and (pwE a) (pwE _)) fun hs ps σ H R Q q => ha _ _ _ h1 hs ps σ H R _ fun v H2 s2 R2 d2 => ⟨_, dp_bool d2, ?_⟩
    cases k with
    | true =>
      rw [if_pos rfl] at h ⊢
      exact hb _ _ _ h hs ps σ H2 R2 _ fun w H3 s3 R3 d3 => q w H3 (s2.trans s3) R3 d3
    | false =>
      rw [if_neg (by decide)] at h ⊢
      cases h
      exact q _ H2 s2 R2 (.bl _)
  · cases h
theorem re_or (ha : RE X a fa) (hb : RE X (.BoolOp .Or (b :: rest) pos) fb) : RE X (.BoolOp .Or (a :: b :: rest) pos) (fOrV fa fb) := .mk fun st d c h => by
  obtain ⟨⟨x, c1⟩, h1, h⟩ := bind_some h
  simp only at h
  split at h
  · rename_i _ k
    refine RE.of (pe_or (pwE a) (pwE _)) fun hs ps σ H R Q q => ha _ _ _ h1 hs ps σ H R _ fun v H2 s2 R2 d2 => ⟨_, dp_bool d2, ?_⟩
    cases k with
    | true =>
      rw [if_pos rfl] at h ⊢
      cases h
      exact q _ H2 s2 R2 (.bl _)
    | false =>
      rw [if_neg (by decide)] at h ⊢
      exact hb _ _ _ h hs ps σ H2 R2 _ fun w H3 s3 R3 d3 => q w H3 (s2.trans s3) R3 d3
  · cases h
theorem re_if {cc : Expr} (hc : RT X cc f) (ha : RE X a fa) (hb : RE X b fb) : RE X (.IfExp cc a b pos) (fIf f fa fb) := .mk fun st d c h => by
  obtain ⟨⟨x, c1⟩, h1, h⟩ := bind_some h
  refine RE.of (pe_ifExp (pwT cc) (pwE a) (pwE b)) fun hs ps σ H R Q q => hc _ _ _ h1 hs ps σ H R _ fun H2 s2 R2 => ?_
  simp only at h
  cases x with
  | true =>
    rw [if_pos rfl] at h ⊢
    exact ha _ _ _ h hs ps σ H2 R2 _ fun w H3 s3 R3 d3 => q w H3 (s2.trans s3) R3 d3
  | false =>
    rw [if_neg (by decide)] at h ⊢
    exact hb _ _ _ h hs ps σ H2 R2 _ fun w H3 s3 R3 d3 => q w H3 (s2.trans s3) R3 d3
end
end DL


set_option Elab.async false
set_option linter.all false
set_option maxRecDepth 100000
set_option maxHeartbeats 4000000
namespace DL
open PySem PySem.Spec L2
open PyProof.Rows hiding St

/-! ### operators on data -/
section
variable {X : Cx}
theorem OpR.or {f : Value → Value → Sem Value} {r r' : R2} (h : OpR X f r) (h' : OpR X f r') : OpR X f (fun x y H Q => r x y H Q ∨ r' x y H Q) := by
  intro pins s σ H x y v u Q I rx ry q
  rcases q with q | q
  · exact h pins s σ H x y v u Q I rx ry q
  · exact h' pins s σ H x y v u Q I rx ry q
/-- + of two lists that are read -/
def rCatS (K : PySem.W.Frag) : R2 := fun x y H Q => ∃ l b xs zs, x = .ref l ∧ y = .ref b ∧ SqL K H l xs ∧ SqL K H b zs ∧ xs.length + zs.length ≤ sizeLine ∧ ∀ p, H p = none → Q (.ref p) (upd H p (.lst (xs ++ zs)))
theorem op_catS : OpR X (binaryOp .Add) (rCatS X.K) := by
  intro pins s σ H x y v u Q I rx ry h
  obtain ⟨l, b, xs, zs, rfl, rfl, hH, hB, hz, q⟩ := h
  cases rx
  cases ry
  obtain ⟨its, r, ⟨⟨cls, dd, data, sl⟩, n1, e1, c1, d1, k1⟩, z⟩ := I.list hH
  obtain ⟨its2, r2, ⟨⟨cls2, dd2, data2, sl2⟩, n2, e2, c2, d2, k2⟩, z2⟩ := I.list hB
  simp only at c1 d1 k1 c2 d2 k2
  subst c1 d1 k1 c2 d2 k2
  have h1 := r.length
  have h2 := r2.length
  have ea : its.toArray ++ its2.toArray = (its ++ its2).toArray := by simp
  refine concat_meets ⟨_, e1, rfl⟩ ⟨_, e2, rfl⟩ noFill_list_add seq_list_add PySem.F.slot_list_add PySem.F.entry_list_add (PySem.F.args_list_add_2 _ _) (list_addW l b its.toArray its2.toArray n1 n2 none none sl sl2 (by simp only [List.size_toArray]; omega)) ⟨e1, e2, ?_⟩
  rw [ea]
  exact ⟨.ref _, _, I.lnew (t' := s.toks) (r.append r2) (by rw [List.length_append]; omega), rfl, q _ I.fresh⟩
end
abbrev LIM : Nat := 100000
def mulOk (i j : Int) : Bool := decide (i.natAbs.log2 + j.natAbs.log2 < 1000000)
def divOk (i j : Int) : Bool := decide (j ≠ 0 ∧ j.natAbs.log2 < 9000)
def powOk (i j : Int) : Bool := decide (0 ≤ j ∧ j ≤ 1000000 ∧ i.natAbs < 2 ^ 64)
def gSub : PyData → PyData → Option PyData
  | .int i, .int j => some (.int (i - j))
  | _, _ => none
def gMul : PyData → PyData → Option PyData
  | .int i, .int j => if mulOk i j = true then some (.int (i * j)) else none
  | _, _ => none
def gDiv : PyData → PyData → Option PyData
  | .int i, .int j => if divOk i j = true then some (.int (i.fdiv j)) else none
  | _, _ => none
def gMod : PyData → PyData → Option PyData
  | .int i, .int j => if 0 < j then some (.int (i % j)) else none
  | _, _ => none
def gPow : PyData → PyData → Option PyData
  | .int i, .int j => if powOk i j = true then some (.int (i ^ j.toNat)) else none
  | _, _ => none
def gNeg : PyData → Option PyData
  | .int i => some (.int (-i))
  | _ => none
def gCmp (p : Int → Int → Bool) : PyData → PyData → Option PyData
  | .int i, .int j => some (.bool (p i j))
  | _, _ => none
def gEq (x y : PyData) : Option PyData := if SeqAt.shaped x = true ∧ SeqAt.shaped y = true then some (.bool (PyData.eqv x y)) else none
def gNe (x y : PyData) : Option PyData := if SeqAt.shaped x = true ∧ SeqAt.shaped y = true then some (.bool (!PyData.eqv x y)) else none
def isNone : PyData → Bool
  | .none => true
  | _ => false
def gNotN (x y : PyData) : Option PyData := if isNone y = true then some (.bool (!isNone x)) else none
section
variable {X : Cx} {K : PySem.W.Frag} {a b e : Expr} {pos : Pos} {fa fb : FE} {H : Hp}
theorem rd_int {C : Int → Int → Prop} {f : Int → Int → V} {i j : Int} {z : PyData} (hc : C i j) (hz : ∀ H, Dp K H (f i j) z) : RD K (rI C f) (.int i) (.int j) z := fun hs H v w _ h1 h2 Q q =>
  ⟨i, j, dp_int h1, dp_int h2, hc, q _ H (Step.refl H) (hz _)⟩
theorem rd_int0 {f : Int → Int → V} {i j : Int} {z : PyData} (hz : ∀ H, Dp K H (f i j) z) : RD K (rI0 f) (.int i) (.int j) z := fun hs H v w _ h1 h2 Q q =>
  ⟨i, j, dp_int h1, dp_int h2, q _ H (Step.refl H) (hz _)⟩
theorem dp_list {v : V} {ds : List PyData} (h : Dp K H v (.list ds)) : ∃ p xs, v = .ref p ∧ SqL K H p xs ∧ DpAll K H xs ds := by
  cases h with
  | lst a b => exact ⟨_, _, rfl, a, b⟩
theorem dp_tuple {v : V} {ds : List PyData} (h : Dp K H v (.tuple ds)) : ∃ p xs, v = .ref p ∧ SqT K H p xs ∧ DpAll K H xs ds := by
  cases h with
  | tup a b => exact ⟨_, _, rfl, a, b⟩
theorem dp_non {v : V} (h : Dp K H v .none) : v = .non := by cases h; rfl
theorem lim_ok {n : Nat} (h : n ≤ LIM) : n ≤ sizeLine := Nat.le_trans h (by decide)
theorem re_sub (ha : RE X a fa) (hb : RE X b fb) : RE X (.BinOp a .Sub b pos) (fOp gSub fa fb) := re_op op_sub (fun x y z h => by
  unfold gSub at h
  split at h <;> cases h
  exact rd_int0 fun _ => .int _) ha hb
theorem re_mul (ha : RE X a fa) (hb : RE X b fb) : RE X (.BinOp a .Mult b pos) (fOp gMul fa fb) := re_op op_mulW (fun x y z h => by
  unfold gMul at h
  split at h
  · split at h <;> cases h
    rename_i hm
    exact rd_int (by first | simpa [mulOk, CMulW] using hm | simpa [divOk, CDivW] using hm | simpa [powOk, CPow] using hm) fun _ => .int _
  · cases h) ha hb
def CDivZ (_ j : Int) : Prop := j ≠ 0 ∧ j.natAbs.log2 < 9000
theorem op_fdivZ : OpR X (binaryOp .FloorDiv) (rI CDivZ fun i j => .int (i.fdiv j)) := opI fun _ _ _ _ _ _ _ hc q => floordiv_int hc.1 q (.inl (PyProof.noPylong_of_log2 hc.2))
theorem re_div (ha : RE X a fa) (hb : RE X b fb) : RE X (.BinOp a .FloorDiv b pos) (fOp gDiv fa fb) := re_op op_fdivZ (fun x y z h => by
  unfold gDiv at h
  split at h
  · split at h <;> cases h
    rename_i hm
    exact rd_int (by first | simpa [mulOk, CMulW] using hm | simpa [divOk, CDivZ] using hm | simpa [powOk, CPow] using hm) fun _ => .int _
  · cases h) ha hb
theorem re_mod (ha : RE X a fa) (hb : RE X b fb) : RE X (.BinOp a .Mod b pos) (fOp gMod fa fb) := re_op op_mod (fun x y z h => by
  unfold gMod at h
  split at h
  · split at h <;> cases h
    rename_i hm
    exact rd_int hm fun _ => .int _
  · cases h) ha hb
theorem re_pow (ha : RE X a fa) (hb : RE X b fb) : RE X (.BinOp a .Pow b pos) (fOp gPow fa fb) := re_op op_pow (fun x y z h => by
  unfold gPow at h
  split at h
  · split at h <;> cases h
    rename_i hm
    exact rd_int (by first | simpa [mulOk, CMulW] using hm | simpa [divOk, CDivW] using hm | simpa [powOk, CPow] using hm) fun _ => .int _
  · cases h) ha hb
theorem re_neg (ha : RE X a fa) : RE X (.UnaryOp .USub a pos) (fUn gNeg fa) := re_un un_neg (fun x z h => by
  unfold gNeg at h
  split at h <;> cases h
  exact fun hs H v _ h1 Q q => ⟨_, dp_int h1, q _ H (Step.refl H) (.int _)⟩) ha
theorem rd_cmp {f : Int → Int → Bool} {x y z : PyData} (h : gCmp f x y = some z) : RD K (rI0 fun i j => .bl (f i j)) x y z := by
  unfold gCmp at h
  split at h <;> cases h
  exact rd_int0 fun _ => .bl _
theorem re_gt (ha : RE X a fa) (hb : RE X b fb) : RE X (.Compare a [.Gt] [b] pos) (fOp (gCmp fun i j => decide (j < i)) fa fb) := re_cmp op_gt (fun _ _ _ h => rd_cmp h) ha hb (nomark _)
theorem re_eq (hu : X.A.units + 64 < cLine) (ha : RE X a fa) (hb : RE X b fb) : RE X (.Compare a [.Eq] [b] pos) (fOp gEq fa fb) := re_cmp (op_eqD hu) (fun x y z h => by
  unfold gEq at h
  split at h <;> cases h
  rename_i hs
  exact fun _ H v w _ h1 h2 Q q => ⟨x, y, h1.up hid_sub, h2.up hid_sub, hs.1, hs.2, q _ H (Step.refl H) (.bl _)⟩) ha hb (nomark _)
theorem isNone_dp {v : V} {x : PyData} (h : Dp K H v x) : decide (v = .non) = isNone x := by cases h <;> rfl
theorem isNone_eq {y : PyData} (h : isNone y = true) : y = .none := by cases y <;> first | rfl | cases h
/-! ### subscripts -/
def gIx : PyData → PyData → Option PyData
  | .list xs, .int i => atI xs i
  | .tuple xs, .int i => atI xs i
  | _, _ => none
theorem atI_dp {vs : List V} {ds : List PyData} {i : Int} {d : PyData} (h : DpAll K H vs ds) (e : atI ds i = some d) : ∃ v, atI vs i = some v ∧ Dp K H v d := by
  unfold atI at e ⊢
  rw [h.len]
  obtain ⟨j, e1, e2⟩ := Option.bind_eq_some_iff.mp e
  obtain ⟨v, h1, h2⟩ := h.get e2
  exact ⟨v, by rw [e1]; exact h1, h2⟩
theorem rd_ix {x y z : PyData} (h3 : gIx x y = some z) : RD K (rIx K) x y z := by
  unfold gIx at h3
  split at h3
  · intro hs H v w _ d1 d2 Q q
    obtain ⟨p, vs, rfl, hp, da⟩ := dp_list d1
    cases dp_int d2
    obtain ⟨u, e1, e2⟩ := atI_dp da h3
    exact .inl ⟨p, vs, _, u, rfl, rfl, sqL_mono hid_sub hp, e1, q _ H (Step.refl H) e2⟩
  · intro hs H v w _ d1 d2 Q q
    obtain ⟨p, vs, rfl, hp, da⟩ := dp_tuple d1
    cases dp_int d2
    obtain ⟨u, e1, e2⟩ := atI_dp da h3
    exact .inr (.inl ⟨p, vs, _, u, rfl, rfl, sqT_mono hid_sub hp, e1, q _ H (Step.refl H) e2⟩)
  · cases h3
theorem re_ix (ha : RE X a fa) (hb : RE X b fb) (hs : PlainIx b := by exact fun _ _ => rfl) : RE X (.Subscript a b pos) (fOp gIx fa fb) := .mk fun st d c h => by
  obtain ⟨⟨x, c1⟩, h1, h⟩ := bind_some h
  obtain ⟨⟨y, c2⟩, h2, h⟩ := bind_some h
  obtain ⟨z, h3, e⟩ := map_some h
  cases e
  exact RE.of (pe_ix ix_seq (pwE a) (pwE b) hs) (ed_op (ha _ _ _ h1) (hb _ _ _ h2) (rd_ix h3))
/-- x[k], x a list of one's own -/
def fCix (i : Nat) (b : FE) : FE := fun st => (b st).bind fun q => match st.ds[i]? with
  | some (some (.cel k)) => match q.2[k]?, q.1 with
    | some xs, .int j => (atI xs j).map fun z => (z, q.2)
    | _, _ => none
  | _ => none
theorem re_cix {i : Nat} {x : Str} {p0 : Pos} (hN : X.N[i]? = some x) (hv : Vis X.env.scope x) (hb : RE X b fb) (hd : (x == ("__debug__" : Str)) = false := by decide) (hcd : (x == ("__classdict__" : Str)) = false := by decide)
    (hs : PlainIx b := by exact fun _ _ => rfl) : RE X (.Subscript (.Name x p0) b pos) (fCix i fb) := .mk fun st d c h => by
  obtain ⟨⟨y, c2⟩, h2, h⟩ := bind_some h
  simp only at h
  split at h
  · rename_i k e0
    split at h
    · rename_i xs j e1
      obtain ⟨z, e2, e3⟩ := map_some h
      cases e3
      refine RE.of (pe_ix ix_seq (pe_var hN hv hd hcd) (pwE b) hs) fun hs ps σ H R Q q => ?_
      obtain ⟨v, h1, p, hp, rfl⟩ := R.slot i _ e0
      refine ⟨_, h1, hb _ _ _ h2 hs ps σ H R _ fun w H2 s2 R2 d2 => ?_⟩
      cases dp_int d2
      obtain ⟨vs, q1, q2⟩ := R2.hr.cel k p xs hp e1
      obtain ⟨u, e4, e5⟩ := atI_dp q2 e2
      exact .inl ⟨p, vs, _, u, rfl, rfl, .inl (.inl q1), e4, q u H2 s2 R2 e5⟩
    · cases h
  · cases h
/-! slices -/
def fPart (a : FE) : Sta → Option (Option Int × Cs) := fun st => (a st).bind fun p => match p.1 with
  | .int i => some (some i, p.2)
  | _ => none
def fNoPart : Sta → Option (Option Int × Cs) := fun st => some (none, st.cs)
def EDO (K : PySem.W.Frag) (to : TO) (st : Sta) (o : Option Int) (cs' : Cs) : Prop :=
  ∀ hs ps σ H, Rel K hs ps σ H st → ∀ Q : Option Int → Hp → Prop, (∀ H2, Step ps H H2 → Rel K hs ps σ H2 ⟨st.ds, cs'⟩ → Q o H2) → to σ H Q
structure RO (X : Cx) (e : Option Expr) (f : Sta → Option (Option Int × Cs)) : Prop where
  h : ∃ to, PO X e to ∧ ∀ st o c, f st = some (o, c) → EDO X.K to st o c
theorem ro_none : RO X none fNoPart := ⟨_, po_none, fun st o c h => by
  cases h
  exact fun hs ps σ H R Q q => q H (Step.refl H) R⟩
theorem ro_some (ha : RE X a fa) : RO X (some a) (fPart fa) := ⟨_, po_some (pwE a), fun st o c h => by
  obtain ⟨⟨x, c1⟩, h1, h⟩ := bind_some h
  simp only at h
  split at h
  · cases h
    exact fun hs ps σ H R Q q => ha _ _ _ h1 hs ps σ H R _ fun v H2 s2 R2 d2 => ⟨_, dp_int d2, q H2 s2 R2⟩
  · cases h⟩
def cutD (xs : List PyData) (lo hi : Option Int) : List PyData := (xs.drop (HT.sIx xs.length 0 lo)).take (HT.sIx xs.length xs.length hi - HT.sIx xs.length 0 lo)
def fSlL (a : FE) (l u : Sta → Option (Option Int × Cs)) : FL := fun st => (a st).bind fun p => (l ⟨st.ds, p.2⟩).bind fun q => (u ⟨st.ds, q.2⟩).bind fun r => match p.1 with
  | .list xs => some (cutD xs q.1 r.1, r.2)
  | _ => none
theorem fresh_back {H H' : Hp} {p : Addr} {hs ps : List Addr} {cs : Cs} (s : Step ps H H') (R : HR K hs ps H' cs) (h : H' p = none) : H p = none := by
  cases hq : H p with
  | none => rfl
  | some o =>
    by_cases m : p ∈ ps
    · exact absurd h (R.trk p (R.sub p m))
    · rw [s p o m hq] at h; cases h
theorem fresh_hid {H : Hp} {p : Addr} {hs : List Addr} (hp : H p = none) : ∀ a ∈ p :: hs, a ∉ hs → H a = none := fun a m n => by
  rcases List.mem_cons.mp m with e | m
  · rw [e]; exact hp
  · exact absurd m n
/-- a list is laid -/
theorem lay_list {hs ps : List Addr} {σ : St} {H H2 : Hp} {st : Sta} {p : Addr} {vs : List V} {ds : List PyData} (s2 : Step ps H H2) (R2 : Rel K hs ps σ H2 st) (hp : H2 p = none) (dd : DpAll K (hid hs H2) vs ds) :
    H p = none ∧ Step ps H (upd H2 p (.lst vs)) ∧ Rel K (p :: hs) ps σ (upd H2 p (.lst vs)) st ∧ (upd H2 p (.lst vs)) p = some (.lst vs) ∧ DpAll K (hid (p :: hs) (upd H2 p (.lst vs))) vs ds := by
  have s3 : Step [] H2 (upd H2 p (.lst vs)) := Step.new hp
  exact ⟨fresh_back s2 R2.hr hp, s2.trans (s3.mono (by simp)), R2.more s3 hp (by rw [upd_same]; simp), upd_same, dd.up ((s3.mono (qs := []) (by simp)).hd (by simp) (fresh_hid hp))⟩
end
end DL


set_option Elab.async false
set_option linter.all false
set_option maxRecDepth 100000
set_option maxHeartbeats 4000000
namespace DL
open PySem PySem.Spec L2
open PyProof.Rows hiding St

/-! ### built-ins -/
def RCD (K : PySem.W.Frag) (r : List V → Hp → VK → Prop) (xs : List PyData) (z : PyData) : Prop := ∀ (hs : List Addr) (H : Hp) (vs : List V), (∀ a ∈ hs, H a ≠ none) → DpAll K (hid hs H) vs xs →
  ∀ Q : VK, (∀ u H', Step [] H H' → Dp K (hid hs H') u z → Q u H') → r vs H Q
def fBi (g : List PyData → Option PyData) (a : FA) : FE := fun st => (a st).bind fun p => (datsOf p.1).bind fun ds => (g ds).map fun z => (z, p.2)
section
variable {X : Cx} {K : PySem.W.Frag} {a b e : Expr} {es : List Expr} {p pos : Pos} {fa : FA} {fe : FE} {r : List V → Hp → VK → Prop} {g : List PyData → Option PyData} {x : Str} {nm T : String}
theorem ed_bi {st : Sta} {z : PyData} {c : Cs} {ta : TA} (h : fBi g fa st = some (z, c)) (hr : ∀ xs z, g xs = some z → RCD K r xs z) (ha : ∀ st d c, fa st = some (d, c) → EDA K ta st d c) : ED K (tCB r ta) st z c := by
  obtain ⟨⟨xs, c1⟩, h1, h⟩ := bind_some h
  obtain ⟨ds, h2, h⟩ := bind_some h
  obtain ⟨y, h3, e⟩ := map_some h
  cases e
  refine fun hs ps σ H R Q q => ha _ _ _ h1 hs ps σ H R _ fun vs H2 s2 R2 p2 => ?_
  rw [datsOf_dat (show datsOf xs = some ds from h2)] at p2
  exact hr _ _ h3 hs H2 vs R2.hr.trk (paired_dat p2) Q fun u H3 s3 d3 => q u H3 (s2.trans (s3.mono (by simp))) (R2.step s3) d3
theorem re_bi (hc : CallR X (.builtin nm) r) (hr : ∀ xs z, g xs = some z → RCD X.K r xs z) (hg : Gl X x) (hm : X.mg x = none) (hv : bootBuiltins x = some (.builtin nm)) (ha : RA X (e :: es) fa) (hn : x ≠ "__name__" := by decide) (hdb : (x == ("__debug__" : Str)) = false := by decide)
    (he : starEach (e :: es) X.env = (false, eval e X.env) :: starEach es X.env := by with_reducible first | exact sn_name | exact sn_const | exact sn_tup | exact sn_list | exact sn_bin | exact sn_un | exact sn_bool | exact sn_cmp | exact sn_call | exact sn_sub | exact sn_if | exact sn_attr | exact sn_lc) (hpl : (backTo pos (starEach es X.env)).any (·.1) = false := by rfl) : RE X (.Call (.Name x p) (e :: es) [] pos) (fBi g fa) := .mk fun st d c h =>
  RE.of (pe_callB hc hg hm hv (pwA (e :: es)) hn hdb he hpl) (ed_bi h hr ha)
theorem re_biT (hc : CallR X (.type T) r) (hr : ∀ xs z, g xs = some z → RCD X.K r xs z) (hg : Gl X x) (hm : X.mg x = none) (hv : bootBuiltins x = some (.type T)) (ha : RA X (e :: es) fa) (hn : x ≠ "__name__" := by decide) (hdb : (x == ("__debug__" : Str)) = false := by decide)
    (he : starEach (e :: es) X.env = (false, eval e X.env) :: starEach es X.env := by with_reducible first | exact sn_name | exact sn_const | exact sn_tup | exact sn_list | exact sn_bin | exact sn_un | exact sn_bool | exact sn_cmp | exact sn_call | exact sn_sub | exact sn_if | exact sn_attr | exact sn_lc) (hpl : (backTo pos (starEach es X.env)).any (·.1) = false := by rfl) : RE X (.Call (.Name x p) (e :: es) [] pos) (fBi g fa) := .mk fun st d c h =>
  RE.of (pe_callTy hc hg hm hv (pwA (e :: es)) hn hdb he hpl) (ed_bi h hr ha)
theorem dpa1 {H : Hp} {vs : List V} {d : PyData} (h : DpAll K H vs [d]) : ∃ v, vs = [v] ∧ Dp K H v d := by
  cases h with
  | cons a t => cases t; exact ⟨_, rfl, a⟩
theorem dpa2 {H : Hp} {vs : List V} {d d' : PyData} (h : DpAll K H vs [d, d']) : ∃ v w, vs = [v, w] ∧ Dp K H v d ∧ Dp K H w d' := by
  cases h with
  | cons a t =>
    obtain ⟨w, rfl, h2⟩ := dpa1 t
    exact ⟨_, _, rfl, a, h2⟩
/-! len -/
def gLen : List PyData → Option PyData
  | [.list xs] => some (.int xs.length)
  | [.tuple xs] => some (.int xs.length)
  | _ => none
theorem re_len (hg : Gl X "len") (hm : X.mg "len" = none) (ha : RA X [a] fa) (he : starEach [a] X.env = (false, eval a X.env) :: starEach [] X.env := by with_reducible first | exact sn_name | exact sn_const | exact sn_tup | exact sn_list | exact sn_bin | exact sn_un | exact sn_bool | exact sn_cmp | exact sn_call | exact sn_sub | exact sn_if | exact sn_attr | exact sn_lc) : RE X (.Call (.Name "len" p) [a] [] pos) (fBi gLen fa) :=
  re_bi call_len (fun xs z h => by
    unfold gLen at h
    split at h <;> cases h
    · intro hs H vs _ d Q q
      obtain ⟨v, rfl, d1⟩ := dpa1 d
      obtain ⟨p, ws, rfl, hp, da⟩ := dp_list d1
      exact ⟨_, ws.length, rfl, .inl ⟨ws, sqL_mono hid_sub hp, rfl⟩, q _ H (Step.refl H) (by rw [da.len]; exact .int _)⟩
    · intro hs H vs _ d Q q
      obtain ⟨v, rfl, d1⟩ := dpa1 d
      obtain ⟨p, ws, rfl, hp, da⟩ := dp_tuple d1
      exact ⟨_, ws.length, rfl, .inr ⟨ws, sqT_mono hid_sub hp, rfl⟩, q _ H (Step.refl H) (by rw [da.len]; exact .int _)⟩) hg hm PySem.boot_len ha (he := he)
/-! all, any, sum -/
def boolsOf : List PyData → Option (List Bool)
  | [] => some []
  | .bool b :: r => (boolsOf r).map (b :: ·)
  | _ => none
theorem bools_dp {H : Hp} : ∀ {ds : List PyData} {bs : List Bool} {vs : List V}, boolsOf ds = some bs → DpAll K H vs ds → vs = bs.map V.bl
  | [], bs, vs, h, d => by
    cases d
    have h' := Option.some.inj h
    subst h'; rfl
  | d0 :: r, bs, vs, h, d => by
    cases d with
    | cons a t =>
      cases d0 <;> first | (exfalso; cases h; done) | skip
      rename_i b0
      obtain ⟨l, h1, rfl⟩ := map_some (show (boolsOf r).map (b0 :: ·) = some bs from h)
      rw [bools_dp h1 t, dp_bool a]; rfl
def intsOf : List PyData → Option (List Int)
  | [] => some []
  | .int b :: r => (intsOf r).map (b :: ·)
  | _ => none
theorem ints_dp {H : Hp} : ∀ {ds : List PyData} {bs : List Int} {vs : List V}, intsOf ds = some bs → DpAll K H vs ds → vs = bs.map V.int
  | [], bs, vs, h, d => by
    cases d
    have h' := Option.some.inj h
    subst h'; rfl
  | d0 :: r, bs, vs, h, d => by
    cases d with
    | cons a t =>
      cases d0 <;> first | (exfalso; cases h; done) | skip
      rename_i b0
      obtain ⟨l, h1, rfl⟩ := map_some (show (intsOf r).map (b0 :: ·) = some bs from h)
      rw [ints_dp h1 t, dp_int a]; rfl
def gAll : List PyData → Option PyData
  | [.list xs] => (boolsOf xs).map fun bs => .bool (bs.all id)
  | _ => none
theorem re_all (hc : X.calm = true) (hg : Gl X "all") (hm : X.mg "all" = none) (ha : RA X [a] fa) (he : starEach [a] X.env = (false, eval a X.env) :: starEach [] X.env := by with_reducible first | exact sn_name | exact sn_const | exact sn_tup | exact sn_list | exact sn_bin | exact sn_un | exact sn_bool | exact sn_cmp | exact sn_call | exact sn_sub | exact sn_if | exact sn_attr | exact sn_lc) : RE X (.Call (.Name "all" p) [a] [] pos) (fBi gAll fa) :=
  re_bi (cr_all hc) (fun xs z h => by
    unfold gAll at h
    split at h
    · obtain ⟨bs, h1, rfl⟩ := map_some h
      intro hs H vs _ d Q q
      obtain ⟨v, rfl, d1⟩ := dpa1 d
      obtain ⟨p, ws, rfl, hp, da⟩ := dp_list d1
      rw [bools_dp h1 da] at hp
      exact ⟨p, bs, rfl, sqL_mono hid_sub hp, q _ H (Step.refl H) (.bl _)⟩
    · cases h) hg hm (by decide +kernel) ha (he := he)
/-! int, abs, max, min -/
def gInt : List PyData → Option PyData
  | [.int i] => some (.int i)
  | [.bool b] => some (.int (if b then 1 else 0))
  | _ => none
def gAbs : List PyData → Option PyData
  | [.int i] => some (.int (if i < 0 then -i else i))
  | _ => none
def gMax : List PyData → Option PyData
  | [.int i, .int j] => some (.int (if j > i then j else i))
  | _ => none
def gMin : List PyData → Option PyData
  | [.int i, .int j] => some (.int (if j < i then j else i))
  | _ => none
theorem re_intc (hg : Gl X "int") (hm : X.mg "int" = none) (ha : RA X [a] fa) (he : starEach [a] X.env = (false, eval a X.env) :: starEach [] X.env := by with_reducible first | exact sn_name | exact sn_const | exact sn_tup | exact sn_list | exact sn_bin | exact sn_un | exact sn_bool | exact sn_cmp | exact sn_call | exact sn_sub | exact sn_if | exact sn_attr | exact sn_lc) : RE X (.Call (.Name "int" p) [a] [] pos) (fBi gInt fa) :=
  re_biT call_int1 (fun xs z h => by
    unfold gInt at h
    split at h <;> cases h
    · intro hs H vs _ d Q q
      obtain ⟨v, rfl, d1⟩ := dpa1 d
      cases dp_int d1
      exact .inl ⟨_, rfl, q _ H (Step.refl H) (.int _)⟩
    · intro hs H vs _ d Q q
      obtain ⟨v, rfl, d1⟩ := dpa1 d
      cases dp_bool d1
      exact .inr ⟨_, rfl, q _ H (Step.refl H) (.int _)⟩) hg hm (by decide +kernel) ha (he := he)
theorem re_abs (hg : Gl X "abs") (hm : X.mg "abs" = none) (ha : RA X [a] fa) (he : starEach [a] X.env = (false, eval a X.env) :: starEach [] X.env := by with_reducible first | exact sn_name | exact sn_const | exact sn_tup | exact sn_list | exact sn_bin | exact sn_un | exact sn_bool | exact sn_cmp | exact sn_call | exact sn_sub | exact sn_if | exact sn_attr | exact sn_lc) : RE X (.Call (.Name "abs" p) [a] [] pos) (fBi gAbs fa) :=
  re_bi call_abs (fun xs z h => by
    unfold gAbs at h
    split at h <;> cases h
    intro hs H vs _ d Q q
    obtain ⟨v, rfl, d1⟩ := dpa1 d
    cases dp_int d1
    exact ⟨_, rfl, q _ H (Step.refl H) (.int _)⟩) hg hm (by decide +kernel) ha (he := he)
theorem re_max (hc : X.calm = true) (hg : Gl X "max") (hm : X.mg "max" = none) (ha : RA X [a, b] fa) (he : starEach [a, b] X.env = (false, eval a X.env) :: starEach [b] X.env := by with_reducible first | exact sn_name | exact sn_const | exact sn_tup | exact sn_list | exact sn_bin | exact sn_un | exact sn_bool | exact sn_cmp | exact sn_call | exact sn_sub | exact sn_if | exact sn_attr | exact sn_lc) (hpl : (backTo pos (starEach [b] X.env)).any (·.1) = false := by rfl) : RE X (.Call (.Name "max" p) [a, b] [] pos) (fBi gMax fa) :=
  re_bi (call_max2 hc) (fun xs z h => by
    unfold gMax at h
    split at h <;> cases h
    intro hs H vs _ d Q q
    obtain ⟨v, w, rfl, d1, d2⟩ := dpa2 d
    cases dp_int d1
    cases dp_int d2
    exact ⟨_, _, rfl, q _ H (Step.refl H) (.int _)⟩) hg hm (by decide +kernel) ha (he := he) (hpl := hpl)
theorem re_min (hc : X.calm = true) (hg : Gl X "min") (hm : X.mg "min" = none) (ha : RA X [a, b] fa) (he : starEach [a, b] X.env = (false, eval a X.env) :: starEach [b] X.env := by with_reducible first | exact sn_name | exact sn_const | exact sn_tup | exact sn_list | exact sn_bin | exact sn_un | exact sn_bool | exact sn_cmp | exact sn_call | exact sn_sub | exact sn_if | exact sn_attr | exact sn_lc) (hpl : (backTo pos (starEach [b] X.env)).any (·.1) = false := by rfl) : RE X (.Call (.Name "min" p) [a, b] [] pos) (fBi gMin fa) :=
  re_bi (call_min2 hc) (fun xs z h => by
    unfold gMin at h
    split at h <;> cases h
    intro hs H vs _ d Q q
    obtain ⟨v, w, rfl, d1, d2⟩ := dpa2 d
    cases dp_int d1
    cases dp_int d2
    exact ⟨_, _, rfl, q _ H (Step.refl H) (.int _)⟩) hg hm (by decide +kernel) ha (he := he) (hpl := hpl)
/-! gcd -/
def gGcd : List PyData → Option PyData
  | [.int i, .int j] => some (.int ((Nat.gcd i.natAbs j.natAbs : Nat) : Int))
  | _ => none
theorem re_gcd (hg : Gl X x) (hm : X.mg x = some (.builtin "math.gcd")) (ha : RA X [a, b] fa) (hdb : (x == ("__debug__" : Str)) = false := by decide) (he : starEach [a, b] X.env = (false, eval a X.env) :: starEach [b] X.env := by with_reducible first | exact sn_name | exact sn_const | exact sn_tup | exact sn_list | exact sn_bin | exact sn_un | exact sn_bool | exact sn_cmp | exact sn_call | exact sn_sub | exact sn_if | exact sn_attr | exact sn_lc) (hpl : (backTo pos (starEach [b] X.env)).any (·.1) = false := by rfl) : RE X (.Call (.Name x p) [a, b] [] pos) (fBi gGcd fa) := .mk fun st d c h =>
  RE.of (pe_callBfun cr_gcd hg hm (pwA [a, b]) hdb he hpl) (ed_bi h (fun xs z h => by
    unfold gGcd at h
    split at h <;> cases h
    intro hs H vs _ d Q q
    obtain ⟨v, w, rfl, d1, d2⟩ := dpa2 d
    cases dp_int d1
    cases dp_int d2
    exact ⟨_, _, rfl, q _ H (Step.refl H) (.int _)⟩) ha)
/-! divmod -/
def divmodOk (i j : Int) : Bool := decide (0 < j) && !Builtin.divisionGoesByPylong i j
def gDivmod : List PyData → Option PyData
  | [.int i, .int j] => if divmodOk i j = true then some (.tuple [.int (i / j), .int (i % j)]) else none
  | _ => none
theorem re_divmod (hg : Gl X "divmod") (hm : X.mg "divmod" = none) (ha : RA X [a, b] fa) (he : starEach [a, b] X.env = (false, eval a X.env) :: starEach [b] X.env := by with_reducible first | exact sn_name | exact sn_const | exact sn_tup | exact sn_list | exact sn_bin | exact sn_un | exact sn_bool | exact sn_cmp | exact sn_call | exact sn_sub | exact sn_if | exact sn_attr | exact sn_lc) (hpl : (backTo pos (starEach [b] X.env)).any (·.1) = false := by rfl) : RE X (.Call (.Name "divmod" p) [a, b] [] pos) (fBi gDivmod fa) :=
  re_bi call_divmodW (fun xs z h => by
    unfold gDivmod at h
    split at h
    · split at h <;> cases h
      rename_i hok
      intro hs H vs ht d Q q
      obtain ⟨v, w, rfl, d1, d2⟩ := dpa2 d
      cases dp_int d1
      cases dp_int d2
      unfold divmodOk at hok
      rw [Bool.and_eq_true] at hok
      refine ⟨_, _, rfl, ⟨of_decide_eq_true hok.1, by simpa using hok.2⟩, fun t ht' => ?_⟩
      have hph : t ∉ hs := fun m => ht t m ht'
      exact q _ _ (Step.new ht') (.tup (.inl (.inl (by rw [hid_out hph]; exact upd_same))) (.cons (.int _) (.cons (.int _) .nil)))
    · cases h) hg hm (by decide +kernel) ha (he := he) (hpl := hpl)
/-! tuple(..), list(..) -/
def gTuple : List PyData → Option PyData
  | [.list xs] => some (.tuple xs)
  | [.tuple xs] => some (.tuple xs)
  | _ => none
theorem re_tuple (hg : Gl X "tuple") (hm : X.mg "tuple" = none) (ha : RA X [a] fa) (he : starEach [a] X.env = (false, eval a X.env) :: starEach [] X.env := by with_reducible first | exact sn_name | exact sn_const | exact sn_tup | exact sn_list | exact sn_bin | exact sn_un | exact sn_bool | exact sn_cmp | exact sn_call | exact sn_sub | exact sn_if | exact sn_attr | exact sn_lc) : RE X (.Call (.Name "tuple" p) [a] [] pos) (fBi gTuple fa) :=
  re_biT call_tuple_of (fun xs z h => by
    unfold gTuple at h
    split at h <;> cases h
    · intro hs H vs ht d Q q
      obtain ⟨v, rfl, d1⟩ := dpa1 d
      obtain ⟨p, ws, rfl, hp, da⟩ := dp_list d1
      refine ⟨p, ws, rfl, .inl ⟨sqL_mono hid_sub hp, fun t ht' => ?_⟩⟩
      have hph : t ∉ hs := fun m => ht t m ht'
      have s3 : Step [] H (upd H t (.tup ws)) := Step.new ht'
      exact q _ _ s3 (.tup (.inl (.inl (by rw [hid_out hph]; exact upd_same))) (da.up (s3.hd0 (by simp))))
    · intro hs H vs _ d Q q
      obtain ⟨v, rfl, d1⟩ := dpa1 d
      obtain ⟨p, ws, rfl, hp, da⟩ := dp_tuple d1
      exact ⟨p, ws, rfl, .inr ⟨sqT_mono hid_sub hp, q _ H (Step.refl H) (.tup hp da)⟩⟩) hg hm (by decide +kernel) ha (he := he)
def fList (a : FE) : FL := fun st => (a st).bind fun p => match p.1 with
  | .list xs => some (xs, p.2)
  | .tuple xs => some (xs, p.2)
  | _ => none
theorem rl_list (hg : Gl X "list") (hm : X.mg "list" = none) (ha : RE X a fe) (he : starEach [a] X.env = (false, eval a X.env) :: starEach [] X.env := by with_reducible first | exact sn_name | exact sn_const | exact sn_tup | exact sn_list | exact sn_bin | exact sn_un | exact sn_bool | exact sn_cmp | exact sn_call | exact sn_sub | exact sn_if | exact sn_attr | exact sn_lc) : RL X (.Call (.Name "list" p) [a] [] pos) (fList fe) := .mk fun st d c h => by
  obtain ⟨⟨y, c1⟩, h1, h⟩ := bind_some h
  refine RL.of (pe_callTy call_list_of hg hm (by decide +kernel) (pa_cons (pwE a) pa_nil he) (he := he)) fun hs ps σ H R Q q => ha _ _ _ h1 hs ps σ H R _ fun v H2 s2 R2 d2 => ?_
  simp only at h
  split at h
  · cases h
    obtain ⟨p, ws, rfl, hp, da⟩ := dp_list d2
    refine ⟨p, ws, rfl, .inl (sqL_mono hid_sub hp), fun t ht => ?_⟩
    obtain ⟨k1, k2, k3, k4, k5⟩ := lay_list s2 R2 ht da
    exact q t _ _ k1 k2 k3 k4 k5
  · cases h
    obtain ⟨p, ws, rfl, hp, da⟩ := dp_tuple d2
    refine ⟨p, ws, rfl, .inr (sqT_mono hid_sub hp), fun t ht => ?_⟩
    obtain ⟨k1, k2, k3, k4, k5⟩ := lay_list s2 R2 ht da
    exact q t _ _ k1 k2 k3 k4 k5
  · cases h
/-! type(x) is T, isinstance(x, T) -/
def tyOf : PyData → String
  | .none => "NoneType"
  | .bool _ => "bool"
  | .int _ => "int"
  | .str _ => "str"
  | .list _ => "list"
  | .tuple _ => "tuple"
  | .dict _ => "dict"
theorem rl_typeD {pins : List (Addr × Obj)} {s : Shared} {σ : St} {H : Hp} {v : V} {u : Value} {d : PyData} {Q : VK} (I : L2.Inv X pins σ H s) (r : RelV v u) (hd : Dp X.K H v d) (q : Q (.ty (tyOf d)) H) :
    wpAny (model X.prog X.w) X.A (call (.type "type") [u]) (EP X pins σ Q) X.xe s := by
  have fin : EP X pins σ Q (.type (tyOf d)) s := ⟨.ty (tyOf d), H, I, rfl, q⟩
  cases hd with
  | non => cases (show u = Value.none from r); exact call_type_of (Tx := "NoneType") rfl (by decide +kernel) fin
  | bl y => cases (show u = Value.bool y from r); exact call_type_of (Tx := "bool") rfl (by decide +kernel) fin
  | int i => obtain ⟨t, rfl⟩ := (show ∃ t, u = Value.int i t from r); exact call_type_of (Tx := "int") rfl (by decide +kernel) fin
  | str y => obtain ⟨t, rfl⟩ := (show ∃ t, u = Value.str y t from r); exact call_type_of (Tx := "str") rfl (by decide +kernel) fin
  | lst a b =>
    cases (show u = Value.ref _ from r)
    obtain ⟨its, rv, ⟨o, n, e, c, _, _⟩, _⟩ := I.list a
    exact call_type_of (Tx := "list") ⟨o, e, c⟩ (by decide +kernel) fin
  | tup a b =>
    cases (show u = Value.ref _ from r)
    obtain ⟨its, rv, ⟨o, e, c, _⟩, _⟩ := I.tuple a
    exact call_type_of (Tx := "tuple") ⟨o, e, c⟩ (by decide +kernel) fin
def gTyIs (T : String) (x : PyData) : Option PyData := some (.bool (decide (tyOf x = T)))
def rTyD (K : PySem.W.Frag) : List V → Hp → VK → Prop := fun xs H Q => ∃ v d, xs = [v] ∧ Dp K H v d ∧ Q (.ty (tyOf d)) H
theorem call_typeD : CallR X (.type "type") (rTyD X.K) := by
  intro pins s σ H xs us Q I r h
  obtain ⟨v, d, rfl, hd, q⟩ := h
  obtain ⟨u, rfl, rx⟩ := vals1 r
  exact rl_typeD I rx hd q
theorem re_tyIs {y : Str} {T : String} {p1 p2 p3 : Pos} (hg : Gl X "type") (hm : X.mg "type" = none) (hgT : Gl X y) (hmT : X.mg y = none) (hvT : bootBuiltins y = some (.type T)) (ha : RE X a fe) (he : starEach [a] X.env = (false, eval a X.env) :: starEach [] X.env := by with_reducible first | exact sn_name | exact sn_const | exact sn_tup | exact sn_list | exact sn_bin | exact sn_un | exact sn_bool | exact sn_cmp | exact sn_call | exact sn_sub | exact sn_if | exact sn_attr | exact sn_lc)
    (hnT : y ≠ "__name__" := by decide) (hdT : (y == ("__debug__" : Str)) = false := by decide) :
    RE X (.Compare (.Call (.Name "type" p1) [a] [] p2) [.Is] [.Name y p3] pos) (fUn (gTyIs T) fe) := .mk fun st d c h => by
  obtain ⟨⟨z, c1⟩, h1, h⟩ := bind_some h
  obtain ⟨w, h2, e⟩ := map_some h
  cases e
  cases h2
  refine RE.of (pe_cmpR op_isTyB (pe_callTy call_typeD hg hm (by decide +kernel) (pa_cons (pwE a) pa_nil he) (he := he)) (pe_bltn (v := .ty T) hgT hmT hvT rfl hnT hdT) (nomark _)) fun hs ps σ H R Q q => ha _ _ _ h1 hs ps σ H R _ fun v H2 s2 R2 d2 => ?_
  exact ⟨v, z, rfl, d2.up hid_sub, _, _, rfl, rfl, q _ H2 s2 R2 (.bl _)⟩
def gIsi (T : String) (x : PyData) : Option PyData := (kitB (tyOf x) T).map .bool
theorem dp_tyX {H : Hp} {v : V} {d : PyData} (h : Dp K H v d) : TyX K H v (.type (tyOf d)) := by
  cases h with
  | non => exact .base .non
  | bl y => exact .base (.bl y)
  | int i => exact .base (.int i)
  | str y => exact .base (.str y)
  | lst a b =>
    rcases a with (a | ⟨o, a⟩) | ⟨o, its, n, h1, h2, _⟩
    · exact .base (.lst a)
    · exact .base (.frz a)
    · exact .kList h1 h2
  | tup a b =>
    rcases a with (a | ⟨o, a⟩) | ⟨o, its, n, h1, h2, _⟩
    · exact .base (.tup a)
    · exact .fTuple a
    · exact .kTuple h1 h2
theorem re_isi {y : Str} {T : String} {p1 p3 : Pos} (hg : Gl X "isinstance") (hm : X.mg "isinstance" = none) (hgT : Gl X y) (hmT : X.mg y = none) (hvT : bootBuiltins y = some (.type T)) (ha : RE X a fe)
    (he : starEach [a, .Name y p3] X.env = (false, eval a X.env) :: starEach [.Name y p3] X.env := by with_reducible first | exact sn_name | exact sn_const | exact sn_tup | exact sn_list | exact sn_bin | exact sn_un | exact sn_bool | exact sn_cmp | exact sn_call | exact sn_sub | exact sn_if | exact sn_attr | exact sn_lc) (he2 : starEach [.Name y p3] X.env = (false, eval (.Name y p3) X.env) :: starEach [] X.env := by rfl) (hpl : (backTo pos (starEach [.Name y p3] X.env)).any (·.1) = false := by rfl) (hnT : y ≠ "__name__" := by decide) (hdT : (y == ("__debug__" : Str)) = false := by decide) :
    RE X (.Call (.Name "isinstance" p1) [a, .Name y p3] [] pos) (fUn (gIsi T) fe) := .mk fun st d c h => by
  obtain ⟨⟨z, c1⟩, h1, h⟩ := bind_some h
  obtain ⟨w, h2, e⟩ := map_some h
  cases e
  obtain ⟨b, h3, rfl⟩ := map_some h2
  refine RE.of (pe_callB call_isi hg hm (by decide +kernel) (pa_cons (pwE a) (pa_cons (pe_bltn (v := .ty T) hgT hmT hvT rfl hnT hdT) pa_nil he2) he) (he := he) (hpl := hpl)) fun hs ps σ H R Q q => ha _ _ _ h1 hs ps σ H R _ fun v H2 s2 R2 d2 => ?_
  exact ⟨v, .ty T, _, _, b, rfl, .ty T, dp_tyX (d2.up hid_sub), kit_ty h3, q _ H2 s2 R2 (.bl _)⟩
/-! repr -/
def shownOk (d : PyData) : Bool := d.showable && !d.hasDict && decide (d.shown.length ≤ sizeLine) && decide (d.depth ≤ 60)
def gRepr : List PyData → Option PyData
  | [d] => if shownOk d = true then some (.str d.shown) else none
  | _ => none
def rRepr (K : PySem.W.Frag) : List V → Hp → VK → Prop := fun xs H Q => ∃ v d, xs = [v] ∧ Dp K H v d ∧ shownOk d = true ∧ Q (.str d.shown) H
theorem call_reprD (hgd : X.A.guards = some []) (hu : X.A.units + 64 < cLine) : CallR X (.builtin "repr") (rRepr X.K) := by
  intro pins s σ H xs us Q I r h
  obtain ⟨v, d, rfl, hd, hok, q⟩ := h
  obtain ⟨u, rfl, rx⟩ := vals1 r
  unfold shownOk at hok
  simp only [Bool.and_eq_true, Bool.not_eq_true', decide_eq_true_eq] at hok
  obtain ⟨⟨⟨h1, h2⟩, h3⟩, h4⟩ := hok
  obtain ⟨as, hr⟩ := Dp.reads I d v u hd rx
  cases hd with
  | non => cases (show u = Value.none from rx); exact PySem.P.repr_of_none ⟨.str (PyData.shown .none), H, I.tok _, ⟨_, rfl⟩, q⟩
  | bl y => cases (show u = Value.bool y from rx); exact PySem.P.repr_of_bool ⟨.str (PyData.shown (.bool y)), H, I.tok _, ⟨_, rfl⟩, q⟩
  | int i => obtain ⟨t, rfl⟩ := (show ∃ t, u = Value.int i t from rx); exact PySem.P.repr_of_int (of_decide_eq_true h1) ⟨.str (PyData.shown (.int i)), H, I.tok _, ⟨_, rfl⟩, q⟩
  | str y => obtain ⟨t, rfl⟩ := (show ∃ t, u = Value.str y t from rx); exact PySem.P.repr_of_str ⟨.str (PyData.shown (.str y)), H, I.tok _, ⟨_, rfl⟩, q⟩ h3
  | lst a b =>
    cases (show u = Value.ref _ from rx)
    exact repr_of_reads' hr h1 (PyData.noDict_hsm h2) hgd (by omega) (fun _ _ e => e) (fun h' t tk hk => ⟨.str _, H, I.kept hk, ⟨_, rfl⟩, q⟩) h3
  | tup a b =>
    cases (show u = Value.ref _ from rx)
    exact repr_of_reads' hr h1 (PyData.noDict_hsm h2) hgd (by omega) (fun _ _ e => e) (fun h' t tk hk => ⟨.str _, H, I.kept hk, ⟨_, rfl⟩, q⟩) h3
theorem re_repr (hgd : X.A.guards = some []) (hu : X.A.units + 64 < cLine) (hg : Gl X "repr") (hm : X.mg "repr" = none) (ha : RA X [a] fa) (he : starEach [a] X.env = (false, eval a X.env) :: starEach [] X.env := by with_reducible first | exact sn_name | exact sn_const | exact sn_tup | exact sn_list | exact sn_bin | exact sn_un | exact sn_bool | exact sn_cmp | exact sn_call | exact sn_sub | exact sn_if | exact sn_attr | exact sn_lc) : RE X (.Call (.Name "repr" p) [a] [] pos) (fBi gRepr fa) :=
  re_bi (call_reprD hgd hu) (fun xs z h => by
    unfold gRepr at h
    split at h
    · split at h <;> cases h
      rename_i hok
      intro hs H vs _ d Q q
      obtain ⟨v, rfl, d1⟩ := dpa1 d
      exact ⟨v, _, rfl, d1.up hid_sub, hok, q _ H (Step.refl H) (.str _)⟩
    · cases h) hg hm (by decide +kernel) ha (he := he)
end
end DL


set_option Elab.async false
set_option linter.all false
set_option maxRecDepth 100000
set_option maxHeartbeats 4000000
namespace DL
open PySem PySem.Spec L2
open PyProof.Rows hiding St

/-! ### targets -/
def Only (js : List Nat) (σ σ' : St) : Prop := σ'.length = σ.length ∧ ∀ i, i ∉ js → σ'[i]? = σ[i]?
theorem Only.refl {js : List Nat} (σ : St) : Only js σ σ := ⟨rfl, fun _ _ => rfl⟩
theorem Only.trans {js : List Nat} {a b c : St} (h : Only js a b) (k : Only js b c) : Only js a c := ⟨k.1.trans h.1, fun i n => (k.2 i n).trans (h.2 i n)⟩
theorem Only.mono {js ks : List Nat} {a b : St} (h : Only js a b) (k : ∀ i ∈ js, i ∈ ks) : Only ks a b := ⟨h.1, fun i n => h.2 i fun m => n (k i m)⟩
abbrev FG := Sta → PyData → Option Sta
/-- a target that stores into slots js -/
def EG (K : PySem.W.Frag) (t : TG) (js : List Nat) (g : FG) : Prop := ∀ (hs ps : List Addr) (σ : St) (H : Hp) (st st' : Sta) (v : V) (x : PyData), Rel K hs ps σ H st → Dp K (hid hs H) v x → g st x = some st' →
  ∀ Q : St → Hp → Prop, (∀ σ', Rel K hs ps σ' H st' → Only js σ σ' → Q σ' H) → t v σ H Q
structure RG (X : Cx) (tg : Expr) (t : TG) (js : List Nat) (g : FG) : Prop where
  pg : PG X tg t
  eg : EG X.K t js g
def EGs (K : PySem.W.Frag) (t : TGs) (js : List Nat) (g : Sta → List PyData → Option Sta) : Prop := ∀ (hs ps : List Addr) (σ : St) (H : Hp) (st st' : Sta) (vs : List V) (xs : List PyData), Rel K hs ps σ H st → DpAll K (hid hs H) vs xs → g st xs = some st' →
  ∀ Q : St → Hp → Prop, (∀ σ', Rel K hs ps σ' H st' → Only js σ σ' → Q σ' H) → t vs σ H Q
structure RGs (X : Cx) (tg : List Expr) (t : TGs) (js : List Nat) (g : Sta → List PyData → Option Sta) : Prop where
  pg : PGs X tg t
  eg : EGs X.K t js g
def setD (st : Sta) (i : Nat) (x : SV) : Sta := ⟨st.ds.set i (some x), st.cs⟩
def aName (i : Nat) : FG := fun st x => some (setD st i (.dat x))
def aNil : Sta → List PyData → Option Sta
  | st, [] => some st
  | _, _ => none
def aCons (g : FG) (r : Sta → List PyData → Option Sta) : Sta → List PyData → Option Sta
  | st, x :: xs => (g st x).bind fun st1 => r st1 xs
  | _, [] => none
def aTup (n : Nat) (r : Sta → List PyData → Option Sta) : FG
  | st, .tuple xs => if xs.length = n then r st xs else none
  | _, _ => none
section
variable {K : PySem.W.Frag} {hs ps : List Addr} {σ : St} {H : Hp} {st : Sta}
theorem Rel.set (R : Rel K hs ps σ H st) (i : Nat) {v : V} {x : SV} (h : RelS K hs ps H v x) : Rel K hs ps (σ.set i (some v)) H (setD st i x) := by
  refine ⟨R.hr, by unfold setD; simp [R.len], fun j y e => ?_⟩
  unfold setD at e
  by_cases hj : i = j
  · subst hj
    have hl : i < st.ds.length := by
      by_cases hl : i < st.ds.length
      · exact hl
      · rw [List.getElem?_eq_none (by simpa using hl)] at e; cases e
    rw [List.getElem?_set_self hl] at e
    cases e
    exact ⟨v, by rw [List.getElem?_set_self (by rw [R.len]; exact hl)], h⟩
  · rw [List.getElem?_set_ne hj] at e
    obtain ⟨w, h1, h2⟩ := R.slot j y e
    exact ⟨w, by rw [List.getElem?_set_ne hj]; exact h1, h2⟩
theorem only_set (i : Nat) (v : V) {js : List Nat} (h : i ∈ js) : Only js σ (σ.set i (some v)) := ⟨by simp, fun j n => by
  rw [List.getElem?_set_ne (fun e : i = j => n (e ▸ h))]⟩
end
section
variable {X : Cx} {e : Expr} {es : List Expr} {pos : Pos}
theorem rg_name {i : Nat} {x : Str} (hN : X.N.Nodup) (hi : X.N[i]? = some x) (hx : Loc X.env.scope x) (hf : X.fn x = true ∨ X.env.scope.names.lookup x = some .local := by first | exact .inl rfl | exact .inr rfl | assumption) : RG X (.Name x pos) (gName i) [i] (aName i) :=
  ⟨pg_name hN hi hx hf, fun hs ps σ H st st' v x R d e Q q => by
    cases e
    exact q _ (R.set i (x := .dat x) d) (only_set i v (by simp))⟩
theorem rgs_nil : RGs X [] gNil [] aNil := ⟨pgs_nil, fun hs ps σ H st st' vs xs R d e Q q => by
  cases xs with
  | nil =>
    cases d
    cases e
    exact ⟨rfl, q _ R (Only.refl σ)⟩
  | cons _ _ => cases e⟩
theorem rgs_cons {t : TG} {u : TGs} {js ks : List Nat} {g : FG} {r : Sta → List PyData → Option Sta} (h1 : RG X e t js g) (h2 : RGs X es u ks r) (hs : (assignEach (e :: es) X.env).map (·.2) = assign e X.env :: (assignEach es X.env).map (·.2) := by rfl) : RGs X (e :: es) (gCons t u) (js ++ ks) (aCons g r) :=
  ⟨pgs_cons h1.pg h2.pg hs, fun hs ps σ H st st' vs xs R d e Q q => by
    cases xs with
    | nil => cases e
    | cons x xs =>
      cases d with
      | cons d1 d2 =>
        obtain ⟨st1, e1, e2⟩ := bind_some (show (g st x).bind (fun st1 => r st1 xs) = some st' from e)
        exact ⟨_, _, rfl, h1.eg hs ps σ H st st1 _ x R d1 e1 _ fun σ1 R1 o1 => h2.eg hs ps σ1 H st1 st' _ xs R1 d2 e2 _ fun σ2 R2 o2 => q σ2 R2 ((o1.mono (by simp; intro i h; exact .inl h)).trans (o2.mono (by simp; intro i h; exact .inr h)))⟩⟩
theorem rg_tup {k n : Nat} {t : TGs} {js : List Nat} {r : Sta → List PyData → Option Sta} (hc : X.calm = true) (h : RGs X es t js r) (hn : (assignEach es X.env).length = n := by rfl) (hst : (assignEach es X.env).findIdx? (·.1) = none := by rfl) : RG X (.Tuple es k pos) (gTup X.K n t) js (aTup n r) :=
  ⟨pg_tup hc h.pg hn hst, fun hs ps σ H st st' v x R d e Q q => by
    unfold aTup at e
    split at e
    · split at e
      · rename_i hl
        obtain ⟨p, ws, rfl, hp, da⟩ := dp_tuple d
        exact ⟨p, ws, rfl, sqT_mono hid_sub hp, by rw [da.len]; exact hl, h.eg hs ps σ H _ st' ws _ R da e Q q⟩
      · cases e
    · cases e⟩
end

/-! ### what is walked -/
/-- the items xs, at each turn -/
def YD (K : PySem.W.Frag) (hs : List Addr) (H2 : Hp) (xs : List PyData) : Nat → Hp → V → Hp → Prop := fun i H3 x H' => Step [] H3 H' ∧ ∃ d, xs[i]? = some d ∧ ∀ hs' : List Addr, (∀ a ∈ hs', a ∉ hs → H2 a = none) → (∀ a ∈ hs', H3 a ≠ none) → Dp K (hid hs' H') x d
def GD (hs : List Addr) (H2 : Hp) : Hp → Prop := fun H3 => ∀ a o, a ∉ hs → H2 a = some o → H3 a = some o
def EDI (K : PySem.W.Frag) (ti : TI) (st : Sta) (xs : List PyData) (cs' : Cs) : Prop :=
  ∀ hs ps σ H, Rel K hs ps σ H st → ∀ R : It → Hp → Prop, (∀ J H2, Step ps H H2 → Rel K hs ps σ H2 ⟨st.ds, cs'⟩ → Walk J xs.length (GD hs H2) (YD K hs H2 xs) → R J H2) → ti σ H R
structure RI (X : Cx) (tg iter : Expr) (f : FL) : Prop where
  h : ∀ st xs c, f st = some (xs, c) → EDI X.K (wI X tg iter) st xs c
instance (X : Cx) (tg iter : Expr) (f : FL) : CoeFun (RI X tg iter f) (fun _ => ∀ st xs c, f st = some (xs, c) → EDI X.K (wI X tg iter) st xs c) := ⟨fun r => r.h⟩
section
variable {X : Cx} {tg e a b : Expr} {st : Sta} {c : Cs} {fe : FE} {fl : FL} {fa : FA} {p pos : Pos}
theorem RI.of {t : TI} {xs : List PyData} (p : PI X tg e t) (k : EDI X.K t st xs c) : EDI X.K (wI X tg e) st xs c := fun hs ps σ H R Q q pins s I => p.run pins s σ H Q I (k hs ps σ H R Q q)
theorem GD.sub {hs hs' : List Addr} {H2 H3 : Hp} (g : GD hs H2 H3) (h : ∀ a ∈ hs', a ∉ hs → H2 a = none) : Sub (hid hs H2) (hid hs' H3) := fun a o e => by
  obtain ⟨n, q⟩ := hid_some e
  rw [hid_out fun m => by rw [h a m n] at q; cases q]
  exact g a o n q
theorem sqL_gd {K : PySem.W.Frag} {hs : List Addr} {H2 H3 : Hp} {p : Addr} {xs : List V} (g : GD hs H2 H3) (h : SqL K (hid hs H2) p xs) : SqL K H3 p xs := sqL_mono hid_sub (sqL_mono (g.sub (hs' := hs) fun _ m n => absurd m n) h)
theorem sqT_gd {K : PySem.W.Frag} {hs : List Addr} {H2 H3 : Hp} {p : Addr} {xs : List V} (g : GD hs H2 H3) (h : SqT K (hid hs H2) p xs) : SqT K H3 p xs := sqT_mono hid_sub (sqT_mono (g.sub (hs' := hs) fun _ m n => absurd m n) h)
theorem walk_dL {K : PySem.W.Frag} {hs : List Addr} {H2 : Hp} {p : Addr} {ws : List V} {ds : List PyData} (hp : SqL K (hid hs H2) p ws) (da : DpAll K (hid hs H2) ws ds) : Walk (Itl K p) ds.length (GD hs H2) (YD K hs H2 ds) := by
  rw [← da.len]
  refine (walk_list (K := K) (a := p) (xs := ws)).mono (fun H3 g => sqL_gd g hp) fun i H3 x H' _ g y => ?_
  obtain ⟨rfl, y⟩ := y
  obtain ⟨d, h1, h2⟩ := da.getV y
  exact ⟨Step.refl _, d, h1, fun hs' h3 _ => h2.up (g.sub h3)⟩
theorem walk_dT {K : PySem.W.Frag} {hs : List Addr} {H2 : Hp} {p : Addr} {ws : List V} {ds : List PyData} (hp : SqT K (hid hs H2) p ws) (da : DpAll K (hid hs H2) ws ds) : Walk (Itt K p) ds.length (GD hs H2) (YD K hs H2 ds) := by
  rw [← da.len]
  refine (walk_tup (K := K) (a := p) (xs := ws)).mono (fun H3 g => sqT_gd g hp) fun i H3 x H' _ g y => ?_
  obtain ⟨rfl, y⟩ := y
  obtain ⟨d, h1, h2⟩ := da.getV y
  exact ⟨Step.refl _, d, h1, fun hs' h3 _ => h2.up (g.sub h3)⟩
/-- over a list; over a tuple -/
def fItL (a : FE) : FL := fun st => (a st).bind fun q => match q.1 with
  | .list xs => some (xs, q.2)
  | _ => none
def fItT (a : FE) : FL := fun st => (a st).bind fun q => match q.1 with
  | .tuple xs => some (xs, q.2)
  | _ => none
theorem ri_list (ha : RE X a fe) : RI X tg a (fItL fe) := .mk fun st xs c h => by
  obtain ⟨⟨y, c1⟩, h1, h⟩ := bind_some h
  simp only at h
  split at h <;> cases h
  exact RI.of (pi_list (pwE a)) fun hs ps σ H R Q q => ha _ _ _ h1 hs ps σ H R _ fun v H2 s2 R2 d2 => by
    obtain ⟨p, ws, rfl, hp, da⟩ := dp_list d2
    exact ⟨p, rfl, ⟨ws, sqL_mono hid_sub hp⟩, q _ H2 s2 R2 (walk_dL hp da)⟩
theorem ri_tup (ha : RE X a fe) : RI X tg a (fItT fe) := .mk fun st xs c h => by
  obtain ⟨⟨y, c1⟩, h1, h⟩ := bind_some h
  simp only at h
  split at h <;> cases h
  exact RI.of (pi_tup (pwE a)) fun hs ps σ H R Q q => ha _ _ _ h1 hs ps σ H R _ fun v H2 s2 R2 d2 => by
    obtain ⟨p, ws, rfl, hp, da⟩ := dp_tuple d2
    exact ⟨p, rfl, ⟨ws, sqT_mono hid_sub hp⟩, q _ H2 s2 R2 (walk_dT hp da)⟩
/-- over either -/
def fIt (a : FE) : FL := fun st => (a st).bind fun q => match q.1 with
  | .list xs => some (xs, q.2)
  | .tuple xs => some (xs, q.2)
  | _ => none
theorem ri_seq (ha : RE X a fe) : RI X tg a (fIt fe) := .mk fun st xs c h => by
  obtain ⟨⟨y, c1⟩, h1, h2⟩ := bind_some h
  cases y with
  | list ys => exact ri_list ha st xs c (by unfold fItL; rw [h1]; exact h2)
  | tuple ys => exact ri_tup ha st xs c (by unfold fItT; rw [h1]; exact h2)
  | _ => cases h2
def rangeD (lo : Int) (n : Nat) : List PyData := (List.range n).map fun i => .int (lo + (i : Nat))
def rngOk (i : Int) : Bool := decide (-(2 ^ 62) ≤ i ∧ i < 2 ^ 62)
theorem walk_dR {K : PySem.W.Frag} {hs : List Addr} {H2 : Hp} {lo : Int} {n : Nat} : Walk (Itr lo n) (rangeD lo n).length (GD hs H2) (YD K hs H2 (rangeD lo n)) := by
  have e : (rangeD lo n).length = n := by simp [rangeD]
  rw [e]
  refine (walk_range (lo := lo) (n := n)).mono (fun _ _ => trivial) fun i H3 x H' hi g y => ?_
  obtain ⟨rfl, rfl⟩ := y
  exact ⟨Step.refl _, .int (lo + i), by simp [rangeD, List.getElem?_map, List.getElem?_range hi], fun _ _ _ => .int _⟩
def fRng1 (a : FA) : FL := fun st => (a st).bind fun q => match q.1 with
  | [.dat (.int j)] => if rngOk j = true then some (rangeD 0 j.toNat, q.2) else none
  | _ => none
theorem ri_range1 (hg : Gl X "range") (hm : X.mg "range" = none) (ha : RA X [a] fa) (hs : starEach [a] X.env = [(false, eval a X.env)] := by rfl) : RI X tg (.Call (.Name "range" p) [a] [] pos) (fRng1 fa) := .mk fun st xs c h => by
  obtain ⟨⟨y, c1⟩, h1, h⟩ := bind_some h
  simp only at h
  split at h
  · split at h <;> cases h
    rename_i hok
    have hk := of_decide_eq_true (show decide _ = true from hok)
    exact RI.of (pi_range1 hg hm (pwA [a]) hs) fun hs ps σ H R Q q => ha _ _ _ h1 hs ps σ H R _ fun vs H2 s2 R2 p2 => by
      obtain ⟨v, rfl, d⟩ := dpa1 (paired_dat (ds := [_]) p2)
      cases dp_int d
      exact ⟨_, rfl, hk.1, hk.2, q _ H2 s2 R2 walk_dR⟩
  · cases h
end

/-! ### list comprehensions -/
theorem wipe_get {σ : St} {i : Nat} {vs : List Nat} (h : i ∉ vs) : (wipe σ vs)[i]? = σ[i]? := by
  induction vs with
  | nil => rfl
  | cons v vs ih =>
    unfold wipe
    rw [List.getElem?_set_ne (fun e => h (by rw [e]; exact List.mem_cons_self)), ih fun m => h (List.mem_cons_of_mem _ m)]
theorem wipe_in {σ : St} {i : Nat} {vs : List Nat} (h : i ∈ vs) (hl : i < σ.length) : (wipe σ vs)[i]? = some none := by
  induction vs with
  | nil => cases h
  | cons v vs ih =>
    unfold wipe
    by_cases e : v = i
    · subst e
      rw [List.getElem?_set_self (by rw [wipe_length]; exact hl)]
    · rw [List.getElem?_set_ne e]
      exact ih (by rcases List.mem_cons.mp h with q | q; exact absurd q.symm e; exact q)
theorem wipe_only {σ σ2 : St} {vs js : List Nat} (o : Only js (wipe σ vs) σ2) (h : ∀ j ∈ js, j ∈ vs) : wipe σ2 vs = wipe σ vs := by
  apply List.ext_getElem?
  intro i
  have hl : σ2.length = σ.length := by rw [o.1, wipe_length]
  by_cases m : i ∈ vs
  · by_cases hi : i < σ.length
    · rw [wipe_in m hi, wipe_in m (by rw [hl]; exact hi)]
    · rw [List.getElem?_eq_none (by rw [wipe_length, hl]; omega), List.getElem?_eq_none (by rw [wipe_length]; omega)]
  · rw [wipe_get m, o.2 i fun z => m (h i z), wipe_get m]
def wipeD (ds : Slots) : List Nat → Slots
  | [] => ds
  | v :: vs => (wipeD ds vs).set v none
theorem wipeD_length (ds : Slots) : ∀ vs : List Nat, (wipeD ds vs).length = ds.length
  | [] => rfl
  | v :: vs => by unfold wipeD; rw [List.length_set, wipeD_length ds vs]
theorem wipeD_some {ds : Slots} {i : Nat} {x : SV} : ∀ {vs : List Nat}, (wipeD ds vs)[i]? = some (some x) → ds[i]? = some (some x) ∧ i ∉ vs
  | [], h => ⟨h, by simp⟩
  | v :: vs, h => by
    unfold wipeD at h
    by_cases hi : v = i
    · subst hi
      by_cases hv : v < (wipeD ds vs).length
      · rw [List.getElem?_set_self hv] at h; cases h
      · rw [List.getElem?_eq_none (by simpa using hv)] at h; cases h
    · rw [List.getElem?_set_ne hi] at h
      obtain ⟨h1, h2⟩ := wipeD_some h
      exact ⟨h1, by simp only [List.mem_cons, not_or]; exact ⟨fun e => hi e.symm, h2⟩⟩
theorem Rel.wipe {K : PySem.W.Frag} {hs ps : List Addr} {σ : St} {H : Hp} {st : Sta} (R : Rel K hs ps σ H st) (vs : List Nat) : Rel K hs ps (wipe σ vs) H ⟨wipeD st.ds vs, st.cs⟩ :=
  ⟨R.hr, by rw [wipe_length, R.len]; exact (wipeD_length _ _).symm, fun i x e => by
    obtain ⟨h1, h2⟩ := wipeD_some e
    obtain ⟨v, h3, h4⟩ := R.slot i x h1
    exact ⟨v, by rw [wipe_get h2]; exact h3, h4⟩⟩
/-- the turns: what is made so far, the cells -/
def lcGo (g : FG) (t : FT) (el : FE) (ds : Slots) : List PyData → Cs → Option (List PyData × Cs)
  | [], c => some ([], c)
  | x :: xs, c => (g ⟨ds, c⟩ x).bind fun st1 => (t st1).bind fun q => if q.1 = true then (el ⟨st1.ds, q.2⟩).bind fun y => (lcGo g t el ds xs y.2).map fun r => (y.1 :: r.1, r.2) else lcGo g t el ds xs q.2
def fLc (it : FL) (g : FG) (t : FT) (el : FE) (vs : List Nat) : FL := fun st => (it st).bind fun p => if p.1.length ≤ LIM then lcGo g t el (wipeD st.ds vs) p.1 p.2 else none
def fYes : FT := fun st => some (true, st.cs)
def lE (X : Cx) (scope : Scope) (e : Expr) : TE := fun σ H Q => ∀ (s : Shared) (H0 : Hp) (C : Addr) (cl : List (Str × Addr)) (fp : List Addr), wE (X.blk s H0 scope (compEnvC scope cl C X.env) fp) e σ H Q
def lT (X : Cx) (scope : Scope) (ifs : List Expr) : TT := fun σ H Q => ∀ (s : Shared) (H0 : Hp) (C : Addr) (cl : List (Str × Addr)) (fp : List Addr) (pins : List (Addr × Obj)) (s1 : Shared), L2.Inv (X.blk s H0 scope (compEnvC scope cl C X.env) fp) pins σ H s1 →
  wpAny (model X.prog X.w) X.A (forIn ifs true fun c r => if r = true then do let ok ← PySem.isTrue c (compEnvC scope cl C X.env) (eval c (compEnvC scope cl C X.env)); pure (ForInStep.yield ok) else pure (ForInStep.yield r)) (TP (X.blk s H0 scope (compEnvC scope cl C X.env) fp) pins σ Q) (fun _ _ => False) s1
/-- the tests of a clause -/
structure RTs (X : Cx) (ifs : List Expr) (f : FT) : Prop where
  h : ∃ t, PTs X ifs t ∧ ∀ st d c, f st = some (d, c) → EDT X.K t st d c
theorem rts_nil {X : Cx} : RTs X [] fYes := ⟨_, pts_nil, fun st d c h => by
  cases h
  exact fun hs ps σ H R Q q => q H (Step.refl H) R⟩
theorem rts_one {X : Cx} {e : Expr} {f : FT} (h : RT X e f) : RTs X [e] f := ⟨_, pts_one (pwT e), h⟩
section
variable {X : Cx} {elt tg iter : Expr} {ifs : List Expr} {scope : Scope} {own : List (Str × Nat)} {pos : Pos} {g : TG} {it : FL} {fg : FG} {ft : FT} {fe : FE} {js : List Nat}
theorem ptL (ht : ∀ (s : Shared) (H : Hp) (C : Addr) (cl : List (Str × Addr)) (fp : List Addr), RTs (X.blk s H scope (compEnvC scope cl C X.env) fp) ifs ft) : ∀ (s : Shared) (H : Hp) (C : Addr) (cl : List (Str × Addr)) (fp : List Addr), PTs (X.blk s H scope (compEnvC scope cl C X.env) fp) ifs (lT X scope ifs) := fun s H C cl fp => ⟨fun pins s1 σ H1 Q I k => k s H C cl fp pins s1 I⟩
theorem peL : ∀ (s : Shared) (H : Hp) (C : Addr) (cl : List (Str × Addr)) (fp : List Addr), PE (X.blk s H scope (compEnvC scope cl C X.env) fp) elt (lE X scope elt) := fun s H C cl fp => ⟨fun pins s1 σ H1 Q I k => k s H C cl fp pins s1 I⟩
theorem edl_lc (s0 : Shared) (hi : RI X tg iter it)
    (hg : ∀ (s : Shared) (H : Hp) (C : Addr) (cl : List (Str × Addr)) (fp : List Addr), RG (X.blk s H scope (compEnvC scope cl C X.env) fp) tg g js fg) (ht : ∀ (s : Shared) (H : Hp) (C : Addr) (cl : List (Str × Addr)) (fp : List Addr), RTs (X.blk s H scope (compEnvC scope cl C X.env) fp) ifs ft)
    (he : ∀ (s : Shared) (H : Hp) (C : Addr) (cl : List (Str × Addr)) (fp : List Addr), RE (X.blk s H scope (compEnvC scope cl C X.env) fp) elt fe) (hj : ∀ j ∈ js, j ∈ own.map (·.2)) {st : Sta} {d : List PyData} {c : Cs} (h : fLc it fg ft fe (own.map (·.2)) st = some (d, c)) :
    EDL X.K (tLc (wI X tg iter) g (lT X scope ifs) (lE X scope elt) (own.map (·.2))) st d c := by
  obtain ⟨⟨xs, c1⟩, h1, h⟩ := bind_some h
  simp only at h
  split at h
  · rename_i hlim
    have kt : ∀ st d c, ft st = some (d, c) → EDT X.K (lT X scope ifs) st d c := fun st d c e hs ps σ H R Q q s H0 C cl fp pins s1 I => by
      obtain ⟨t, k1, k2⟩ := ht s H0 C cl fp
      exact k1.run pins s1 σ H Q I (k2 _ _ _ e hs ps σ H R Q q)
    have ke : ∀ st d c, fe st = some (d, c) → ED X.K (lE X scope elt) st d c := fun st d c e hs ps σ H R Q q s H0 C cl fp => he s H0 C cl fp _ _ _ e hs ps σ H R Q q
    have kg : EG X.K g js fg := (hg s0 (fun _ => none) 0 [] []).eg
    refine fun hs ps σ H R Q q => hi _ _ _ h1 hs ps σ H R _ fun J H2 s2 R2 W => fun D hD => ?_
    -- one turn after another: what is still to come gives the rest of d
    have sD : Step [] H2 (upd H2 D (.lst [])) := Step.new hD
    have nD : D ∉ hs := fun m => R2.hr.trk D m hD
    have fr : ∀ a ∈ D :: hs, a ∉ hs → H2 a = none := fresh_hid hD
    have hD0 : H D = none := DL.fresh_back s2 R2.hr hD
    refine lc_it W (fun i H3 => ∃ (acc : List V) (d1 d2 : List PyData) (ci : Cs), i ≤ xs.length ∧ H3 D = some (.lst acc) ∧ DpAll X.K (hid (D :: hs) H3) acc d1 ∧ d1.length ≤ i ∧ d = d1 ++ d2 ∧ lcGo fg ft fe (wipeD st.ds (own.map (·.2))) (xs.drop i) ci = some (d2, c) ∧ GD (D :: ps) H2 H3 ∧ Rel X.K (D :: hs) ps σ H3 ⟨st.ds, ci⟩) ?_ ?_ ?_ ?_
    · exact ⟨[], [], d, c1, Nat.zero_le _, upd_same, .nil, Nat.zero_le _, rfl, h, fun a o n e => by rw [upd_ne (fun z => n (by simp [z]))]; exact e, R2.more sD hD (by rw [upd_same]; simp)⟩
    · rintro i H3 _ ⟨acc, d1, d2, ci, _, _, _, _, _, _, g3, R3⟩
      exact fun a o n e => g3 a o (fun z => by
        rcases List.mem_cons.mp z with z | z
        · rw [z, hD] at e; cases e
        · exact n (R2.hr.sub a z)) e
    · rintro i x H3 H4 hi' ⟨acc, d1, d2, ci, hile, e3, da, hl, ed, go, g3, R3⟩ ⟨s4, dx, ex, kx⟩
      have edr : xs.drop i = dx :: xs.drop (i + 1) := by
        have hlt : i < xs.length := hi'
        rw [List.drop_eq_getElem_cons hlt]
        rw [List.getElem?_eq_getElem hlt] at ex
        cases ex; rfl
      rw [edr] at go
      obtain ⟨st1, go1, go⟩ := bind_some go
      obtain ⟨⟨b, c2⟩, go2, go⟩ := bind_some go
      have R4 : Rel X.K (D :: hs) ps σ H4 ⟨st.ds, ci⟩ := R3.step s4
      have dx' : Dp X.K (hid (D :: hs) H4) x dx := kx _ fr R3.hr.trk
      refine kg (D :: hs) ps _ H4 ⟨wipeD st.ds (own.map (·.2)), ci⟩ st1 x dx (R4.wipe _) dx' go1 _ (fun σ2 R5 o5 => ?_)
      refine ⟨wipe_only o5 hj, ?_⟩
      refine kt _ _ _ go2 (D :: hs) ps σ2 H4 R5 _ fun H5 s5 R6 => ?_
      -- the cells may have changed; the new list has not
      have nps : D ∉ ps := fun m => nD (R.hr.sub D m)
      have e5 : H5 D = some (.lst acc) := s5 D _ nps (s4 D _ (by simp) e3)
      have da5 : DpAll X.K (hid (D :: hs) H5) acc d1 := da.up (((s4.mono (qs := ps) (by simp)).trans s5).hd0 R3.hr.sub)
      have g5 : GD (D :: ps) H2 H5 := fun a o n e => s5 a o (fun z => n (List.mem_cons_of_mem _ z)) (s4 a o (by simp) (g3 a o n e))
      have R5' : Rel X.K (D :: hs) ps σ H5 ⟨st.ds, c2⟩ := R4.slots (s5.hd0 R3.hr.sub) R6.hr
      cases b with
      | false =>
        rw [if_neg (by simp)] at go ⊢
        exact ⟨acc, d1, d2, c2, hi', e5, da5, by omega, ed, go, g5, R5'⟩
      | true =>
        rw [if_pos rfl] at go ⊢
        obtain ⟨⟨y, c3⟩, go3, go⟩ := bind_some go
        obtain ⟨⟨r, c4⟩, go4, er⟩ := map_some go
        cases er
        refine ke _ _ _ go3 (D :: hs) ps σ2 H5 R6 _ fun v H6 s6 R7 d7 => ?_
        have e6 : H6 D = some (.lst acc) := s6 D _ nps e5
        have hal : acc.length ≤ i := by rw [da.len]; exact hl
        refine ⟨acc, e6, Nat.lt_of_lt_of_le (Nat.lt_of_le_of_lt hal (Nat.lt_of_lt_of_le hi' hlim)) (by decide), ?_⟩
        have sB : Sub (hid (D :: hs) H6) (hid (D :: hs) (upd H6 D (.lst (acc ++ [v])))) := fun a o e => by
          obtain ⟨n, k⟩ := hid_some e
          rw [hid_out n, upd_ne (fun z => n (by simp [z]))]; exact k
        have R6' : Rel X.K (D :: hs) ps σ H6 ⟨st.ds, c3⟩ := R5'.slots (s6.hd0 R3.hr.sub) R7.hr
        refine ⟨acc ++ [v], d1 ++ [y], r, c3, hi', upd_same, ((da5.up (s6.hd0 R3.hr.sub)).app (.cons d7 .nil)).up sB, by simp; exact hl, by rw [ed]; simp, go4, fun a o n e => ?_, R6'.slots sB ⟨R6'.hr.sub, R6'.hr.nd, R6'.hr.len, fun a m => ?_, fun j p zs k1 k2 => ?_⟩⟩
        · rw [upd_ne (fun z => n (by simp [z]))]
          exact s6 a o (fun z => n (List.mem_cons_of_mem _ z)) (g5 a o n e)
        · by_cases ha : a = D
          · rw [ha, upd_same]; simp
          · rw [upd_ne ha]; exact R6'.hr.trk a m
        · obtain ⟨vs, q1, q2⟩ := R6'.hr.cel j p zs k1 k2
          have hpD : p ≠ D := fun z => nps (z ▸ List.mem_of_getElem? k1)
          exact ⟨vs, by rw [upd_ne hpD]; exact q1, q2.up sB⟩
    · rintro H3 ⟨acc, d1, d2, ci, _, e3, da, _, ed, go, g3, R3⟩
      rw [List.drop_eq_nil_of_le (Nat.le_refl _)] at go
      cases go
      rw [List.append_nil] at ed
      subst ed
      exact q D acc H3 hD0 (fun a o n e => g3 a o (fun z => by
        rcases List.mem_cons.mp z with z | z
        · rw [z, hD0] at e; cases e
        · exact n z) (s2 a o n e)) R3 e3 da
  · cases h
theorem rl_lc (hc : X.calm = true) (hN : X.N.Nodup) (hi : RI X tg iter it) (ok : BlkOk X.N X.env.scope scope own)
    (hg : ∀ (s : Shared) (H : Hp) (C : Addr) (cl : List (Str × Addr)) (fp : List Addr), RG (X.blk s H scope (compEnvC scope cl C X.env) fp) tg g js fg) (ht : ∀ (s : Shared) (H : Hp) (C : Addr) (cl : List (Str × Addr)) (fp : List Addr), RTs (X.blk s H scope (compEnvC scope cl C X.env) fp) ifs ft)
    (he : ∀ (s : Shared) (H : Hp) (C : Addr) (cl : List (Str × Addr)) (fp : List Addr), RE (X.blk s H scope (compEnvC scope cl C X.env) fp) elt fe) (hj : ∀ j ∈ js, j ∈ own.map (·.2)) (hs : ∀ x, foldedSetIterable iter X.env x = pure x := by intro _; rfl) :
    RL X (.ListComp elt [⟨tg, iter, ifs, 0⟩] scope pos) (fLc it fg ft fe (own.map (·.2))) := .mk fun st d c h =>
  fun hs' ps σ H R Q q pins s I => RL.of (pe_lc hc hN (pwI tg iter) ok (fun s H C cl fp => (hg s H C cl fp).pg) (ptL ht) peL hs) (edl_lc s hi hg ht he hj h) hs' ps σ H R Q q pins s I
end
end DL


set_option Elab.async false
set_option linter.all false
set_option maxRecDepth 100000
set_option maxHeartbeats 4000000
namespace DL
open PySem PySem.Spec L2
open PyProof.Rows hiding St

/-! ### statements -/
inductive RV where
  | dat (d : PyData) | new (xs : List PyData)
inductive Out where
  | nx (st : Sta) | rt (r : RV) (cs : Cs) | bk (st : Sta) | ct (st : Sta)
abbrev FS := Sta → Option Out
/-- since the entry of the def -/
structure Lv (hs0 ps0 : List Addr) (H0 : Hp) (hs ps : List Addr) (H : Hp) : Prop where
  pre : ∃ l, ps = ps0 ++ l
  nps : ∀ a ∈ ps, a ∉ ps0 → H0 a = none
  nhs : ∀ a ∈ hs, a ∉ hs0 → H0 a = none
  hss : ∀ a ∈ hs0, a ∈ hs
  stp : Step ps0 H0 H
theorem Lv.step {hs0 ps0 hs ps : List Addr} {H0 H H' : Hp} (L : Lv hs0 ps0 H0 hs ps H) (s : Step ps H H') : Lv hs0 ps0 H0 hs ps H' :=
  ⟨L.pre, L.nps, L.nhs, L.hss, fun a o n e => s a o (fun m => by rw [L.nps a m n] at e; cases e) (L.stp a o n e)⟩
section
variable (K : PySem.W.Frag) (n0 : Nat)
def Post (hs0 ps0 : List Addr) (H0 : Hp) (D : Ends) : Out → Prop
  | .nx st => ∀ hs ps σ H, Lv hs0 ps0 H0 hs ps H → Rel K hs ps σ H st → D.nx σ H
  | .bk st => ∀ hs ps σ H, Lv hs0 ps0 H0 hs ps H → Rel K hs ps σ H st → D.bk σ H
  | .ct st => ∀ hs ps σ H, Lv hs0 ps0 H0 hs ps H → Rel K hs ps σ H st → D.ct σ H
  | .rt (.dat d) cs => ∀ hs ps v H, Lv hs0 ps0 H0 hs ps H → HR K hs ps H cs → Dp K (hid hs H) v d → D.rt v H
  | .rt (.new xs) cs => ∀ hs ps p vs H, Lv hs0 ps0 H0 hs ps H → p ∈ hs → H0 p = none → HR K hs ps H cs → H p = some (.lst vs) → DpAll K (hid hs H) vs xs → D.rt (.ref p) H
def SD (ts : TS) (st : Sta) (o : Out) : Prop := ∀ hs0 ps0 H0, ps0.length ≤ n0 → (∀ p ∈ hs0, H0 p ≠ none) → ∀ hs ps σ H, Lv hs0 ps0 H0 hs ps H → Rel K hs ps σ H st → ∀ D : Ends, Post K hs0 ps0 H0 D o → ts D σ H
end
structure RS (X : Cx) (n0 : Nat) (s : Stmt) (f : FS) : Prop where
  h : ∀ st o, f st = some o → SD X.K n0 (wS X s) st o
instance (X : Cx) (n0 : Nat) (s : Stmt) (f : FS) : CoeFun (RS X n0 s f) (fun _ => ∀ st o, f st = some o → SD X.K n0 (wS X s) st o) := ⟨fun r => r.h⟩
structure RSs (X : Cx) (n0 : Nat) (ss : List Stmt) (f : FS) : Prop where
  h : ∀ st o, f st = some o → SD X.K n0 (wSs X ss) st o
instance (X : Cx) (n0 : Nat) (ss : List Stmt) (f : FS) : CoeFun (RSs X n0 ss f) (fun _ => ∀ st o, f st = some o → SD X.K n0 (wSs X ss) st o) := ⟨fun r => r.h⟩
section
variable {X : Cx} {n0 : Nat} {s : Stmt} {ss : List Stmt} {st : Sta} {o : Out}
theorem RS.of {t : TS} (p : PS X s t) (k : SD X.K n0 t st o) : SD X.K n0 (wS X s) st o := fun hs0 ps0 H0 h1 h2 hs ps σ H L R D q pins s I => p.run pins s σ H D I (k hs0 ps0 H0 h1 h2 hs ps σ H L R D q)
theorem RSs.of {t : TS} (p : PSs X ss t) (k : SD X.K n0 t st o) : SD X.K n0 (wSs X ss) st o := fun hs0 ps0 H0 h1 h2 hs ps σ H L R D q pins s I => p.run pins s σ H D I (k hs0 ps0 H0 h1 h2 hs ps σ H L R D q)
end
def fSkip : FS := fun st => some (.nx st)
def fSeq (a b : FS) : FS := fun st => (a st).bind fun
  | .nx st1 => b st1
  | o => some o
def fNever : FS := fun _ => none
def fRet (e : FE) : FS := fun st => (e st).map fun p => .rt (.dat p.1) p.2
def fRetL (e : FL) : FS := fun st => (e st).map fun p => .rt (.new p.1) p.2
def fRetN : FS := fun st => some (.rt (.dat .none) st.cs)
def fSet (i : Nat) (e : FE) : FS := fun st => (e st).map fun p => .nx ⟨st.ds.set i (some (.dat p.1)), p.2⟩
def fAsg (g : FG) (e : FE) : FS := fun st => (e st).bind fun p => (g ⟨st.ds, p.2⟩ p.1).map .nx
def fNew (i : Nat) (e : FL) : FS := fun st => (e st).map fun p => .nx ⟨st.ds.set i (some (.cel p.2.length)), p.2 ++ [p.1]⟩
def noCel (k : Nat) : Slots → Bool
  | [] => true
  | some (.cel j) :: r => decide (j ≠ k) && noCel k r
  | _ :: r => noCel k r
def fFrz (n0 i : Nat) (b : FS) : FS := fun st => match st.ds[i]? with
  | some (some (.cel k)) => if n0 ≤ k ∧ k + 1 = st.cs.length then (st.cs[k]?).bind fun xs => if noCel k (st.ds.set i (some (.dat (.list xs)))) = true then b ⟨st.ds.set i (some (.dat (.list xs))), st.cs.dropLast⟩ else none else none
  | _ => none
theorem take_some {α : Type} {l : List α} {n i : Nat} {x : α} (h : (l.take n)[i]? = some x) : l[i]? = some x := by
  rw [List.getElem?_take] at h
  split at h
  · exact h
  · cases h
theorem noCel_ok {k : Nat} : ∀ {ds : Slots} {i j : Nat}, noCel k ds = true → ds[i]? = some (some (.cel j)) → j ≠ k
  | [], _, _, _, e => by cases e
  | some (.cel a) :: r, 0, j, h, e => by
    have h' : (decide (a ≠ k) && noCel k r) = true := h
    rw [Bool.and_eq_true] at h'
    have e' : a = j := by simpa using e
    rw [← e']; exact of_decide_eq_true h'.1
  | some (.cel a) :: r, i + 1, j, h, e => by
    have h' : (decide (a ≠ k) && noCel k r) = true := h
    rw [Bool.and_eq_true] at h'
    exact noCel_ok (i := i) h'.2 (by simpa using e)
  | some (.dat _) :: r, 0, j, h, e => by simp at e
  | some (.fn _) :: r, 0, j, h, e => by simp at e
  | none :: r, 0, j, h, e => by simp at e
  | some (.dat _) :: r, i + 1, j, h, e => noCel_ok (ds := r) (i := i) h (by simpa using e)
  | some (.fn _) :: r, i + 1, j, h, e => noCel_ok (ds := r) (i := i) h (by simpa using e)
  | none :: r, i + 1, j, h, e => noCel_ok (ds := r) (i := i) h (by simpa using e)
def fIfS (t : FT) (a b : FS) : FS := fun st => (t st).bind fun p => if p.1 = true then a ⟨st.ds, p.2⟩ else b ⟨st.ds, p.2⟩
def fDrop (e : FE) : FS := fun st => (e st).map fun p => .nx ⟨st.ds, p.2⟩
def fPar (i j : Nat) (a : FA) : FS := fun st => (a st).bind fun p => match p.1 with
  | [.dat x, .dat y] => some (.nx ⟨(st.ds.set i (some (.dat x))).set j (some (.dat y)), p.2⟩)
  | _ => none
/-- x[k] = e, x a list of one's own: e, then k -/
def fSetc (i : Nat) (k e : FE) : FS := fun st => (e st).bind fun p => (k ⟨st.ds, p.2⟩).bind fun q => match st.ds[i]?, q.1 with
  | some (some (.cel c)), .int j => (q.2[c]?).bind fun xs => (ixN xs.length j).map fun m => .nx ⟨st.ds, q.2.set c (xs.set m p.1)⟩
  | _, _ => none
/-- x[k], y = e -/
def fSetc2 (i : Nat) (k : FE) (j : Nat) (e : FE) : FS := fun st => (e st).bind fun p => match p.1 with
  | .tuple [a, b] => (k ⟨st.ds, p.2⟩).bind fun q => match st.ds[i]?, q.1 with
    | some (some (.cel c)), .int m => (q.2[c]?).bind fun xs => (ixN xs.length m).map fun m => .nx ⟨st.ds.set j (some (.dat b)), q.2.set c (xs.set m a)⟩
    | _, _ => none
  | _ => none
def forGo (g : FG) (b : FS) : List PyData → Sta → Option Out
  | [], st => some (.nx st)
  | x :: xs, st => (g st x).bind fun st1 => (b st1).bind fun
    | .nx st2 => forGo g b xs st2
    | .ct st2 => forGo g b xs st2
    | .bk st2 => some (.nx st2)
    | .rt r c => some (.rt r c)
def fFor (it : FL) (g : FG) (b : FS) : FS := fun st => (it st).bind fun p => forGo g b p.1 ⟨st.ds, p.2⟩
def whileGo (t : FT) (b : FS) : Nat → Sta → Option Out
  | 0, _ => none
  | n + 1, st => (t st).bind fun p => if p.1 = true then (b ⟨st.ds, p.2⟩).bind fun
      | .nx st2 => whileGo t b n st2
      | .ct st2 => whileGo t b n st2
      | .bk st2 => some (.nx st2)
      | .rt r c => some (.rt r c)
    else some (.nx ⟨st.ds, p.2⟩)
def FUEL : Nat := 2 ^ 10000
def fWhile (t : FT) (b : FS) : FS := whileGo t b FUEL
section
variable {K : PySem.W.Frag} {hs ps hs0 ps0 : List Addr} {σ : St} {H H0 H2 : Hp} {st : Sta} {cs : Cs}
/-- a list of one's own is stored into -/
theorem Rel.put (R : Rel K hs ps σ H st) {c m : Nat} {p : Addr} {xs : List PyData} {vs : List V} {v : V} {d : PyData} (hp : ps[c]? = some p) (hx : st.cs[c]? = some xs) (hv : H p = some (.lst vs)) (da : DpAll K (hid hs H) vs xs) (dv : Dp K (hid hs H) v d) :
    Step ps H (upd H p (.lst (vs.set m v))) ∧ Rel K hs ps σ (upd H p (.lst (vs.set m v))) ⟨st.ds, st.cs.set c (xs.set m d)⟩ := by
  have hin := R.hr.sub p (List.mem_of_getElem? hp)
  have sb : Sub (hid hs H) (hid hs (upd H p (.lst (vs.set m v)))) := fun a o e => by
    obtain ⟨n, k⟩ := hid_some e
    rw [hid_out n, upd_ne (fun z => n (by rw [z]; exact hin))]; exact k
  refine ⟨fun a o n e => by rw [upd_ne (fun z => n (by rw [z]; exact List.mem_of_getElem? hp))]; exact e, R.slots sb ⟨R.hr.sub, R.hr.nd, by simp [R.hr.len], fun a ma => ?_, fun i q ys k1 k2 => ?_⟩⟩
  · by_cases e : a = p
    · rw [e, upd_same]; simp
    · rw [upd_ne e]; exact R.hr.trk a ma
  · by_cases e : c = i
    · subst e
      rw [hp] at k1
      cases k1
      have hl : c < st.cs.length := by
        by_cases hl : c < st.cs.length
        · exact hl
        · rw [List.getElem?_eq_none (by omega)] at hx; cases hx
      rw [List.getElem?_set_self hl] at k2
      cases k2
      exact ⟨_, upd_same, (da.set' m dv).up sb⟩
    · rw [List.getElem?_set_ne e] at k2
      obtain ⟨ws, q1, q2⟩ := R.hr.cel i q ys k1 k2
      have hne : q ≠ p := fun z => by
        subst z
        have h1 : c < ps.length := by
          by_cases hl : c < ps.length
          · exact hl
          · rw [List.getElem?_eq_none (by omega)] at hp; cases hp
        have h2 : i < ps.length := by
          by_cases hl : i < ps.length
          · exact hl
          · rw [List.getElem?_eq_none (by omega)] at k1; cases k1
        exact e ((List.getElem_inj R.hr.nd).mp (by
          rw [List.getElem?_eq_getElem h1] at hp
          rw [List.getElem?_eq_getElem h2] at k1
          rw [Option.some.inj hp, Option.some.inj k1]))
      exact ⟨ws, by rw [upd_ne hne]; exact q1, q2.up sb⟩
/-- a new list of one's own -/
theorem Rel.own (L : Lv hs0 ps0 H0 hs ps H) {p : Addr} {vs : List V} {xs : List PyData} (i : Nat) (hp : H p = none) (s : Step ps H H2) (R2 : Rel K (p :: hs) ps σ H2 ⟨st.ds, cs⟩) (e : H2 p = some (.lst vs)) (da : DpAll K (hid (p :: hs) H2) vs xs) (R : Rel K hs ps σ H st) :
    Lv hs0 ps0 H0 (p :: hs) (ps ++ [p]) H2 ∧ Rel K (p :: hs) (ps ++ [p]) (σ.set i (some (.ref p))) H2 ⟨st.ds.set i (some (.cel cs.length)), cs ++ [xs]⟩ := by
  have hp0 : H0 p = none := by
    cases q : H0 p with
    | none => rfl
    | some o =>
      by_cases m : p ∈ ps0
      · obtain ⟨l, el⟩ := L.pre
        exact absurd hp (R.hr.trk p (R.hr.sub p (by rw [el]; exact List.mem_append_left _ m)))
      · rw [L.stp p o m q] at hp; cases hp
  have npp : p ∉ ps := fun m => R.hr.trk p (R.hr.sub p m) hp
  obtain ⟨l, el⟩ := L.pre
  have L2 := L.step s
  refine ⟨⟨⟨l ++ [p], by rw [el]; simp⟩, fun a m n => ?_, fun a m n => ?_, fun a m => List.mem_cons_of_mem _ (L.hss a m), L2.stp⟩, ?_⟩
  · rcases List.mem_append.mp m with m | m
    · exact L.nps a m n
    · rw [List.mem_singleton.mp m]; exact hp0
  · rcases List.mem_cons.mp m with m | m
    · rw [m]; exact hp0
    · exact L.nhs a m n
  · have HR2 : HR K (p :: hs) (ps ++ [p]) H2 (cs ++ [xs]) := by
      refine ⟨fun a m => ?_, ?_, by simp [R2.hr.len], R2.hr.trk, fun j q ys k1 k2 => ?_⟩
      · rcases List.mem_append.mp m with m | m
        · exact R2.hr.sub a m
        · rw [List.mem_singleton.mp m]; exact List.mem_cons_self
      · rw [List.nodup_append]
        exact ⟨R2.hr.nd, by simp, fun a ma b mb => by rw [List.mem_singleton.mp mb]; exact fun z => npp (z ▸ ma)⟩
      · by_cases hj : j < ps.length
        · rw [List.getElem?_append_left hj] at k1
          rw [List.getElem?_append_left (by rw [← R2.hr.len]; exact hj)] at k2
          exact R2.hr.cel j q ys k1 k2
        · rw [List.getElem?_append_right (by omega)] at k1
          rw [List.getElem?_append_right (by rw [← R2.hr.len]; omega)] at k2
          have hj2 : j = ps.length := by
            by_cases z : j - ps.length = 0
            · omega
            · rw [List.getElem?_eq_none (by simp; omega)] at k1; cases k1
          subst hj2
          rw [Nat.sub_self] at k1
          rw [← R2.hr.len, Nat.sub_self] at k2
          cases k1
          cases k2
          exact ⟨vs, e, da⟩
    have R3 : Rel K (p :: hs) (ps ++ [p]) σ H2 ⟨st.ds, cs ++ [xs]⟩ := ⟨HR2, R2.len, fun j x ex => by
      obtain ⟨v, h1, h2⟩ := R2.slot j x ex
      refine ⟨v, h1, ?_⟩
      cases x with
      | dat d => exact h2
      | fn y => exact h2
      | cel c =>
        obtain ⟨q, h3, h4⟩ := h2
        refine ⟨q, ?_, h4⟩
        rw [List.getElem?_append_left (by
          by_cases hl : c < ps.length
          · exact hl
          · rw [List.getElem?_eq_none (by omega)] at h3; cases h3)]
        exact h3⟩
    exact R3.set i (x := .cel cs.length) ⟨p, by rw [← R2.hr.len]; simp, rfl⟩
end
section
variable {X : Cx} {n0 : Nat} {s : Stmt} {ss : List Stmt} {e a b : Expr} {pos : Pos} {f g : FS} {fe fk : FE} {fl : FL} {ft : FT} {fa : FA}
theorem rss_nil : RSs X n0 [] fSkip := .mk fun st o h => by
  cases h
  exact RSs.of pss_nil fun hs0 ps0 H0 _ _ hs ps σ H L R D q => q hs ps σ H L R
theorem rss_cons (h1 : RS X n0 s f) (h2 : RSs X n0 ss g) : RSs X n0 (s :: ss) (fSeq f g) := .mk fun st o h => by
  obtain ⟨o1, e1, h⟩ := bind_some h
  refine RSs.of (pss_cons (pwS s) (pwSs ss)) fun hs0 ps0 H0 i1 i2 hs ps σ H L R D q => h1 _ _ e1 hs0 ps0 H0 i1 i2 hs ps σ H L R _ ?_
  cases o1 with
  | nx st1 => exact fun hs' ps' σ' H' L' R' => h2 _ _ h hs0 ps0 H0 i1 i2 hs' ps' σ' H' L' R' D q
  | bk st1 => cases h; exact q
  | ct st1 => cases h; exact q
  | rt r c =>
    cases h
    cases r <;> exact q
theorem rss_one (h1 : RS X n0 s f) : RSs X n0 [s] f := .mk fun st o h => RSs.of (pss_one (pwS s)) (h1 st o h)
/-- from here on a list of one's own is plain data -/
theorem rss_frz {i : Nat} (h1 : RSs X n0 ss f) : RSs X n0 ss (fFrz n0 i f) := .mk fun st o h => by
  unfold fFrz at h
  split at h
  · rename_i k e0
    split at h
    · rename_i hk
      obtain ⟨xs, ex, h⟩ := bind_some h
      split at h
      case isFalse => cases h
      rename_i hno
      intro hs0 ps0 H0 i1 i2 hs ps σ H L R D q
      obtain ⟨v, hv, p, hp, rfl⟩ := R.slot i _ e0
      obtain ⟨vs, q1, q2⟩ := R.hr.cel k p xs hp ex
      obtain ⟨l, el⟩ := L.pre
      have hlen := R.hr.len
      have hpl : ps = ps.dropLast ++ [p] := by
        have hne : ps ≠ [] := fun z => by rw [z] at hp; simp at hp
        have hlast : ps.getLast hne = p := by
          rw [List.getLast_eq_getElem]
          have hk2 : k < ps.length := by omega
          rw [List.getElem?_eq_getElem hk2] at hp
          have ek : ps.length - 1 = k := by omega
          simp only [ek]
          exact Option.some.inj hp
        rw [← hlast]
        exact (List.dropLast_concat_getLast hne).symm
      have npd : p ∉ ps.dropLast := fun m => by
        have nd := R.hr.nd
        rw [hpl, List.nodup_append] at nd
        exact nd.2.2 p m p (by simp) rfl
      have hp0 : p ∉ ps0 := fun m => by
        have hl0 : ps0.length ≤ ps.dropLast.length := by rw [List.length_dropLast]; omega
        have e2 : ps0 = ps.dropLast.take ps0.length := by
          have : ps.dropLast.take ps0.length = ps.take ps0.length := by
            rw [List.dropLast_eq_take, List.take_take, Nat.min_eq_left (by rw [List.length_dropLast] at hl0; exact hl0)]
          rw [this, el, List.take_left]
        rw [e2] at m
        exact npd (List.mem_of_mem_take m)
      let hs' := hs.filter (fun a => decide (a ≠ p))
      have hsub : ∀ a ∈ hs', a ∈ hs := fun a m => (List.mem_filter.mp m).1
      have hnp : p ∉ hs' := fun m => by simpa using (List.mem_filter.mp m).2
      have sb : Sub (hid hs H) (hid hs' H) := fun a o e => by
        obtain ⟨n, k⟩ := hid_some e
        rw [hid_out fun m => n (hsub a m)]; exact k
      have hps : ∀ a ∈ ps.dropLast, a ∈ hs' := fun a m => List.mem_filter.mpr ⟨R.hr.sub a (List.dropLast_subset _ m), by simpa using fun z : a = p => npd (z ▸ m)⟩
      have L' : Lv hs0 ps0 H0 hs' ps.dropLast H := by
        refine ⟨⟨l.dropLast, ?_⟩, fun a m n => L.nps a (List.dropLast_subset _ m) n, fun a m n => L.nhs a (hsub a m) n, fun a m => List.mem_filter.mpr ⟨L.hss a m, ?_⟩, L.stp⟩
        · have hl : l ≠ [] := fun z => by
            rw [z, List.append_nil] at el
            exact hp0 (by rw [← el]; exact List.mem_of_getElem? hp)
          rw [el, List.dropLast_append_of_ne_nil hl]
        · have h0 : H0 p = none := L.nps p (List.mem_of_getElem? hp) hp0
          simpa using fun z : a = p => i2 a m (by rw [z]; exact h0)
      have ndl : ps.dropLast.Nodup := R.hr.nd.sublist (List.dropLast_sublist _)
      have getd : ∀ {c : Nat} {q : Addr}, c ≠ k → ps[c]? = some q → ps.dropLast[c]? = some q := fun {c q} hc e => by
        have hl : c < ps.length := by
          by_cases hl : c < ps.length
          · exact hl
          · rw [List.getElem?_eq_none (by omega)] at e; cases e
        rw [List.dropLast_eq_take, List.getElem?_take_of_lt (by omega)]
        exact e
      have R' : Rel X.K hs' ps.dropLast σ H ⟨st.ds.set i (some (.dat (.list xs))), st.cs.dropLast⟩ := by
        refine ⟨⟨hps, ndl, by simp [hlen], fun a m => R.hr.trk a (hsub a m), fun j q ys k1 k2 => ?_⟩, by simp [R.len], fun j x ej => ?_⟩
        · have k1' : ps[j]? = some q := by
            rw [List.dropLast_eq_take] at k1
            exact take_some k1
          have k2' : st.cs[j]? = some ys := by
            rw [List.dropLast_eq_take] at k2
            exact take_some k2
          obtain ⟨ws, q3, q4⟩ := R.hr.cel j q ys k1' k2'
          exact ⟨ws, q3, q4.up sb⟩
        · by_cases hj : i = j
          · subst hj
            have hl : i < st.ds.length := by
              by_cases hl : i < st.ds.length
              · exact hl
              · rw [List.getElem?_eq_none (by omega)] at e0; cases e0
            rw [List.getElem?_set_self hl] at ej
            cases ej
            exact ⟨_, hv, .lst (.inl (.inl (by rw [hid_out hnp]; exact q1))) (q2.up sb)⟩
          · have ej' := ej
            rw [List.getElem?_set_ne hj] at ej
            obtain ⟨w, w1, w2⟩ := R.slot j x ej
            refine ⟨w, w1, ?_⟩
            cases x with
            | dat d => exact Dp.up w2 sb
            | fn y => exact w2
            | cel c =>
              obtain ⟨q, w3, w4⟩ := w2
              exact ⟨q, getd (noCel_ok hno ej') w3, w4⟩
      exact h1 _ _ h hs0 ps0 H0 i1 i2 hs' ps.dropLast σ H L' R' D q
    · cases h
  · cases h
theorem rs_never : RS X n0 s fNever := .mk fun st o h => by cases h
theorem rs_ret (h : RE X e fe) : RS X n0 (.Return (some e) pos) (fRet fe) := .mk fun st o hq => by
  obtain ⟨⟨d, c⟩, h1, rfl⟩ := map_some hq
  exact RS.of (ps_ret (pwE e)) fun hs0 ps0 H0 _ _ hs ps σ H L R D q => h _ _ _ h1 hs ps σ H R _ fun v H2 s2 R2 d2 => q hs ps v H2 (L.step s2) R2.hr d2
theorem rs_retL (h : RL X e fl) : RS X n0 (.Return (some e) pos) (fRetL fl) := .mk fun st o hq => by
  obtain ⟨⟨d, c⟩, h1, rfl⟩ := map_some hq
  exact RS.of (ps_ret (pwE e)) fun hs0 ps0 H0 i1 i2 hs ps σ H L R D q => h _ _ _ h1 hs ps σ H R _ fun p vs H2 hp s2 R2 e2 d2 => by
    obtain ⟨L2, R3⟩ := Rel.own L 0 hp s2 R2 e2 d2 R
    exact q (p :: hs) ps p vs H2 ⟨L.pre, L.nps, L2.nhs, L2.hss, L2.stp⟩ List.mem_cons_self (L2.nhs p List.mem_cons_self fun m => R.hr.trk p (L.hss p m) hp) R2.hr e2 d2
theorem rs_asg {tg : Expr} {t : TG} {js : List Nat} {fg : FG} (h : RE X e fe) (hg : RG X tg t js fg) (hs : swapsWithSole [tg] e pos.line X.env = pure false := by rfl) (hw : swappedStores [tg] e X.env = pure none := by rfl)
    (h1 : (assignEach [tg] X.env).map (·.2) = [assign tg X.env] := by rfl) : RS X n0 (.Assign [tg] e pos) (fAsg fg fe) := .mk fun st o hq => by
  obtain ⟨⟨d, c⟩, e1, hq⟩ := bind_some hq
  obtain ⟨st1, e2, rfl⟩ := map_some hq
  exact RS.of (ps_asg (pwE e) hg.pg hs hw h1) fun hs0 ps0 H0 i1 i2 hs ps σ H L R D q => h _ _ _ e1 hs ps σ H R _ fun v H2 s2 R2 d2 => hg.eg hs ps σ H2 _ _ v d R2 d2 e2 _ fun σ' R3 _ => q hs ps σ' H2 (L.step s2) R3
theorem rs_set {i : Nat} {x : Str} {pos' : Pos} (hN : X.N.Nodup) (hi : X.N[i]? = some x) (hx : Loc X.env.scope x) (h : RE X e fe) (hs : swapsWith e (some (.Name x pos')) pos.line X.env = pure false := by rfl) (hf : X.fn x = true ∨ X.env.scope.names.lookup x = some .local := by first | exact .inl rfl | exact .inr rfl | assumption) :
    RS X n0 (.Assign [.Name x pos'] e pos) (fSet i fe) := .mk fun st o hq => by
  obtain ⟨⟨d, c⟩, e1, rfl⟩ := map_some hq
  exact RS.of (ps_set hN hi hx (pwE e) hs hf) fun hs0 ps0 H0 i1 i2 hs ps σ H L R D q => h _ _ _ e1 hs ps σ H R _ fun v H2 s2 R2 d2 => q hs ps _ H2 (L.step s2) (R2.set i (x := .dat d) d2)
/-- x = a new list, a list of one's own -/
theorem rs_new {i : Nat} {x : Str} {pos' : Pos} (hN : X.N.Nodup) (hi : X.N[i]? = some x) (hx : Loc X.env.scope x) (h : RL X e fl) (hs : swapsWith e (some (.Name x pos')) pos.line X.env = pure false := by rfl) (hf : X.fn x = true ∨ X.env.scope.names.lookup x = some .local := by first | exact .inl rfl | exact .inr rfl | assumption) :
    RS X n0 (.Assign [.Name x pos'] e pos) (fNew i fl) := .mk fun st o hq => by
  obtain ⟨⟨d, c⟩, e1, rfl⟩ := map_some hq
  exact RS.of (ps_set hN hi hx (pwE e) hs hf) fun hs0 ps0 H0 i1 i2 hs ps σ H L R D q => h _ _ _ e1 hs ps σ H R _ fun p vs H2 hp s2 R2 e2 d2 => by
    obtain ⟨L2, R3⟩ := Rel.own L i hp s2 R2 e2 d2 R
    exact q _ _ _ H2 L2 R3
theorem rs_if {cc : Expr} {u v : List Stmt} (hc : RT X cc ft) (h1 : RSs X n0 u f) (h2 : RSs X n0 v g) : RS X n0 (.If cc u v pos) (fIfS ft f g) := .mk fun st o hq => by
  obtain ⟨⟨b, c⟩, e1, hq⟩ := bind_some hq
  refine RS.of (ps_if (pwT cc) (pwSs u) (pwSs v)) fun hs0 ps0 H0 i1 i2 hs ps σ H L R D q => hc _ _ _ e1 hs ps σ H R _ fun H2 s2 R2 => ?_
  cases b with
  | true =>
    rw [if_pos rfl] at hq ⊢
    exact h1 _ _ hq hs0 ps0 H0 i1 i2 hs ps σ H2 (L.step s2) R2 D q
  | false =>
    rw [if_neg (by simp)] at hq ⊢
    exact h2 _ _ hq hs0 ps0 H0 i1 i2 hs ps σ H2 (L.step s2) R2 D q
theorem rs_drop (h : RE X e fe) (hs : swapsWith e none pos.line X.env = pure false := by rfl) : RS X n0 (.Expr e pos) (fDrop fe) := .mk fun st o hq => by
  obtain ⟨⟨d, c⟩, e1, rfl⟩ := map_some hq
  exact RS.of (ps_expr (pwE e) hs) fun hs0 ps0 H0 i1 i2 hs ps σ H L R D q => h _ _ _ e1 hs ps σ H R _ fun v H2 s2 R2 d2 => q hs ps σ H2 (L.step s2) R2
theorem rs_par {i j : Nat} {x y : Str} {px py pt : Pos} {kt k2 pt2} (hc : X.calm = true) (hN : X.N.Nodup) (hi : X.N[i]? = some x) (hj : X.N[j]? = some y) (hij : i ≠ j) (hx : X.env.scope.names.lookup x = some .local) (hy : X.env.scope.names.lookup y = some .local) (ha : RA X [a, b] fa)
    {P : PS X (.Assign [.Tuple [.Name x px, .Name y py] kt pt] (.Tuple [a, b] k2 pt2) pos) (tPar i j (wA X [a, b]))} : RS X n0 (.Assign [.Tuple [.Name x px, .Name y py] kt pt] (.Tuple [a, b] k2 pt2) pos) (fPar i j fa) := .mk fun st o hq => by
  obtain ⟨⟨xs, c⟩, e1, hq⟩ := bind_some hq
  simp only at hq
  split at hq
  · cases hq
    refine RS.of P fun hs0 ps0 H0 i1 i2 hs ps σ H L R D q => ha _ _ _ e1 hs ps σ H R _ fun vs H2 s2 R2 p2 => ?_
    obtain ⟨v, w, rfl, d1, d2⟩ := dpa2 (paired_dat (ds := [_, _]) p2)
    exact ⟨v, w, rfl, q hs ps _ H2 (L.step s2) ((R2.set i (x := .dat _) d1).set j (x := .dat _) d2)⟩
  · cases hq
theorem rs_setc {i : Nat} {x : Str} {k : Expr} {p1 p2 : Pos} (hN : X.N[i]? = some x) (hv : Vis X.env.scope x) (hk : RE X k fk) (h : RE X e fe) (hd : (x == ("__debug__" : Str)) = false := by decide) (hcd : (x == ("__classdict__" : Str)) = false := by decide)
    (ha : ∀ v, assign (.Subscript (.Name x p1) k p2) X.env v = (do
      let ov ← holding [v] (eval (.Name x p1) X.env)
      let iv ← holding [v, ov] (eval k X.env)
      standAt p2
      holding [v, ov, iv] (setItem ov iv v)
      release [v, ov, iv] []) := by intro _; rfl) (hs : swapsWithSole [.Subscript (.Name x p1) k p2] e pos.line X.env = pure false := by rfl) (hw : swappedStores [.Subscript (.Name x p1) k p2] e X.env = pure none := by rfl)
    (h1 : (assignEach [.Subscript (.Name x p1) k p2] X.env).map (·.2) = [assign (.Subscript (.Name x p1) k p2) X.env] := by rfl) : RS X n0 (.Assign [.Subscript (.Name x p1) k p2] e pos) (fSetc i fk fe) := .mk fun st o hq => by
  obtain ⟨⟨d, c⟩, e1, hq⟩ := bind_some hq
  obtain ⟨⟨m, c2⟩, e2, hq⟩ := bind_some hq
  simp only at hq
  split at hq
  · rename_i c0 j es
    obtain ⟨xs, ex, hq⟩ := bind_some hq
    obtain ⟨m, em, rfl⟩ := map_some hq
    refine RS.of (ps_asg (pwE e) (pg_sub (pe_var hN hv hd hcd) (pwE k) set_list ha) hs hw h1) fun hs0 ps0 H0 i1 i2 hs ps σ H L R D q => h _ _ _ e1 hs ps σ H R _ fun v H2 s2 R2 d2 => ?_
    obtain ⟨w, w1, p, w2, rfl⟩ := R2.slot i _ es
    refine ⟨_, w1, hk _ _ _ e2 hs ps σ H2 R2 _ fun u H3 s3 R3 d3 => ?_⟩
    cases dp_int d3
    obtain ⟨vs, q1, q2⟩ := R3.hr.cel c0 p xs w2 ex
    have dv := d2.up (s3.hd0 R2.hr.sub)
    obtain ⟨s4, R4⟩ := R3.put (m := m) w2 ex q1 q2 dv
    exact ⟨p, vs, j, m, rfl, rfl, q1, by rw [q2.len]; exact em, q hs ps σ _ (((L.step s2).step s3).step s4) R4⟩
  · cases hq
theorem rs_setc2 {i j : Nat} {x y : Str} {k : Expr} {p1 p2 p3 p4 : Pos} {kt} (hc : X.calm = true) (hNd : X.N.Nodup) (hN : X.N[i]? = some x) (hv : Vis X.env.scope x) (hj : X.N[j]? = some y) (hy : Loc X.env.scope y) (hij : i ≠ j) (hk : RE X k fk) (h : RE X e fe) (hd : (x == ("__debug__" : Str)) = false := by decide) (hcd : (x == ("__classdict__" : Str)) = false := by decide)
    (ha : ∀ v, assign (.Subscript (.Name x p1) k p2) X.env v = (do
      let ov ← holding [v] (eval (.Name x p1) X.env)
      let iv ← holding [v, ov] (eval k X.env)
      standAt p2
      holding [v, ov, iv] (setItem ov iv v)
      release [v, ov, iv] []) := by intro _; rfl) (hf : X.fn y = true ∨ X.env.scope.names.lookup y = some .local := by first | exact .inl rfl | exact .inr rfl | assumption)
    {P : ∀ t : TE, PE X e t → PS X (.Assign [.Tuple [.Subscript (.Name x p1) k p2, .Name y p3] kt p4] e pos) (tAsg t (gTup X.K 2 (gCons (L2.gSub (tVar i) (wE X k) rSetL) (gCons (gName j) gNil))))} :
    RS X n0 (.Assign [.Tuple [.Subscript (.Name x p1) k p2, .Name y p3] kt p4] e pos) (fSetc2 i fk j fe) := .mk fun st o hq => by
  obtain ⟨⟨d, c⟩, e1, hq⟩ := bind_some hq
  simp only at hq
  split at hq
  · rename_i a0 b0
    obtain ⟨⟨m, c2⟩, e2, hq⟩ := bind_some hq
    simp only at hq
    split at hq
    · rename_i c0 m0 es
      obtain ⟨xs, ex, hq⟩ := bind_some hq
      obtain ⟨m, em, rfl⟩ := map_some hq
      refine RS.of (P _ (pwE e)) fun hs0 ps0 H0 i1 i2 hs ps σ H L R D q => h _ _ _ e1 hs ps σ H R _ fun v H2 s2 R2 d2 => ?_
      obtain ⟨tp, ws, rfl, ht, da⟩ := dp_tuple d2
      obtain ⟨va, vb, rfl, da1, da2⟩ := dpa2 da
      refine ⟨tp, _, rfl, sqT_mono hid_sub ht, rfl, va, [vb], rfl, ?_⟩
      obtain ⟨w, w1, p, w2, rfl⟩ := R2.slot i _ es
      refine ⟨_, w1, hk _ _ _ e2 hs ps σ H2 R2 _ fun u H3 s3 R3 d3 => ?_⟩
      cases dp_int d3
      obtain ⟨vs, q1, q2⟩ := R3.hr.cel c0 p xs w2 ex
      have sb := s3.hd0 R2.hr.sub
      obtain ⟨s4, R4⟩ := R3.put (m := m) w2 ex q1 q2 (da1.up sb)
      refine ⟨p, vs, m0, m, rfl, rfl, q1, by rw [q2.len]; exact em, vb, [], rfl, rfl, ?_⟩
      exact q hs ps _ _ (((L.step s2).step s3).step s4) (R4.set j (x := .dat b0) ((da2.up sb).up (s4.hd0 R3.hr.sub)))
    · cases hq
  · cases hq
/-! loops -/
theorem lv_trans {hs0 ps0 hs ps hs' ps' : List Addr} {H0 H2 H' : Hp} (L : Lv hs0 ps0 H0 hs ps H2) (M : Lv hs ps H2 hs' ps' H') (sub : ∀ p ∈ ps, p ∈ hs) : Lv hs0 ps0 H0 hs' ps' H' := by
  have back : ∀ a, a ∉ ps0 → H2 a = none → H0 a = none := fun a n e => by
    cases q : H0 a with
    | none => rfl
    | some o => rw [L.stp a o n q] at e; cases e
  obtain ⟨l, el⟩ := L.pre
  obtain ⟨l', el'⟩ := M.pre
  refine ⟨⟨l ++ l', by rw [el', el]; simp⟩, fun a m n => ?_, fun a m n => ?_, fun a m => M.hss a (L.hss a m), fun a o n e => ?_⟩
  · by_cases h : a ∈ ps
    · exact L.nps a h n
    · exact back a n (M.nps a m h)
  · by_cases h : a ∈ hs
    · exact L.nhs a h n
    · exact back a (fun h0 => h (sub a (by rw [el]; exact List.mem_append_left _ h0))) (M.nhs a m h)
  · refine M.stp a o (fun m => ?_) (L.stp a o n e)
    rw [L.nps a m n] at e; cases e
theorem lv_refl {hs ps : List Addr} {H : Hp} : Lv hs ps H hs ps H := ⟨⟨[], by simp⟩, fun _ m n => absurd m n, fun _ m n => absurd m n, fun _ m => m, Step.refl _⟩
/-- what is wanted, from a later base -/
theorem post_back {K : PySem.W.Frag} {hs0 ps0 hs ps : List Addr} {H0 H2 : Hp} {D : Ends} {r : RV} {c : Cs} (L : Lv hs0 ps0 H0 hs ps H2) (sub : ∀ p ∈ ps, p ∈ hs) (trk : ∀ a ∈ hs, H2 a ≠ none) (q : Post K hs0 ps0 H0 D (.rt r c)) (D' : Ends) (e : D'.rt = D.rt) : Post K hs ps H2 D' (.rt r c) := by
  cases r with
  | dat d => exact fun hs' ps' v H M R d => by rw [e]; exact q hs' ps' v H (lv_trans L M sub) R d
  | new xs =>
    exact fun hs' ps' p vs H M m n R e' d => by
      rw [e]
      refine q hs' ps' p vs H (lv_trans L M sub) m ?_ R e' d
      cases h : H0 p with
      | none => rfl
      | some o =>
        by_cases h2 : p ∈ ps0
        · obtain ⟨l, el⟩ := L.pre
          exact absurd n (trk p (sub p (by rw [el]; exact List.mem_append_left _ h2)))
        · rw [L.stp p o h2 h] at n; cases n
theorem lv_gd {hs ps hs' ps' : List Addr} {H2 H' : Hp} (M : Lv hs ps H2 hs' ps' H') (sub : ∀ p ∈ ps, p ∈ hs) : GD hs H2 H' := fun a o n e => M.stp a o (fun m => n (sub a m)) e
theorem rs_for {tg iter : Expr} {body : List Stmt} {t : TG} {js : List Nat} {fg : FG} {it : FL} (hp : PassesOwn (model X.prog X.w) X.A X.env X.xe) (hc : X.calm = true) (hi : RI X tg iter it) (hg : RG X tg t js fg) (hb : ∀ n, RSs X n body f)
    (hs : ∀ x, foldedSetIterable iter X.env x = pure x := by intro _; rfl) : RS X n0 (.For tg iter body [] pos) (fFor it fg f) := .mk fun st o hq => by
  obtain ⟨⟨xs, c⟩, e1, hq⟩ := bind_some hq
  refine RS.of (ps_for hp hc (pwI tg iter) hg.pg (pwSs body) hs) fun hs0 ps0 H0 i1 i2 hs ps σ H L R D q => hi _ _ _ e1 hs ps σ H R _ fun J H2 s2 R2 W => ?_
  have L2 := L.step s2
  have sub := R2.hr.sub
  have trk := R2.hr.trk
  refine ⟨fun i m σ3 H3 => m = xs.length - i ∧ i ≤ xs.length ∧ ∃ hs3 ps3 st3, Lv hs ps H2 hs3 ps3 H3 ∧ Rel X.K hs3 ps3 σ3 H3 st3 ∧ forGo fg f (xs.drop i) st3 = some o, ⟨xs.length, by simp, Nat.zero_le _, hs, ps, _, lv_refl, R2, hq⟩, ?_⟩
  rintro i m σ3 H3 ⟨rfl, hi', hs3, ps3, st3, M3, R3, go⟩
  have g3 := lv_gd M3 sub
  by_cases hlt : i < xs.length
  · refine .inr ⟨W.goes i H3 hlt g3, fun σ4 H4 => ∃ hs3 ps3 st3, Lv hs ps H2 hs3 ps3 H4 ∧ Rel X.K hs3 ps3 σ4 H4 st3 ∧ forGo fg f (xs.drop (i + 1)) st3 = some o, fun σ4 H4 h4 => ⟨xs.length - (i + 1), by omega, rfl, hlt, h4⟩, fun x H4 y4 => ?_⟩
    obtain ⟨s4, dx, ex, kx⟩ := W.yields i H3 x H4 hlt g3 y4
    have edr : xs.drop i = dx :: xs.drop (i + 1) := by
      rw [List.drop_eq_getElem_cons hlt]
      rw [List.getElem?_eq_getElem hlt] at ex
      cases ex; rfl
    rw [edr] at go
    obtain ⟨st1, go1, go⟩ := bind_some go
    obtain ⟨o1, go2, go⟩ := bind_some go
    have R4 := R3.step s4
    have M4 := M3.step (s4.mono (qs := ps3) (by simp))
    refine hg.eg hs3 ps3 σ3 H4 st3 st1 x dx R4 (kx hs3 M3.nhs R3.hr.trk) go1 _ fun σ5 R5 _ => ?_
    refine hb ps.length _ _ go2 hs ps H2 (Nat.le_refl _) trk hs3 ps3 σ5 H4 M4 R5 _ ?_
    cases o1 with
    | nx st2 => exact fun hs' ps' σ' H' M' R' => ⟨hs', ps', st2, M', R', go⟩
    | ct st2 => exact fun hs' ps' σ' H' M' R' => ⟨hs', ps', st2, M', R', go⟩
    | bk st2 =>
      cases go
      exact fun hs' ps' σ' H' M' R' => q hs' ps' σ' H' (lv_trans L2 M' sub) R'
    | rt r c =>
      cases go
      exact post_back L2 sub trk q _ rfl
  · have ei : i = xs.length := by omega
    subst ei
    rw [List.drop_eq_nil_of_le (Nat.le_refl _)] at go
    cases go
    exact .inl ⟨W.stops H3 g3, q hs3 ps3 σ3 H3 (lv_trans L2 M3 sub) R3⟩
theorem rs_while {cc : Expr} {body : List Stmt} (hp : PassesOwn (model X.prog X.w) X.A X.env X.xe) (hc : RT X cc ft) (hb : ∀ n, RSs X n body f) : RS X n0 (.While cc body [] pos) (fWhile ft f) := .mk fun st o hq => by
  refine RS.of (ps_while hp (pwT cc) (pwSs body)) fun hs0 ps0 H0 i1 i2 hs ps σ H L R D q => ?_
  have sub := R.hr.sub
  have trk := R.hr.trk
  refine ⟨fun m σ3 H3 => ∃ hs3 ps3 st3, Lv hs ps H hs3 ps3 H3 ∧ Rel X.K hs3 ps3 σ3 H3 st3 ∧ whileGo ft f m st3 = some o, ⟨FUEL, hs, ps, st, lv_refl, R, hq⟩, ?_⟩
  rintro m σ3 H3 ⟨hs3, ps3, st3, M3, R3, go⟩
  cases m with
  | zero => cases go
  | succ n =>
    obtain ⟨⟨b, c⟩, go1, go⟩ := bind_some (show (ft st3).bind _ = some o from go)
    refine hc _ _ _ go1 hs3 ps3 σ3 H3 R3 _ fun H4 s4 R4 => ?_
    have M4 := M3.step s4
    cases b with
    | false =>
      rw [if_neg (by simp)] at go ⊢
      cases go
      exact q hs3 ps3 σ3 H4 (lv_trans L M4 sub) R4
    | true =>
      rw [if_pos rfl] at go ⊢
      obtain ⟨o1, go2, go⟩ := bind_some go
      refine ⟨fun σ4 H4 => ∃ hs3 ps3 st3, Lv hs ps H hs3 ps3 H4 ∧ Rel X.K hs3 ps3 σ4 H4 st3 ∧ whileGo ft f n st3 = some o, fun σ4 H4 h4 => ⟨n, Nat.lt_succ_self n, h4⟩, ?_⟩
      refine hb ps.length _ _ go2 hs ps H (Nat.le_refl _) trk hs3 ps3 σ3 H4 M4 R4 _ ?_
      cases o1 with
      | nx st2 => exact fun hs' ps' σ' H' M' R' => ⟨hs', ps', st2, M', R', go⟩
      | ct st2 => exact fun hs' ps' σ' H' M' R' => ⟨hs', ps', st2, M', R', go⟩
      | bk st2 =>
        cases go
        exact fun hs' ps' σ' H' M' R' => q hs' ps' σ' H' (lv_trans L M' sub) R'
      | rt r c =>
        cases go
        exact post_back L sub trk q _ rfl
/-! x = [..] on one line -/
section
variable {elt tg iter : Expr} {ifs : List Expr} {scope : Scope} {own : List (Str × Nat)} {spos : Pos} {t : TG} {it : FL} {fg : FG} {js : List Nat}
end
end
end DL


set_option Elab.async false
set_option linter.all false
set_option maxRecDepth 100000
set_option maxHeartbeats 4000000
namespace DL
open PySem PySem.Spec L2
open PyProof.Rows hiding St

/-! ### defs -/
abbrev FnS := List SV → Cs → Option (RV × Cs)
def RetOk (K : PySem.W.Frag) (hs ps : List Addr) (H : Hp) (c : Cs) (r : RV) (Q : VK) : Prop :=
  match r with
  | .dat d => ∀ v H2, Step ps H H2 → HR K hs ps H2 c → Dp K (hid hs H2) v d → Q v H2
  | .new l => ∀ p vs H2, H p = none → Step ps H H2 → HR K (p :: hs) ps H2 c → H2 p = some (.lst vs) → DpAll K (hid (p :: hs) H2) vs l → Q (.ref p) H2
/-- the def at f computes F, by at most level k -/
structure FnG (P : Program) (w : World) (K : PySem.W.Frag) (mg : Str → Option Value) (base : Heap) (k : Nat) (f : Addr) (fd : FuncData) (ns : List Str) (F : FnS) : Prop where
  len : ∀ xs cs r c, F xs cs = some (r, c) → xs.length = ns.length
  run : ∀ (A : Around) (outer : List Env) (s : Shared) (H : Hp) (args : Args) (us : List Value) (vs : List V) (hs ps : List Addr) (cs c : Cs) (xs : List SV) (r : RV) (Q : VK), A.guards = some [] → Room k A → Env0 P w K mg base A outer s H → BindsTo s fd args (ns.zip us) → Vals vs us →
    HR K hs ps H cs → Paired (RelS K hs ps H) vs xs → F xs cs = some (r, c) → RetOk K hs ps H c r Q → codeAny (model P w) A (.call (.ref f) args) (CR CX0 outer P w H s Q E0) s
theorem FnG.mono {P : Program} {w : World} {K : PySem.W.Frag} {mg : Str → Option Value} {base : Heap} {j k : Nat} {f : Addr} {fd : FuncData} {ns : List Str} {F : FnS} (h : FnG P w K mg base j f fd ns F) (hj : j ≤ k) : FnG P w K mg base k f fd ns F :=
  ⟨h.len, fun A outer s H args us vs hs ps cs c xs r Q g hr => h.run A outer s H args us vs hs ps cs c xs r Q g (hr.mono hj)⟩
/-- what a body computes -/
def mkF (np N n0 : Nat) (body : FS) : FnS := fun xs cs => if xs.length = np ∧ cs.length = n0 then
    match body ⟨xs.map some ++ List.replicate (N - np) none, cs⟩ with
    | some (.rt r c) => some (r, c.take n0)
    | some (.nx st) => some (.dat .none, st.cs.take n0)
    | _ => none
  else none
theorem HR.take {K : PySem.W.Frag} {hs hs' ps l : List Addr} {H : Hp} {c : Cs} (R : HR K hs' (ps ++ l) H c) (h : ∀ a ∈ hs, a ∈ hs') (hp : ∀ p ∈ ps, p ∈ hs) : HR K hs ps H (c.take ps.length) := by
  have sb : Sub (hid hs' H) (hid hs H) := fun a o e => by
    obtain ⟨n, k⟩ := hid_some e
    rw [hid_out fun m => n (h a m)]; exact k
  have hl := R.len
  rw [List.length_append] at hl
  refine ⟨hp, (List.nodup_append.mp R.nd).1, by rw [List.length_take]; omega, fun a m => R.trk a (h a m), fun i p xs h1 h2 => ?_⟩
  have hi : i < ps.length := by
    by_cases hi : i < ps.length
    · exact hi
    · rw [List.getElem?_eq_none (by omega)] at h1; cases h1
  obtain ⟨vs, q1, q2⟩ := R.cel i p xs (by rw [List.getElem?_append_left hi]; exact h1) (take_some h2)
  exact ⟨vs, q1, q2.up sb⟩
theorem rel_start {K : PySem.W.Frag} {hs ps : List Addr} {H : Hp} {cs : Cs} {N : List Str} : ∀ {vs : List V} {xs : List SV}, HR K hs ps H cs → Paired (RelS K hs ps H) vs xs → Rel K hs ps (L2.start N vs) H ⟨xs.map some ++ List.replicate (N.length - xs.length) none, cs⟩ := fun {vs xs} h p => by
  have hl : vs.length = xs.length := Paired.length p
  refine ⟨h, ?_, fun i x e => ?_⟩
  · unfold L2.start
    simp [hl]
  · by_cases hi : i < xs.length
    · rw [List.getElem?_append_left (by simpa using hi), List.getElem?_map] at e
      obtain ⟨y, e1, e2⟩ := Option.map_eq_some_iff.mp e
      cases e2
      have go : ∀ {vs : List V} {xs : List SV} {i : Nat}, Paired (RelS K hs ps H) vs xs → xs[i]? = some x → ∃ v, vs[i]? = some v ∧ RelS K hs ps H v x := by
        intro vs xs i p
        induction p generalizing i with
        | nil => intro e; cases e
        | cons a t ih =>
          intro e
          cases i with
          | zero => cases e; exact ⟨_, rfl, a⟩
          | succ n => exact ih e
      obtain ⟨v, h1, h2⟩ := go p e1
      refine ⟨v, ?_, h2⟩
      unfold L2.start
      rw [List.getElem?_append_left (by simp [hl]; exact hi), List.getElem?_map, h1]; rfl
    · rw [List.getElem?_append_right (by simpa using hi), List.getElem?_replicate] at e
      split at e <;> cases e
section
variable {P : Program} {w : World} {K : PySem.W.Frag} {mg : Str → Option Value} {base : Heap} {n0 : Nat}
theorem fng_of {x : Str} {st : Stmt} {f : Addr} {fd : FuncData} {N ns : List Str} {k : Nat} {body : FS} (F : Fun K x x st f fd) (S : FnScope N ns (defScope st))
    (hb : ∀ (cdv : Value) (A : Around) (outer : List Env) (s : Shared) (H : Hp) (E : XK), A.guards = some [] → Room k (A.deeper (envOfC x (defScope st) s.heap.objs.size f cdv)) → RSs (cxOf CX0 P w K mg base N x (defScope st) f cdv A outer s H E).nox n0 (defBody st) body) :
    FnG P w K mg base (k + 1) f fd ns (mkF ns.length N.length n0 body) := by
  obtain ⟨oc, od, kV, doc, pm, an, cdv, ct, osl, rfl, lk, hcd⟩ := F.ex
  refine ⟨fun xs cs r c h => ?_, fun A outer s H args us vs hs ps cs c xs r Q hg hr e0 hbind hv hR hP hF hQ => ?_⟩
  · unfold mkF at h
    split at h
    · rename_i hl; exact hl.1
    · cases h
  unfold mkF at hF
  split at hF
  case isFalse => cases hF
  rename_i hl
  have hvl : vs.length = ns.length := by rw [Paired.length hP]; exact hl.1
  have hpl : ps.length = n0 := by rw [hR.len]; exact hl.2
  have kx : K.In s.heap :=
    e0.mod.kin.keeps fun b o e => (e0.bs b o e).1
  have lim : s.heap.NoLimit :=
    e0.mod.nolimit.keeps fun b o e => (e0.bs b o e).1
  refine codeAny_call_function hr.depth (kx _ _ lk)
    rfl S.co S.gen rfl (PySem.W.codeRec_of kx hcd) (hbind _ _ _ _ ?_)
  refine wpAny_newFunctionEnv_cells S.kind (fun y hy => ?_) fun env he s1 inC => ?_
  · rcases S.par y.1 (List.of_mem_zip (a := y.1) (b := y.2) hy).1 with q | q
    · exact .inl q
    · exact .inr ⟨q, PySem.W.cellsFrom_some _ _ _ (.inl q)⟩
  subst he
  refine ⟨lim.keeps inC.toInCall.keep, codeAny_func ?_⟩
  have I := inv_start (CX := CX0) (mg := mg) (base := base) (E := E0) S hr.hd e0 hvl hv inC
  -- the body, then the way out
  have fin : ∀ {σ' : St} {H' : Hp} {v : V} {u : Value} {s' : Shared}, L2.Inv (cxOf CX0 P w K mg base N x (defScope st) f cdv A outer s H E0) [] σ' H' s' → RelV v u → Q v H' → CE outer P w H s Q u s' :=
    fun {σ' H' v u s'} J rv q => ⟨v, H', J.os, J.bare, J.base, J.hok, rv, q⟩
  have R0 : Rel K hs ps (L2.start N vs) H ⟨xs.map some ++ List.replicate (N.length - ns.length) none, cs⟩ := by
    have := rel_start (N := N) hR hP
    rw [hl.1] at this
    exact this
  have go : ∃ o, body ⟨xs.map some ++ List.replicate (N.length - ns.length) none, cs⟩ = some o ∧ Post K hs ps H { nx := fun _ H' => Q .non H', rt := Q } o := by
    split at hF
    · rename_i r' c' eb
      cases hF
      refine ⟨_, eb, ?_⟩
      cases r with
      | dat d =>
        intro hs' ps' v H' L R d'
        obtain ⟨l, el⟩ := L.pre
        subst el
        rw [← hpl] at hQ
        exact hQ v H' L.stp (R.take L.hss hR.sub) (d'.up (fun a o e => by
          obtain ⟨n, q⟩ := hid_some e
          rw [hid_out fun m => n (L.hss a m)]; exact q))
      | new l0 =>
        intro hs' ps' p vs' H' L m n R e' d'
        obtain ⟨l, el⟩ := L.pre
        subst el
        rw [← hpl] at hQ
        have hsub : ∀ a ∈ p :: hs, a ∈ hs' := fun a ma => by
          rcases List.mem_cons.mp ma with z | z
          · rw [z]; exact m
          · exact L.hss a z
        exact hQ p vs' H' n L.stp (R.take hsub fun q mq => List.mem_cons_of_mem _ (hR.sub q mq)) e' (d'.up (fun a o e => by
          obtain ⟨n, q⟩ := hid_some e
          rw [hid_out fun m => n (hsub a m)]; exact q))
    · rename_i st' eb
      cases hF
      refine ⟨_, eb, fun hs' ps' σ' H' L R => ?_⟩
      obtain ⟨l, el⟩ := L.pre
      subst el
      rw [← hpl] at hQ
      exact hQ .non H' L.stp (R.hr.take L.hss hR.sub) .non
    · cases hF
  obtain ⟨o, eb, po⟩ := go
  have wb := hb cdv A outer s H E0 hg (hr.deeper _) _ o eb hs ps H (Nat.le_of_eq hpl) hR.trk hs ps (L2.start N vs) H lv_refl R0 _ po
  refine wpAny_mono (wb [] s1 (I.wish _)) (fun fl s' hq => ?_) fun e s' z => False.elim z
  have hq := hq.unwish
  cases fl with
  | ret u =>
    obtain ⟨v, σ', H', J, rv, q⟩ := hq
    exact fin J rv q
  | next =>
    obtain ⟨σ', H', J, q⟩ := hq
    exact fin (v := V.non) (u := Value.none) J rfl q
  | brk => exact hq.elim fun _ z => z.elim fun _ z => False.elim z.2
  | cont => exact hq.elim fun _ z => z.elim fun _ z => False.elim z.2
end

/-! ### calls -/
/-- a def that stands under the name x; its parameters may be given by position or, behind these, by name -/
structure At (P : Program) (w : World) (K : PySem.W.Frag) (mg : Str → Option Value) (base : Heap) (k : Nat) (x : Str) (ns : List Str) (F : FnS) : Prop where
  ex : ∃ (f : Addr) (fd : FuncData), mg x = some (.ref f) ∧ PySem.W.keepIn K (.ref f) = true ∧ FnG P w K mg base k f fd ns F ∧
    ∀ (s : Shared) (us : List Value), us.length = ns.length → ∀ (i : Nat), i ≤ ns.length → BindsTo s fd ⟨us.take i, (ns.drop i).zip (us.drop i)⟩ (ns.zip us)
theorem at_mk {P : Program} {w : World} {K : PySem.W.Frag} {mg : Str → Option Value} {base : Heap} {k : Nat} {x : Str} {st : Stmt} {f : Addr} {fd : FuncData} {ns : List Str} {F : FnS} (U : Fun K x x st f fd) (hm : mg x = some (.ref f)) (G : FnG P w K mg base k f fd ns F)
    (hb : ∀ (kV doc pm : Value) (an : Option Addr) (cdv ct : Value) (us : List Value), us.length = ns.length → ∀ (i : Nat), i ≤ ns.length → bindArgs (PySem.W.fnOf x x (defArgs st) (defBody st) (defScope st) .none kV doc pm an cdv ct) ⟨us.take i, (ns.drop i).zip (us.drop i)⟩ = pure (ns.zip us)) : At P w K mg base k x ns F := by
  obtain ⟨oc, od, kV, doc, pm, an, cdv, ct, osl, e, lk, hcd⟩ := U.ex
  refine ⟨f, fd, hm, U.kp, G, fun s us hl i hi => ?_⟩
  subst e
  exact .of_eq (hb kV doc pm an cdv ct us hl i hi)
def celsOk (k : Nat) : List SV → Bool
  | [] => true
  | .cel j :: r => decide (j = k) && celsOk k r
  | .dat _ :: r => celsOk k r
  | .fn _ :: r => celsOk k r
def celOf : List SV → Option Nat
  | [] => none
  | .cel k :: _ => some k
  | .dat _ :: r => celOf r
  | .fn _ :: r => celOf r
def norm : SV → SV
  | .cel _ => .cel 0
  | .dat d => .dat d
  | .fn x => .fn x
/-- the result, and the caller's lists behind it -/
def callF (F : FnS) (xs : List SV) (c : Cs) : Option (RV × Cs) := match celOf xs with
  | none => (F xs []).map fun p => (p.1, c)
  | some k => if celsOk k xs = true then (c[k]?).bind fun l => (F (xs.map norm) [l]).bind fun p => match p.2 with
      | [l'] => some (p.1, c.set k l')
      | _ => none
    else none
def fCall (F : FnS) (a : FA) : FE := fun st => (a st).bind fun p => (callF F p.1 p.2).bind fun q => match q.1 with
  | .dat d => some (d, q.2)
  | .new _ => none
def fCallL (F : FnS) (a : FA) : FL := fun st => (a st).bind fun p => (callF F p.1 p.2).bind fun q => match q.1 with
  | .new d => some (d, q.2)
  | .dat _ => none
/-- what the callee asks of its caller -/
def tG (K : PySem.W.Frag) (F : FnS) (ta : TA) : TE := fun σ H Q => ta σ H fun vs H1 => ∃ (hs ps : List Addr) (cs c : Cs) (xs : List SV) (r : RV), HR K hs ps H1 cs ∧ Paired (RelS K hs ps H1) vs xs ∧ F xs cs = some (r, c) ∧ RetOk K hs ps H1 c r Q
section
variable {X : Cx} {k : Nat} {x : Str} {ns : List Str} {F : FnS} {e : Expr} {es : List Expr} {p pos : Pos} {fa : FA}
theorem run_g {f : Addr} {fd : FuncData} {pins : List (Addr × Obj)} {σ : St} {H : Hp} {s : Shared} {Q : VK} {us : List Value} {vs : List V} {args : Args} {hs ps : List Addr} {cs c : Cs} {xs : List SV} {r : RV} (G : FnG X.prog X.w X.K X.mg X.base k f fd ns F) (hg : X.A.guards = some []) (hr : Room k X.A)
    (I : L2.Inv X pins σ H s) (hb : BindsTo s fd args (ns.zip us)) (hv : Vals vs us) (h1 : HR X.K hs ps H cs) (h2 : Paired (RelS X.K hs ps H) vs xs) (h3 : F xs cs = some (r, c)) (h4 : RetOk X.K hs ps H c r Q) : wpAny (model X.prog X.w) X.A (call (.ref f) args.pos args.kw) (EP X pins σ Q) X.xe s := by
  refine wpAny_call (codeAny_mono (G.run X.A X.stack s H args us vs hs ps cs c xs r Q hg hr I.env0 hb hv h1 h2 h3 h4) fun r s' hq => ?_)
  cases r with
  | error e => exact False.elim hq
  | ok fl =>
    cases fl with
    | ret u => exact I.after hq
    | _ => exact False.elim hq
theorem paired_none {K : PySem.W.Frag} {hs ps qs : List Addr} {H : Hp} : ∀ {vs : List V} {xs : List SV}, celOf xs = none → Paired (RelS K hs ps H) vs xs → Paired (RelS K hs qs H) vs xs
  | _, _, _, .nil => .nil
  | _, .dat d :: r, h, .cons a t => .cons a (paired_none (xs := r) h t)
  | _, .fn d :: r, h, .cons a t => .cons a (paired_none (xs := r) h t)
  | _, .cel _ :: _, h, .cons _ _ => by cases h
theorem paired_norm {K : PySem.W.Frag} {hs ps : List Addr} {H : Hp} {k : Nat} {q : Addr} (hq : ps[k]? = some q) : ∀ {vs : List V} {xs : List SV}, celsOk k xs = true → Paired (RelS K hs ps H) vs xs → Paired (RelS K hs [q] H) vs (xs.map norm)
  | _, _, _, .nil => .nil
  | _, .dat d :: r, h, .cons a t => .cons a (paired_norm hq (xs := r) h t)
  | _, .fn d :: r, h, .cons a t => .cons a (paired_norm hq (xs := r) h t)
  | _, .cel j :: r, h, .cons a t => by
    have h' : (decide (j = k) && celsOk k r) = true := h
    rw [Bool.and_eq_true] at h'
    have e := of_decide_eq_true h'.1
    obtain ⟨p, h1, h2⟩ := a
    rw [e, hq] at h1
    cases h1
    exact .cons ⟨q, rfl, h2⟩ (paired_norm hq h'.2 t)
theorem paired_cel {K : PySem.W.Frag} {hs ps : List Addr} {H : Hp} {k : Nat} : ∀ {vs : List V} {xs : List SV}, celOf xs = some k → Paired (RelS K hs ps H) vs xs → ∃ q, ps[k]? = some q
  | _, _, h, .nil => by cases h
  | _, .dat d :: r, h, .cons a t => paired_cel (xs := r) h t
  | _, .fn d :: r, h, .cons a t => paired_cel (xs := r) h t
  | _, .cel j :: r, h, .cons a t => by
    cases h
    obtain ⟨p, h1, h2⟩ := a
    exact ⟨p, h1⟩
theorem HR.none0 {K : PySem.W.Frag} {hs ps : List Addr} {H : Hp} {c : Cs} (R : HR K hs ps H c) : HR K hs [] H [] :=
  ⟨fun p m => by simp at m, .nil, rfl, R.trk, fun i p xs h => by simp at h⟩
theorem HR.one {K : PySem.W.Frag} {hs ps : List Addr} {H : Hp} {c : Cs} {k : Nat} {q : Addr} {l : List PyData} (R : HR K hs ps H c) (hq : ps[k]? = some q) (hl : c[k]? = some l) : HR K hs [q] H [l] := by
  refine ⟨fun p m => by rw [List.mem_singleton.mp m]; exact R.sub q (List.mem_of_getElem? hq), by simp, rfl, R.trk, fun i p xs h1 h2 => ?_⟩
  cases i with
  | zero =>
    cases h1
    cases h2
    exact R.cel k q l hq hl
  | succ n => simp at h1
theorem HR.back {K : PySem.W.Frag} {hs hs' ps : List Addr} {H H' : Hp} {c : Cs} {k : Nat} {q : Addr} {l' : List PyData} (R : HR K hs ps H c) (hq : ps[k]? = some q) (s : Step [q] H H') (M : HR K hs' [q] H' [l']) (hh : ∀ a ∈ hs', a ∉ hs → H a = none) (hh2 : ∀ a ∈ hs, a ∈ hs') : HR K hs' ps H' (c.set k l') := by
  have hin : q ∈ hs := R.sub q (List.mem_of_getElem? hq)
  have sb : Sub (hid hs H) (hid hs' H') := s.hd (fun p m => by rw [List.mem_singleton.mp m]; exact hin) hh
  refine ⟨fun p m => hh2 p (R.sub p m), R.nd, by rw [List.length_set]; exact R.len, M.trk, fun i p xs h1 h2 => ?_⟩
  by_cases e : k = i
  · subst e
    rw [hq] at h1
    cases h1
    have hlc : k < c.length := by
      by_cases hl : k < c.length
      · exact hl
      · rw [List.getElem?_eq_none (by rw [List.length_set]; omega)] at h2; cases h2
    rw [List.getElem?_set_self hlc] at h2
    cases h2
    exact M.cel 0 q l' rfl rfl
  · rw [List.getElem?_set_ne e] at h2
    obtain ⟨vs, q1, q2⟩ := R.cel i p xs h1 h2
    have hne : p ≠ q := fun z => by
      subst z
      have a1 : k < ps.length := by
        by_cases hl : k < ps.length
        · exact hl
        · rw [List.getElem?_eq_none (by omega)] at hq; cases hq
      have a2 : i < ps.length := by
        by_cases hl : i < ps.length
        · exact hl
        · rw [List.getElem?_eq_none (by omega)] at h1; cases h1
      rw [List.getElem?_eq_getElem a1] at hq
      rw [List.getElem?_eq_getElem a2] at h1
      exact e ((List.getElem_inj R.nd).mp (by rw [Option.some.inj hq, Option.some.inj h1]))
    exact ⟨vs, s p _ (by simpa using hne) q1, q2.up sb⟩
theorem ed_G {K : PySem.W.Frag} {ta : TA} {st : Sta} {d : PyData} {c : Cs} (h : fCall F fa st = some (d, c)) (ha : ∀ st d c, fa st = some (d, c) → EDA K ta st d c) : ED K (tG K F ta) st d c := by
  obtain ⟨⟨xs, c1⟩, h1, h⟩ := bind_some h
  obtain ⟨⟨r, c2⟩, h2, h⟩ := bind_some h
  simp only at h
  split at h <;> cases h
  refine fun hs ps σ H R Q q => ha _ _ _ h1 hs ps σ H R _ fun vs H2 s2 R2 p2 => ?_
  unfold callF at h2
  split at h2
  · rename_i e0
    obtain ⟨⟨r3, c3⟩, h3, e3⟩ := map_some h2
    cases e3
    exact ⟨hs, [], [], c3, xs, _, R2.hr.none0, paired_none e0 p2, h3, fun v H3 s3 _ d3 => q v H3 (s2.trans (s3.mono (by simp))) (R2.step s3) d3⟩
  · rename_i k0 e0
    split at h2
    · rename_i ok
      obtain ⟨l, hl, h2⟩ := bind_some h2
      obtain ⟨⟨r3, c3⟩, h3, h2⟩ := bind_some h2
      simp only at h2
      split at h2 <;> cases h2
      rename_i l'
      obtain ⟨p, hp⟩ := paired_cel e0 p2
      refine ⟨hs, [p], [l], _, xs.map norm, _, R2.hr.one hp hl, paired_norm hp ok p2, h3, fun v H3 s3 M3 d3 => ?_⟩
      have hin : p ∈ hs := R2.hr.sub p (List.mem_of_getElem? hp)
      have s3' : Step ps H2 H3 := s3.mono fun a m => by rw [List.mem_singleton.mp m]; exact List.mem_of_getElem? hp
      exact q v H3 (s2.trans s3') (R2.slots (s3'.hd0 R2.hr.sub) (R2.hr.back hp s3 M3 (fun _ m n => absurd m n) fun _ m => m)) d3
    · cases h2
theorem edl_G {K : PySem.W.Frag} {ta : TA} {st : Sta} {d : List PyData} {c : Cs} (h : fCallL F fa st = some (d, c)) (ha : ∀ st d c, fa st = some (d, c) → EDA K ta st d c) : EDL K (tG K F ta) st d c := by
  obtain ⟨⟨xs, c1⟩, h1, h⟩ := bind_some h
  obtain ⟨⟨r, c2⟩, h2, h⟩ := bind_some h
  simp only at h
  split at h <;> cases h
  refine fun hs ps σ H R Q q => ha _ _ _ h1 hs ps σ H R _ fun vs H2 s2 R2 p2 => ?_
  unfold callF at h2
  split at h2
  · rename_i e0
    obtain ⟨⟨r3, c3⟩, h3, e3⟩ := map_some h2
    cases e3
    refine ⟨hs, [], [], c3, xs, _, R2.hr.none0, paired_none e0 p2, h3, fun p vs' H3 hp s3 M3 e3 d3 => ?_⟩
    have tr := M3.trk p List.mem_cons_self
    exact q p vs' H3 (DL.fresh_back s2 R2.hr hp) (s2.trans (s3.mono (by simp))) (R2.more s3 hp tr) e3 d3
  · rename_i k0 e0
    split at h2
    · rename_i ok
      obtain ⟨l, hl, h2⟩ := bind_some h2
      obtain ⟨⟨r3, c3⟩, h3, h2⟩ := bind_some h2
      simp only at h2
      split at h2 <;> cases h2
      rename_i l'
      obtain ⟨p, hp⟩ := paired_cel e0 p2
      refine ⟨hs, [p], [l], _, xs.map norm, _, R2.hr.one hp hl, paired_norm hp ok p2, h3, fun t vs' H3 ht s3 M3 e3 d3 => ?_⟩
      have s3' : Step ps H2 H3 := s3.mono fun a m => by rw [List.mem_singleton.mp m]; exact List.mem_of_getElem? hp
      exact q t vs' H3 (DL.fresh_back s2 R2.hr ht) (s2.trans s3') (R2.slots (s3'.hd R2.hr.sub (fresh_hid ht)) (R2.hr.back hp s3 M3 (fresh_hid ht) fun _ m => List.mem_cons_of_mem _ m)) e3 d3
    · cases h2
/-- the one argument a new list, which is the callee's own -/
def fCallFr (F : FnS) (l : FL) : FE := fun st => (l st).bind fun p => (F [.cel 0] [p.1]).bind fun q => match q.1 with
  | .dat d => some (d, p.2)
  | .new _ => none
theorem ed_Fr {K : PySem.W.Frag} {te : TE} {st : Sta} {d : PyData} {c : Cs} {fl : FL} (h : fCallFr F fl st = some (d, c)) (hl : ∀ st d c, fl st = some (d, c) → EDL K te st d c) : ED K (tG K F (tCons te tNil)) st d c := by
  obtain ⟨⟨xs, c1⟩, h1, h⟩ := bind_some h
  obtain ⟨⟨r, c2⟩, h2, h⟩ := bind_some h
  simp only at h
  split at h <;> cases h
  refine fun hs ps σ H R Q q => hl _ _ _ h1 hs ps σ H R _ fun p vs H2 hp s2 R2 e2 d2 => ?_
  have np : p ∉ ps := fun m => R.hr.trk p (R.hr.sub p m) hp
  refine ⟨p :: hs, [p], [xs], c2, [.cel 0], _, ⟨fun a m => by rw [List.mem_singleton.mp m]; exact List.mem_cons_self, by simp, rfl, R2.hr.trk, fun i a ys k1 k2 => ?_⟩, .cons ⟨p, rfl, rfl⟩ .nil, h2, fun v H3 s3 M3 d3 => ?_⟩
  · cases i with
    | zero =>
      cases k1
      cases k2
      exact ⟨vs, e2, d2⟩
    | succ n => simp at k1
  · have sb : Sub (hid (p :: hs) H2) (hid (p :: hs) H3) := s3.hd0 fun a m => by rw [List.mem_singleton.mp m]; exact List.mem_cons_self
    have R3 : Rel K (p :: hs) ps σ H3 ⟨st.ds, c⟩ := R2.slots sb ⟨R2.hr.sub, R2.hr.nd, R2.hr.len, M3.trk, fun i a ys k1 k2 => by
      obtain ⟨ws, q1, q2⟩ := R2.hr.cel i a ys k1 k2
      have hne : a ≠ p := fun z => np (z ▸ List.mem_of_getElem? k1)
      exact ⟨ws, s3 a _ (by simpa using hne) q1, q2.up sb⟩⟩
    refine q v H3 (fun a o n e => ?_) (R3.less (fun a m => List.mem_cons_of_mem _ m) R.hr.sub) (d3.up hid_cons_sub)
    have e4 := s2 a o n e
    exact s3 a o (fun m => by rw [List.mem_singleton.mp m] at e; rw [hp] at e; cases e) e4
theorem pe_callGA {t : TA} (C : At X.prog X.w X.K X.mg X.base k x ns F) (hgd : X.A.guards = some []) (hr : Room k X.A) (hg : Gl X x) (ha : PA X (e :: es) t) (hdb : (x == ("__debug__" : Str)) = false := by decide) (he : starEach (e :: es) X.env = (false, eval e X.env) :: starEach es X.env := by with_reducible first | exact sn_name | exact sn_const | exact sn_tup | exact sn_list | exact sn_bin | exact sn_un | exact sn_bool | exact sn_cmp | exact sn_call | exact sn_sub | exact sn_if | exact sn_attr | exact sn_lc) (hpl : (backTo pos (starEach es X.env)).any (·.1) = false := by rfl) :
    PE X (.Call (.Name x p) (e :: es) [] pos) (tG X.K F t) := by
  obtain ⟨f, fd, hm, hk, G, hb⟩ := C.ex
  refine ⟨fun pins s σ H Q I h => ?_⟩
  refine wpAny_Call_Name_kw (ld_glob I hg hm ?_ hdb)
  refine PySem.W.callWith_K (h₀ := X.base) I.ok.mod.kin hk (thn (ha.run pos pins s σ H _ I h) fun us s1 ⟨vs, H1, I1, r, hs, ps, cs, c, xs, r2, a1, a2, a3, a4⟩ => ⟨I1.kIn, ?_⟩) he hpl
  have hl : us.length = ns.length := by rw [← r.length, Paired.length a2]; exact G.len _ _ _ _ a3
  have b := hb s1 us hl ns.length (Nat.le_refl _)
  rw [← hl, List.take_length, List.drop_length, hl, List.drop_length, List.zip_nil_left] at b
  exact run_g (args := ⟨us, []⟩) G hgd hr I1 b r a1 a2 a3 a4
theorem re_callFr {fl : FL} (C : At X.prog X.w X.K X.mg X.base k x ns F) (hgd : X.A.guards = some []) (hr : Room k X.A) (hg : Gl X x) (hl : RL X e fl) (hdb : (x == ("__debug__" : Str)) = false := by decide) (he : starEach [e] X.env = (false, eval e X.env) :: starEach [] X.env := by with_reducible first | exact sn_name | exact sn_const | exact sn_tup | exact sn_list | exact sn_bin | exact sn_un | exact sn_bool | exact sn_cmp | exact sn_call | exact sn_sub | exact sn_if | exact sn_attr | exact sn_lc) (hpl : (backTo pos (starEach [] X.env)).any (·.1) = false := by rfl) :
    RE X (.Call (.Name x p) [e] [] pos) (fCallFr F fl) := .mk fun st d c h => RE.of (pe_callGA C hgd hr hg (pa_cons (pwE e) pa_nil he) hdb he hpl) (ed_Fr h hl)
theorem pe_callG (C : At X.prog X.w X.K X.mg X.base k x ns F) (hgd : X.A.guards = some []) (hr : Room k X.A) (hg : Gl X x) (hdb : (x == ("__debug__" : Str)) = false := by decide) (he : starEach (e :: es) X.env = (false, eval e X.env) :: starEach es X.env := by with_reducible first | exact sn_name | exact sn_const | exact sn_tup | exact sn_list | exact sn_bin | exact sn_un | exact sn_bool | exact sn_cmp | exact sn_call | exact sn_sub | exact sn_if | exact sn_attr | exact sn_lc) (hpl : (backTo pos (starEach es X.env)).any (·.1) = false := by rfl) :
    PE X (.Call (.Name x p) (e :: es) [] pos) (tG X.K F (wA X (e :: es))) := by
  obtain ⟨f, fd, hm, hk, G, hb⟩ := C.ex
  refine ⟨fun pins s σ H Q I h => ?_⟩
  refine wpAny_Call_Name_kw (ld_glob I hg hm ?_ hdb)
  refine PySem.W.callWith_K (h₀ := X.base) I.ok.mod.kin hk (thn ((pwA (e :: es)).run pos pins s σ H _ I h) fun us s1 ⟨vs, H1, I1, r, hs, ps, cs, c, xs, r2, a1, a2, a3, a4⟩ => ⟨I1.kIn, ?_⟩) he hpl
  have hl : us.length = ns.length := by rw [← r.length, Paired.length a2]; exact G.len _ _ _ _ a3
  have b := hb s1 us hl ns.length (Nat.le_refl _)
  rw [← hl, List.take_length, List.drop_length, hl, List.drop_length, List.zip_nil_left] at b
  exact run_g (args := ⟨us, []⟩) G hgd hr I1 b r a1 a2 a3 a4
theorem re_call (C : At X.prog X.w X.K X.mg X.base k x ns F) (hgd : X.A.guards = some []) (hr : Room k X.A) (hg : Gl X x) (ha : RA X (e :: es) fa) (hdb : (x == ("__debug__" : Str)) = false := by decide) (he : starEach (e :: es) X.env = (false, eval e X.env) :: starEach es X.env := by with_reducible first | exact sn_name | exact sn_const | exact sn_tup | exact sn_list | exact sn_bin | exact sn_un | exact sn_bool | exact sn_cmp | exact sn_call | exact sn_sub | exact sn_if | exact sn_attr | exact sn_lc) (hpl : (backTo pos (starEach es X.env)).any (·.1) = false := by rfl) :
    RE X (.Call (.Name x p) (e :: es) [] pos) (fCall F fa) := .mk fun st d c h => RE.of (pe_callG C hgd hr hg hdb he hpl) (ed_G h ha)
theorem rl_call (C : At X.prog X.w X.K X.mg X.base k x ns F) (hgd : X.A.guards = some []) (hr : Room k X.A) (hg : Gl X x) (ha : RA X (e :: es) fa) (hdb : (x == ("__debug__" : Str)) = false := by decide) (he : starEach (e :: es) X.env = (false, eval e X.env) :: starEach es X.env := by with_reducible first | exact sn_name | exact sn_const | exact sn_tup | exact sn_list | exact sn_bin | exact sn_un | exact sn_bool | exact sn_cmp | exact sn_call | exact sn_sub | exact sn_if | exact sn_attr | exact sn_lc) (hpl : (backTo pos (starEach es X.env)).any (·.1) = false := by rfl) :
    RL X (.Call (.Name x p) (e :: es) [] pos) (fCallL F fa) := .mk fun st d c h => RL.of (pe_callG C hgd hr hg hdb he hpl) (edl_G h ha)
end
end DL


set_option Elab.async false
set_option linter.all false
set_option maxRecDepth 100000
set_option maxHeartbeats 4000000
namespace DL
open PySem PySem.Spec L2
open PyProof.Rows hiding St

/-! ### calls by name alone, the names in the parameters' order -/
def wK (X : Cx) (kws : List Keyword) : TA := fun σ H Q => ∀ pos pins s, L2.Inv X pins σ H s → wpAny (model X.prog X.w) X.A (evalAll ((backToKw pos (keywordEach kws X.env)).map (·.2))) (AP X pins σ Q) X.xe s
theorem pwK {X : Cx} (kws : List Keyword) : PK X kws (wK X kws) := ⟨fun pos pins s _ _ _ I h => h pos pins s I⟩
structure RK (X : Cx) (kws : List Keyword) (f : FA) : Prop where
  h : ∀ st d c, f st = some (d, c) → EDA X.K (wK X kws) st d c
instance (X : Cx) (kws : List Keyword) (f : FA) : CoeFun (RK X kws f) (fun _ => ∀ st d c, f st = some (d, c) → EDA X.K (wK X kws) st d c) := ⟨fun r => r.h⟩
section
variable {X : Cx} {k i : Nat} {x : Str} {ns : List Str} {F : FnS} {e : Expr} {es : List Expr} {p pos kpos : Pos} {fa fk : FA} {fe : FE} {kws : List Keyword} {nm : Option Str}
theorem RK.of {t : TA} {st : Sta} {d : List SV} {c : Cs} (p : PK X kws t) (k : EDA X.K t st d c) : EDA X.K (wK X kws) st d c := fun hs ps σ H R Q q pos pins s I => p.run pos pins s σ H Q I (k hs ps σ H R Q q)
theorem rk_nil : RK X [] fNilA := .mk fun st d c h => by
  cases h; exact RK.of pk_nil eda_nil
theorem rk_cons (ha : RE X e fe) (hr : RK X kws fa) : RK X (⟨nm, e, kpos⟩ :: kws) (fConsA fe fa) := .mk fun st d c h => by
  obtain ⟨⟨x, c1⟩, h1, h⟩ := bind_some h
  obtain ⟨⟨xs, c2⟩, h2, e⟩ := map_some h
  cases e
  exact RK.of (pk_cons (pwE _) (pwK kws)) (eda_cons (ha _ _ _ h1) (hr _ _ _ h2))
theorem pe_callGk (C : At X.prog X.w X.K X.mg X.base k x ns F) (hgd : X.A.guards = some []) (hr : Room k X.A) (hg : Gl X x) (hall : (backToKw pos (keywordEach kws X.env)).all (·.1.isSome) = true := by rfl) (hks : (backToKw pos (keywordEach kws X.env)).filterMap (·.1) = ns := by rfl) (hdb : (x == ("__debug__" : Str)) = false := by decide)
    (hpl : ((backTo pos (starEach [] X.env)).any (·.1) || (backToKw pos (keywordEach kws X.env)).any (·.1.isNone)) = false := by rfl) : PE X (.Call (.Name x p) [] kws pos) (tG X.K F (wK X kws)) := by
  obtain ⟨f, fd, hm, hk, G, hb⟩ := C.ex
  refine ⟨fun pins s σ H Q I h => ?_⟩
  refine wpAny_Call_Name_kw (ld_glob I hg hm ?_ hdb)
  refine PySem.W.callWith_KW0 (h₀ := X.base) I.ok.mod.kin hk hall (thn ((pwK kws).run pos pins s σ H _ I h) fun us s1 ⟨vs, H1, I1, r, hs, ps, cs, c, xs, r2, a1, a2, a3, a4⟩ => ⟨I1.kIn, ?_⟩) hpl
  have hl : us.length = ns.length := by rw [← r.length, Paired.length a2]; exact G.len _ _ _ _ a3
  have b := hb s1 us hl 0 (Nat.zero_le _)
  rw [List.take_zero, List.drop_zero, List.drop_zero] at b
  rw [hks]
  exact run_g (args := ⟨[], ns.zip us⟩) G hgd hr I1 b r a1 a2 a3 a4
theorem re_callk (C : At X.prog X.w X.K X.mg X.base k x ns F) (hgd : X.A.guards = some []) (hr : Room k X.A) (hg : Gl X x) (ha : RK X kws fa) (hall : (backToKw pos (keywordEach kws X.env)).all (·.1.isSome) = true := by rfl) (hks : (backToKw pos (keywordEach kws X.env)).filterMap (·.1) = ns := by rfl) (hdb : (x == ("__debug__" : Str)) = false := by decide)
    (hpl : ((backTo pos (starEach [] X.env)).any (·.1) || (backToKw pos (keywordEach kws X.env)).any (·.1.isNone)) = false := by rfl) : RE X (.Call (.Name x p) [] kws pos) (fCall F fa) := .mk fun st d c h => RE.of (pe_callGk C hgd hr hg hall hks hdb hpl) (ed_G h ha)
end

/-! ### the law -/
def Wants (s₁ : Shared) : Result → Shared → Prop := fun r s' => r = .ok (.ret (.bool true)) ∧ OldK s₁.heap s'.heap ∧ s'.os = s₁.os ∧ AllBare s'.gens
theorem law_G {P : Program} {w : World} {K : PySem.W.Frag} {mg mb : Str → Option Value} {k : Nat} {fa a : Addr} {fd : FuncData} {x : Str} {F : FnS} {s₁ : Shared} {vs : List Value} {ns : List Int}
    (KX : K.In s₁.heap) (g1 : s₁.heap.Ns mainGlobals mg) (g2 : s₁.heap.Ns builtinsNs mb) (g3 : ∀ x : Str, x ≠ "__name__" → mb x = bootBuiltins x) (lim : s₁.heap.NoLimit) (gens : s₁.gens = #[])
    (ho : s₁.heap.get? a = some { cls := .type "list", data := .seq vs.toArray }) (hi : IntsAre vs ns) (hl : ns.length ≤ sizeLine) (hr : Room k callerA)
    (G : ∀ base : Heap, K.In base → base.Ns mainGlobals mg → FnG P w K mg base k fa fd [x] F) (bind : ∀ (s : Shared) (u : Value), BindsTo s fd ⟨[u], []⟩ [(x, u)])
    (T : ∃ c, F [.dat (.list (ns.map PyData.int))] [] = some (.dat (.bool true), c)) : codeAny (model P w) callerA (.call (.ref fa) ⟨[.ref a], []⟩) (Wants s₁) s₁ := by
  have rv := vals_ints hi
  have one : ∀ H : Hp, L2.Only H → SqL K H a (ns.map V.int) → HOk P w H s₁.heap → (∀ b, H b ≠ none → b = a) → (∀ o, K.lookup a = some o → H a = none) → codeAny (model P w) callerA (.call (.ref fa) ⟨[.ref a], []⟩) (Wants s₁) s₁ := by
    intro H only sq ok hA hK
    have free : ∀ {b : Addr} {o : Obj} {es : Array DictEntry} {ep : Nat}, s₁.heap.get? b = some o → o.data = .dict es ep → H b = none := by
      intro b o es ep e d
      cases q : H b with
      | none => rfl
      | some u =>
        have z := hA b (by rw [q]; simp)
        subst z
        rw [ho] at e
        cases e
        cases (show Data.seq vs.toArray _ = Data.dict es ep from d)
    have ns' : ∀ {b : Addr} {m : Str → Option Value}, s₁.heap.Ns b m → (hidT s₁.heap H).Ns b m := by
      rintro b m ⟨o, es, ep, e, d, r⟩
      exact ⟨o, es, ep, hidT_get e (free e d), d, r⟩
    have kb : K.In (hidT s₁.heap H) := by
      intro b o e
      refine hidT_get (KX b o e) ?_
      cases q : H b with
      | none => rfl
      | some u =>
        have z := hA b (by rw [q]; simp)
        subst z
        rw [hK o e] at q; cases q
    obtain ⟨mc, l1, l2⟩ := lim
    have e0 : Env0 P w K mg (hidT s₁.heap H) callerA [] s₁ H :=
      ⟨rfl, ⟨kb, ns' g1, ⟨mb, ns' g2, g3⟩, ⟨mc, ns' l1, l2⟩⟩, fun b o e => of_hidT e,
        Nat.le_of_eq (hidT_size _ _), trivial, fun b hb => (by cases hb), ok, .of_eq gens⟩
    obtain ⟨c, T⟩ := T
    have R0 : HR K [] [] H [] := ⟨fun p m => (by cases m), .nil, rfl, fun a m => (by cases m), fun i p xs h => (by simp at h)⟩
    have d0 : Paired (RelS K [] [] H) [.ref a] [.dat (.list (ns.map PyData.int))] :=
      .cons (.lst (sqL_mono (fun b o e => by rw [hid_out (by simp)]; exact e) sq) (DpAll.ints ns)) .nil
    refine codeAny_mono ((G _ kb (ns' g1)).run callerA [] s₁ H ⟨[.ref a], []⟩ [.ref a] [.ref a] [] [] [] c _ _ (fun v _ => v = .bl true) rfl hr e0 (bind s₁ (.ref a)) (.cons rfl .nil) R0 d0 T fun v H2 _ _ d => dp_bool d) fun r s' h => ?_
    cases r with
    | error e => exact False.elim h
    | ok fl =>
      cases fl with
      | ret u =>
        obtain ⟨v, H', os, bare, un, ok', rr, q⟩ := h
        have q' : v = .bl true := q
        subst q'
        cases (show u = Value.bool true from rr)
        refine ⟨rfl, OldK.of_keep fun b o e => ?_, os, bare⟩
        cases q : H b with
        | none => exact un.keep b o e q (fun z => by cases z) (fun z => by cases z)
        | some u =>
          rcases only b with z | ⟨ob, xs, z⟩
          · rw [q] at z; cases z
          · obtain ⟨e1, _⟩ := ok b _ z
            obtain ⟨e2, _⟩ := ok' b _ (un.frzs b ob _ z)
            rw [e] at e1
            cases e1
            exact e2
      | _ => exact False.elim h
  cases hk : K.lookup a with
  | some o =>
    have e := KX a o hk
    rw [ho] at e
    cases e
    refine one (fun _ => none) (fun _ => .inl rfl) (.inr ⟨_, vs.toArray, _, hk, rfl, rfl, rfl, ?_, by simpa using rv⟩) (fun b u z => by cases z) (fun b z => absurd rfl z) fun _ _ => rfl
    rw [List.size_toArray, hi.length]; exact hl
  | none =>
    let Hs : Hp := fun b => if b = a then some (.frz { cls := .type "list", data := .seq vs.toArray } (.lst (ns.map V.int))) else none
    have at_a : Hs a = some (.frz { cls := .type "list", data := .seq vs.toArray } (.lst (ns.map V.int))) := if_pos rfl
    have off : ∀ b, b ≠ a → Hs b = none := fun b n => if_neg n
    refine one Hs (fun b => ?_) (.inl (.inr ⟨_, at_a⟩)) (fun b u z => ?_) (fun b z => ?_) fun o e => by rw [hk] at e; cases e
    · by_cases n : b = a
      · subst n; exact .inr ⟨_, _, at_a⟩
      · exact .inl (off b n)
    · by_cases n : b = a
      · subst n
        rw [at_a] at z
        cases z
        exact ⟨ho, by rw [List.length_map]; exact hl, vs, _, rv, ho⟩
      · rw [off b n] at z; cases z
    · by_cases n : b = a
      · exact n
      · exact absurd (off b n) z
/-- the goal that the head leaves -/
theorem walk_G {l : PySem.W.OpenLaw} {n k : Nat} {q : Program} {loose : List Str} {XP : (Str → Option Value) → Heap → Prop} {YP : World → Heap → Prop} {d : DefRec} {K : Params → PySem.W.Frag} {F : FnS} {x : Str}
    (hn : l.most = some n) (hn2 : n ≤ sizeLine) (hdf : d.params.defaults = []) (hr : Room k callerA) (hY : ∀ (w : World) (h : Heap), YP w h → (K w.params).In h)
    (G : ∀ (w : World) (mg : Str → Option Value) (fa : Addr) (h : Heap), (K w.params).In h → h.Ns mainGlobals mg → mg d.name = some (.ref fa) →
      ∃ fd : FuncData, (∀ (s : Shared) (u : Value), BindsTo s fd ⟨[u], []⟩ [(x, u)]) ∧ ∀ base : Heap, (K w.params).In base → base.Ns mainGlobals mg → FnG l.prog w (K w.params) mg base k fa fd [x] F)
    (T : ∀ ns : List Int, ns.length ≤ n → ∃ c, F [.dat (.list (ns.map PyData.int))] [] = some (.dat (.bool true), c)) : PySem.W.WalkO q loose XP YP l.row.toRowW d [] (fun f vs => PySem.call f vs) := by
  refine Att.attach_call hn hdf fun w s₀ s₁ mg mb fa o pm cd doc a vs ns Gr Y _ _ _ hmg hobj hints hlen gens => ?_
  have KX := hY w _ Y
  obtain ⟨fd, hb, hF⟩ := G w mg fa _ KX Gr.T.g hmg
  exact law_G KX Gr.T.g Gr.T.b Gr.T.builtins Gr.T.nolimit gens hobj hints (Nat.le_trans hlen hn2) hr hF hb (T ns hlen)
end DL


set_option Elab.async false
set_option linter.all false
set_option maxRecDepth 100000
set_option maxHeartbeats 4000000
namespace DL
open PySem PySem.Spec L2
open PyProof.Rows hiding St

theorem hu64 {k : Nat} {A : Around} (hr : Room k A) : A.units + 64 < cLine := by have := hr.un; omega
section
variable {X : Cx} {a b : Expr} {pos : Pos} {fa fb : FE}
theorem v (i : Nat) {x : Str} (hN : X.N[i]? = some x := by rfl) (hv : Vis X.env.scope x := by first | exact Or.inl rfl | exact Or.inr (Or.inl rfl) | exact Or.inr (Or.inr rfl)) (hd : (x == ("__debug__" : Str)) = false := by decide) (hcd : (x == ("__classdict__" : Str)) = false := by decide) : RE X (.Name x pos) (fVar i) := re_var hN hv hd hcd
/-- + of ints, lists, tuples -/
def gPlus : PyData → PyData → Option PyData
  | .int i, .int j => some (.int (i + j))
  | .list xs, .list ys => if xs.length + ys.length ≤ LIM then some (.list (xs ++ ys)) else none
  | .tuple xs, .tuple ys => if xs.length + ys.length ≤ LIM then some (.tuple (xs ++ ys)) else none
  | _, _ => none
theorem re_plus (ha : RE X a fa) (hb : RE X b fb) : RE X (.BinOp a .Add b pos) (fOp gPlus fa fb) := re_op (OpR.or (OpR.or op_add op_catS) op_catA) (fun x y z h => by
  cases x <;> cases y <;> first | (cases h; done) | skip
  · cases h
    exact fun hs H v w t d1 d2 Q q => .inl (.inl (rd_int0 (fun _ => .int _) hs H v w t d1 d2 Q q))
  · rename_i xs ys
    unfold gPlus at h
    simp only at h
    split at h <;> cases h
    rename_i hl
    intro hs H v w ht h1 h2 Q q
    obtain ⟨p, vs, rfl, hp, da⟩ := dp_list h1
    obtain ⟨p2, ws, rfl, hp2, db⟩ := dp_list h2
    refine .inl (.inr ⟨p, p2, vs, ws, rfl, rfl, sqL_mono hid_sub hp, sqL_mono hid_sub hp2, lim_ok (by rw [da.len, db.len]; exact hl), fun t ht' => ?_⟩)
    have s3 : Step [] H (upd H t (.lst (vs ++ ws))) := Step.new ht'
    have hph : t ∉ hs := fun m => ht t m ht'
    exact q _ _ s3 (.lst (.inl (.inl (by rw [hid_out hph]; exact upd_same))) ((da.app db).up (s3.hd0 (by simp))))
  · rename_i xs ys
    unfold gPlus at h
    simp only at h
    split at h <;> cases h
    rename_i hl
    intro hs H v w ht h1 h2 Q q
    obtain ⟨p, vs, rfl, hp, da⟩ := dp_tuple h1
    obtain ⟨p2, ws, rfl, hp2, db⟩ := dp_tuple h2
    refine .inr ⟨p, p2, vs, ws, rfl, rfl, sqT_mono hid_sub hp, sqT_mono hid_sub hp2, lim_ok (by rw [da.len, db.len]; exact hl), fun e => ?_, fun _ e => ?_, fun _ _ t ht' => ?_⟩
    · subst e
      cases da
      exact q _ H (Step.refl H) h2
    · subst e
      cases db
      rw [List.append_nil] at q
      exact q _ H (Step.refl H) h1
    · have s3 : Step [] H (upd H t (.tup (vs ++ ws))) := Step.new ht'
      have hph : t ∉ hs := fun m => ht t m ht'
      exact q _ _ s3 (.tup (.inl (.inl (by rw [hid_out hph]; exact upd_same))) ((da.app db).up (s3.hd0 (by simp))))) ha hb
end
section
variable {X : Cx} {K : PySem.W.Frag} {a b e : Expr} {p pos : Pos} {fa fb fe : FE}
theorem rt_cmp {op : CmpOp} {r : R2} {g : PyData → PyData → Option PyData} (ho : OpR X (compareOp op) r) (hr : ∀ x y z, g x y = some z → RD X.K r x y z) (ha : RE X a fa) (hb : RE X b fb) (hm : behindInMarks op b = false) : RT X (.Compare a [op] [b] pos) (fTru (fOp g fa fb)) := .mk fun st d c h => by
  obtain ⟨⟨w, c0⟩, h0, h⟩ := bind_some h
  obtain ⟨⟨x, c1⟩, h1, h0⟩ := bind_some h0
  obtain ⟨⟨y, c2⟩, h2, h0⟩ := bind_some h0
  obtain ⟨z, h3, e⟩ := map_some h0
  cases e
  simp only at h
  split at h <;> cases h
  exact RT.of (pt_cmpR ho (pwE a) (pwE b) hm) fun hs ps σ H R Q q => ed_op (ha _ _ _ h1) (hb _ _ _ h2) (hr _ _ _ h3) hs ps σ H R _ fun v H2 s2 R2 d2 => ⟨_, dp_bool d2, q H2 s2 R2⟩
theorem rd_eq {x y z : PyData} (h : gEq x y = some z) : RD K (rEqD K) x y z := by
  unfold gEq at h
  split at h <;> cases h
  rename_i hs
  exact fun _ H v w _ h1 h2 Q q => ⟨x, y, h1.up hid_sub, h2.up hid_sub, hs.1, hs.2, q _ H (Step.refl H) (.bl _)⟩
theorem rd_ne {x y z : PyData} (h : gNe x y = some z) : RD K (rNeD K) x y z := by
  unfold gNe at h
  split at h <;> cases h
  rename_i hs
  exact fun _ H v w _ h1 h2 Q q => ⟨x, y, h1.up hid_sub, h2.up hid_sub, hs.1, hs.2, q _ H (Step.refl H) (.bl _)⟩
theorem rd_notN {x y z : PyData} (h : gNotN x y = some z) : RD K (fun x y H Q => y = .non ∧ Q (.bl (!decide (x = .non))) H) x y z := by
  unfold gNotN at h
  split at h <;> cases h
  rename_i hs
  cases isNone_eq hs
  exact fun _ H v w _ h1 h2 Q q => ⟨dp_non h2, q _ H (Step.refl H) (by rw [isNone_dp h1]; exact .bl _)⟩
theorem rt_lt (ha : RE X a fa) (hb : RE X b fb) : RT X (.Compare a [.Lt] [b] pos) (fTru (fOp (gCmp fun i j => decide (i < j)) fa fb)) := rt_cmp op_lt (fun _ _ _ h => rd_cmp h) ha hb (nomark _)
theorem rt_le (ha : RE X a fa) (hb : RE X b fb) : RT X (.Compare a [.LtE] [b] pos) (fTru (fOp (gCmp fun i j => decide (i ≤ j)) fa fb)) := rt_cmp op_le (fun _ _ _ h => rd_cmp h) ha hb (nomark _)
theorem rt_gt (ha : RE X a fa) (hb : RE X b fb) : RT X (.Compare a [.Gt] [b] pos) (fTru (fOp (gCmp fun i j => decide (j < i)) fa fb)) := rt_cmp op_gt (fun _ _ _ h => rd_cmp h) ha hb (nomark _)
theorem rt_ge (ha : RE X a fa) (hb : RE X b fb) : RT X (.Compare a [.GtE] [b] pos) (fTru (fOp (gCmp fun i j => decide (j ≤ i)) fa fb)) := rt_cmp op_ge (fun _ _ _ h => rd_cmp h) ha hb (nomark _)
theorem rt_eq (hu : X.A.units + 64 < cLine) (ha : RE X a fa) (hb : RE X b fb) : RT X (.Compare a [.Eq] [b] pos) (fTru (fOp gEq fa fb)) := rt_cmp (op_eqD hu) (fun _ _ _ h => rd_eq h) ha hb (nomark _)
theorem rt_ne (hu : X.A.units + 64 < cLine) (ha : RE X a fa) (hb : RE X b fb) : RT X (.Compare a [.NotEq] [b] pos) (fTru (fOp gNe fa fb)) := rt_cmp (op_neD hu) (fun _ _ _ h => rd_ne h) ha hb (nomark _)
theorem rt_notN (ha : RE X a fa) (hb : RE X b fb) (hm : behindInMarks .IsNot b = false := by exact nomark _) : RT X (.Compare a [.IsNot] [b] pos) (fTru (fOp gNotN fa fb)) := rt_cmp op_notN (fun _ _ _ h => rd_notN h) ha hb hm
end
/-- a tuple that stands in the written part -/
theorem dp_kt {K : PySem.W.Frag} {H : Hp} {a : Addr} {dd : Option Addr} {its : Array Value} {n : Nat} {sl : Array (Option Value)} {vs : List V} {ds : List PyData} (h : K.lookup a = some ⟨.type "tuple", dd, .seq its n, sl⟩) (hz : its.size ≤ sizeLine) (r : Vals vs its.toList) (d : ∀ H, DpAll K H vs ds) : Dp K H (.ref a) (.tuple ds) :=
  .tup (.inr ⟨_, its, n, h, rfl, rfl, hz, r⟩) (d H)
end DL


set_option Elab.async false
set_option linter.all false
set_option maxRecDepth 100000
set_option maxHeartbeats 400000
/-! zip of a list and a tuple, either way round -/
namespace DL
open PySem PySem.Spec L2
open PyProof.Rows hiding St

/-- the items of a list (true) or of a tuple (false) -/
def Sq : Bool → PySem.W.Frag → Hp → Addr → List V → Prop
  | true => SqL
  | false => SqT
def OnHeap : Bool → Heap → Addr → Array Value → Prop
  | true => Heap.IsList
  | false => Heap.IsTuple
def ItOn : Bool → Heap → Addr → Addr → Nat → Prop
  | true => Heap.IsListIter
  | false => Heap.IsTupleIter
def itObj (l : Bool) (a : Addr) : Obj := { cls := .type (if l then "list_iterator" else "tuple_iterator"), data := .fields #[.ref a, .int 0 0] }
theorem itObj_on {l : Bool} {h : Heap} {c a : Addr} (e : h.get? c = some (itObj l a)) : ItOn l h c a 0 := by
  cases l
  · exact ⟨_, e, rfl, rfl⟩
  · exact ⟨_, e, rfl, rfl⟩
theorem ItOn.up {l : Bool} {h h' : Heap} {c a : Addr} {i : Nat} (e : ItOn l h c a i) (k : ∀ o, h.get? c = some o → h'.get? c = some o) : ItOn l h' c a i := by
  cases l
  · exact Heap.IsTupleIter.at e k
  · exact Heap.IsListIter.at e k
theorem ItOn.obj {l : Bool} {h : Heap} {c a : Addr} {i : Nat} (e : ItOn l h c a i) : ∃ o, h.get? c = some o ∧ ∀ v, o.data ≠ .cell v := by
  cases l
  · obtain ⟨o, h1, _, h2⟩ := e
    exact ⟨o, h1, fun v q => by rw [h2] at q; cases q⟩
  · obtain ⟨o, h1, _, h2⟩ := e
    exact ⟨o, h1, fun v q => by rw [h2] at q; cases q⟩
theorem OnHeap.lt {l : Bool} {h : Heap} {a : Addr} {its : Array Value} (e : OnHeap l h a its) : a < h.objs.size := by
  cases l
  · obtain ⟨o, h1, _⟩ := e
    exact Heap.lt_size h1
  · obtain ⟨o, h1, _⟩ := e
    exact Heap.lt_size h1
theorem itObj_begins (l : Bool) (a : Addr) (its : Array Value) : Begins (.ref a) (itObj l a) fun h => OnHeap l h a its := by
  cases l
  · exact begins_tuple a its
  · exact begins_list a its
theorem sq_draws (l : Bool) {P : Program} {w : World} {A : Around} (hh : A.handled = none) {c a : Addr} (ne : a ≠ c) (its : Array Value) : Draws P w A c [c, a] its.size (fun i v => its[i]? = some v) (fun i h => ItOn l h c a i ∧ OnHeap l h a its) := by
  cases l
  · exact Draws.tuple hh c a ne its
  · exact Draws.list hh c a ne its
section
variable {X : Cx} {pins : List (Addr × Obj)} {σ : L2.St} {H : Hp} {s : Shared} {a : Addr} {xs ys : List V} {l : Bool}
theorem Sq.heap (I : Inv X pins σ H s) (h : Sq l X.K H a xs) : ∃ its : List Value, Vals xs its ∧ OnHeap l s.heap a its.toArray := by
  cases l
  · obtain ⟨its, r, p, _⟩ := I.tuple h
    exact ⟨its, r, p⟩
  · obtain ⟨its, r, p, _⟩ := I.list h
    exact ⟨its, r, p.isList⟩
theorem Sq.one (I : Inv X pins σ H s) (h : Sq l X.K H a xs) (g : Sq l X.K H a ys) : xs = ys := by
  cases l
  · exact I.tuple_inj h g
  · exact I.list_inj h g
end
theorem Sq.gd {l : Bool} {K : PySem.W.Frag} {hs : List Addr} {H2 H3 : Hp} {p : Addr} {xs : List V} (g : GD hs H2 H3) (h : Sq l K (hid hs H2) p xs) : Sq l K H3 p xs := by
  cases l
  · exact sqT_gd g h
  · exact sqL_gd g h
/-- the pairs of two rows, as long as both last -/
def ItMx (l m : Bool) (K : PySem.W.Frag) (a b : Addr) : It where
  go i H := ∃ xs ys : List V, ∃ x y : V, Sq l K H a xs ∧ Sq m K H b ys ∧ xs[i]? = some x ∧ ys[i]? = some y
  yld i H v H' := ∃ (T : Addr) (x y : V), v = .ref T ∧ H T = none ∧ H' = upd H T (.tup [x, y]) ∧ (∀ xs, Sq l K H a xs → xs[i]? = some x) ∧ ∀ ys, Sq m K H b ys → ys[i]? = some y
  stop i H := ∃ xs ys : List V, Sq l K H a xs ∧ Sq m K H b ys ∧ i = min xs.length ys.length
theorem walk_mx {l m : Bool} {K : PySem.W.Frag} {a b : Addr} {xs ys : List V} {n : Nat} (hn : n = min xs.length ys.length) : Walk (ItMx l m K a b) n (fun H => Sq l K H a xs ∧ Sq m K H b ys) (YPair (fun i => xs[i]?) (fun i => ys[i]?)) := by
  subst hn
  constructor
  · intro i H hi ⟨q1, q2⟩
    exact ⟨xs, ys, _, _, q1, q2, List.getElem?_eq_getElem (by omega), List.getElem?_eq_getElem (by omega)⟩
  · intro H ⟨q1, q2⟩
    exact ⟨xs, ys, q1, q2, rfl⟩
  · rintro i H v H' _ ⟨q1, q2⟩ ⟨T, x, y, h1, h2, h3, h4, h5⟩
    exact ⟨T, x, y, h1, h2, h3, h4 _ q1, h5 _ q2⟩
/-- the five cells of a running zip -/
structure Five (z t u c d a b : Addr) : Prop where
  tz : t ≠ z
  uz : u ≠ z
  cz : c ≠ z
  dz : d ≠ z
  tu : t ≠ u
  tc : t ≠ c
  td : t ≠ d
  uc : u ≠ c
  ud : u ≠ d
  cd : c ≠ d
  az : a ≠ z
  au : a ≠ u
  ac : a ≠ c
  ad : a ≠ d
  bz : b ≠ z
  bu : b ≠ u
  bc : b ≠ c
  bd : b ≠ d
theorem Five.sep {z t u c d a b : Addr} (D : Five z t u c d a b) : ZipSep2 z t u c d [c, a] [d, b] where
  TIz := D.tz
  TOz := D.uz
  TITO := D.tu
  TIi1 := D.tc
  mem1 := by simp
  zf1 := by simp [D.cz.symm, D.az.symm]
  Tf1 := by simp [D.uc, D.au.symm]
  TIi2 := D.td
  mem2 := by simp
  zf2 := by simp [D.dz.symm, D.bz.symm]
  Tf2 := by simp [D.ud, D.bu.symm]
  sep1_2 := by simp [D.cd, D.bc.symm]
  sep2_1 := by simp [D.cd.symm, D.ad.symm]
theorem five_new {n a b : Nat} (ha : a < n) (hb : b < n) : Five (n + 4) (n + 2) (n + 3) n (n + 1) a b := by
  constructor <;> (intro e; have e2 : @Eq Nat _ _ := e; omega)
def MxAt (l m : Bool) (a b z t u c d : Addr) (i : Nat) (h : Heap) : Prop := IsZip h z t u .none ∧ IsTupOf2 h t (.ref c) (.ref d) ∧ (∃ x y, IsTupOf2 h u x y) ∧ ItOn l h c a i ∧ ItOn m h d b i
theorem in5 {x z t u c d : Addr} (h : x ∈ [z, t, u, c, d]) : x = z ∨ x = t ∨ x = u ∨ x = c ∨ x = d := by simpa using h
theorem not5 {x z t u c d : Addr} (h : x ∉ [z, t, u, c, d]) : x ≠ z ∧ x ≠ u ∧ x ≠ c ∧ x ≠ d := by
  refine ⟨?_, ?_, ?_, ?_⟩ <;> intro e <;> exact h (by simp [e])
theorem turn_mx {P : Program} {w : World} {K : PySem.W.Frag} {es : List Expr} {kk : Nat} {tp : Pos} {l m : Bool} {a b z t u c d : Addr} (D : Five z t u c d a b) :
    Turn P w K (.Tuple es kk tp) (ItMx l m K a b) [z, t, u, c, d] z (MxAt l m a b z t u c d) := by
  constructor
  case mem => simp
  case obj =>
    rintro i h ⟨g1, g2, ⟨x, y, g3⟩, g4, g5⟩ b hb
    rcases in5 hb with e | e | e | e | e <;> subst e
    · exact ⟨_, g1, fun v q => nomatch q⟩
    · exact ⟨_, g2, fun v q => nomatch q⟩
    · exact ⟨_, g3, fun v q => nomatch q⟩
    · exact g4.obj
    · exact g5.obj
  case keep =>
    rintro i h h' ⟨g1, g2, ⟨x, y, g3⟩, g4, g5⟩ k
    exact ⟨k _ (by simp) _ g1, k _ (by simp) _ g2, ⟨x, y, k _ (by simp) _ g3⟩, g4.up (k _ (by simp)), g5.up (k _ (by simp))⟩
  case item =>
    intro X hP hw hK hc i pins s σ H E I hf st hg
    subst hP hw hK
    obtain ⟨g1, g2, ⟨x0, y0, g3⟩, g4, g5⟩ := st
    obtain ⟨xs, ys, x, y, q1, q2, hx, hy⟩ := hg
    obtain ⟨us, r1, p1⟩ := q1.heap I
    obtain ⟨vs, r2, p2⟩ := q2.heap I
    obtain ⟨x1, e1, w1⟩ := r1.get hx
    obtain ⟨y1, e2, w2⟩ := r2.get hy
    have hh : X.A.in1.handled = none := I.ok.hd hc
    have zl : z < s.heap.objs.size := Heap.lt_size g1
    have l1 : i < us.toArray.size := by simpa using (List.getElem?_eq_some_iff.mp e1).1
    have l2 : i < vs.toArray.size := by simpa using (List.getElem?_eq_some_iff.mp e2).1
    refine wpAny_pyNext_zipD2_item D.sep (sq_draws l hh D.ac _) (sq_draws m hh D.bd _) g1 g2 g3 ⟨g4, p1⟩ ⟨g5, p2⟩ l1 l2 fun x2 y2 h' tk f1 f2 n1 n2 n3 n4 n5 n6 n7 => ?_
    have f1' : us[i]? = some x2 := by simpa using f1
    have f2' : vs[i]? = some y2 := by simpa using f2
    rw [e1] at f1'
    rw [e2] at f2'
    cases f1'
    cases f2'
    refine ⟨_, rfl, wpAny_letOwnedTupleGo_zip (s := { s with heap := h', toks := tk }) n1 fun h2 m1 sb => ?_⟩
    replace sb : Heap.SameBut z h' h2 := sb
    have up : ∀ c o, c ≠ z → h'.get? c = some o → h2.get? c = some o := fun c o ne e => (sb.2 c ne).trans e
    have mT := up _ _ (Nat.ne_of_gt zl) n5
    have new : ObjOk X.prog X.w (upd H s.heap.objs.size (.tup [x, y])) h2 s.heap.objs.size (.tup [x, y]) :=
      ⟨by show 2 ≤ sizeLine; decide, [x1, y1], .cons w1 (.cons w2 .nil), ⟨_, mT, rfl, _, rfl⟩⟩
    have I1 := I.turnedNew (t' := tk) (ch := [z, t, u, c, d]) (fun b o hb q => up _ _ (not5 hb).1 (n7 b o (not5 hb).1 (not5 hb).2.1 (not5 hb).2.2.1 (not5 hb).2.2.2 q)) hf (Nat.le_refl _) new
    refine ⟨.ref s.heap.objs.size, _, I1, rfl, ⟨_, x, y, rfl, I.hok.fresh (Nat.le_refl _), rfl, fun zs hz => ?_, fun zs hz => ?_⟩, ⟨m1, up _ _ D.tz (n7 _ _ D.tz D.tu D.tc D.td g2), ⟨x1, y1, up _ _ D.uz n2⟩, n3.1.up fun o => up _ _ D.cz, n4.1.up fun o => up _ _ D.dz⟩, fun b hb => ?_⟩
    · rw [Sq.one I hz q1]; exact hx
    · rw [Sq.one I hz q2]; exact hy
    · have lt : b < s.heap.objs.size := by
        rcases in5 hb with e | e | e | e | e <;> subst e
        · exact zl
        · exact Heap.lt_size g2
        · exact Heap.lt_size g3
        · obtain ⟨o, e, _⟩ := g4.obj
          exact Heap.lt_size e
        · obtain ⟨o, e, _⟩ := g5.obj
          exact Heap.lt_size e
      rw [upd_ne (Nat.ne_of_lt lt)]
      exact (hf b hb).1
  case done =>
    intro X hP hw hK hc i pins s σ H E I hf st hg
    subst hP hw hK
    obtain ⟨g1, g2, ⟨x0, y0, g3⟩, g4, g5⟩ := st
    obtain ⟨xs, ys, q1, q2, he⟩ := hg
    obtain ⟨us, r1, p1⟩ := q1.heap I
    obtain ⟨vs, r2, p2⟩ := q2.heap I
    have e1 := r1.length
    have e2 := r2.length
    have hh : X.A.in1.handled = none := I.ok.hd hc
    exact wpAny_pyNext_zipD2_end D.sep (sq_draws l hh D.ac us.toArray) (sq_draws m hh D.bd vs.toArray) g1 g2 g3 ⟨g4, p1⟩ ⟨g5, p2⟩ (by simp only [List.size_toArray]; omega) (by simp only [List.size_toArray]; omega) (by simp only [List.size_toArray]; omega)
      fun h' tk k => ⟨rfl, I.turnedL (t' := tk) (ch := [z, t, u, c, d]) (fun b o hb q => k b o (not5 hb).1 (not5 hb).2.1 (not5 hb).2.2.1 (not5 hb).2.2.2 q) hf⟩
  case self => exact fun A i s Q E st h => wpAny_pyIter_zip st.1 h
def iMx (l m : Bool) (K : PySem.W.Frag) (ta : TA) : TI := fun σ H R => ta σ H fun vs H1 => ∃ (a b : Addr) (xs ys : List V), vs = [.ref a, .ref b] ∧ Sq l K H1 a xs ∧ Sq m K H1 b ys ∧ R (ItMx l m K a b) H1
theorem pi_mx {X : Cx} {l m : Bool} {e e2 : Expr} {ta : TA} {p pos tp : Pos} {es : List Expr} {kk : Nat} (hg : Gl X "zip") (hm : X.mg "zip" = none) (ha : PA X [e, e2] ta)
    (hs : starEach [e, e2] X.env = (false, eval e X.env) :: starEach [e2] X.env) (hpl : (backTo pos (starEach [e2] X.env)).any (·.1) = false) :
    PI X (.Tuple es kk tp) (.Call (.Name "zip" p) [e, e2] [] pos) (iMx l m X.K ta) := by
  constructor
  intro pins s σ H R I h
  refine Call_ (ld_blt I hg hm PyProof.Rows.boot_zip (PyProof.Rows.callWith_type1 (thn (ha.run pos pins s σ H _ I h) ?_) hs hpl))
  rintro us s1 ⟨vs, H1, I1, r, a, b, xs, ys, rfl, q1, q2, q⟩
  obtain ⟨u1, us1, rfl, w1, r1⟩ : ∃ u us', us = u :: us' ∧ RelV (.ref a) u ∧ Vals [.ref b] us' := by cases r with | cons x y => exact ⟨_, _, rfl, x, y⟩
  obtain ⟨u2, rfl, w2⟩ := vals1 r1
  cases w1
  cases w2
  obtain ⟨as, _, p1⟩ := q1.heap I1
  obtain ⟨bs, _, p2⟩ := q2.heap I1
  refine zip_begins2 (itObj_begins l a _) (itObj_begins m b _) p1 p2 fun h' g1 g2 g3 g4 g5 _ k => wpAny_pyIter_zip g1 ?_
  refine ⟨s1.heap.objs.size + 4, [s1.heap.objs.size + 4, s1.heap.objs.size + 2, s1.heap.objs.size + 3, s1.heap.objs.size, s1.heap.objs.size + 1], _, _, H1, rfl, I1.kept (t' := s1.toks) k, turn_mx (five_new p1.lt p2.lt), ⟨g1, g2, ⟨_, _, g3⟩, itObj_on g4, itObj_on g5⟩, fun c hc => ?_, q⟩
  have le : s1.heap.objs.size ≤ c := by
    rcases in5 hc with e | e | e | e | e <;> rw [e] <;> omega
  exact I1.fpOk le (I1.hok.fresh le)
end DL


set_option Elab.async false
set_option linter.all false
set_option maxRecDepth 100000
set_option maxHeartbeats 1000000
/-! enumerate over a tuple as over a list -/
namespace DL
open PySem PySem.Spec L2
open PyProof.Rows hiding St

def enObj (it : Addr) : Obj where
  data := .fields #[.none, .bool false, .ref it, rawInt 0, .none, .none]
  cls := .type "enumerate"
theorem en_new {v : Value} {o : Obj} {Hp0 : Heap → Prop} (B : Begins v o Hp0) : Meets (Builtin.«enumerate.__new__» { pos := [.type "enumerate", v], kw := [] }) fun _ R s => Hp0 s.heap ∧ R (.ok (.ret (.ref (s.heap.push o).objs.size))) { s with heap := (s.heap.push o).push (enObj s.heap.objs.size) } := by
  refine Meets.of_wp ?_
  rintro P w A R ⟨hp, gs, dr, tk, os⟩ ⟨hb, hR⟩
  have sub := sub_enumerate
  have hit : ∀ {A1 : Around} {E1 Q1 : Value → Shared → Prop}, Q1 (.ref hp.objs.size) ⟨hp.push o, gs, dr, tk, os⟩ → wpAny (model P w) A1 (pyIter v) Q1 E1 ⟨hp, gs, dr, tk, os⟩ := fun hq => B.iter P w _ _ _ _ hb hq
  wp_walk using hit
  refine wpAny_stack_any fun fr => wpAny_pure ?_
  split
  · rename_i k _ _ _ _ _
    by_cases hk : (k == Value.type "enumerate") = true
    · rw [hk]
      wp_walk using hit
      exact ⟨_, rfl, hR⟩
    · rw [Bool.eq_false_iff.mpr hk]
      wp_walk using hit
      exact ⟨_, rfl, hR⟩
  · wp_walk using hit
    exact ⟨_, rfl, hR⟩
theorem en_call {P : Program} {w : World} {A : Around} {E : Value → Shared → Prop} {s : Shared} {v : Value} {o : Obj} {Hp0 : Heap → Prop} {Q : Value → Shared → Prop} (B : Begins v o Hp0) (hb : Hp0 s.heap)
    (hQ : ∀ h', IsEnum h' (s.heap.objs.size + 1) s.heap.objs.size 0 .none → h'.get? s.heap.objs.size = some o → (∀ c u, s.heap.get? c = some u → h'.get? c = some u) → Q (.ref (s.heap.objs.size + 1)) { s with heap := h' }) :
    wpAny (model P w) A (call (.type "enumerate") [v]) Q E s := by
  refine callType_new F.called_enumerate (by decide) (F.typeCall_enumerate_1 _) (F.newCall_enumerate_1 _) (fun ob => F.args_object_init_2 ob _) F.entry_enumerate_new (en_new B) ⟨hb, ?_⟩
  have sz : (s.heap.push o).objs.size = s.heap.objs.size + 1 := Heap.size_push ..
  have gE : ((s.heap.push o).push (enObj s.heap.objs.size)).get? (s.heap.objs.size + 1) = some (enObj s.heap.objs.size) := by
    rw [← sz]; exact Heap.get?_push_size _ rfl
  have gO : ((s.heap.push o).push (enObj s.heap.objs.size)).get? s.heap.objs.size = some o := Heap.get?_push_of_some _ (Heap.get?_push_size _ B.free)
  show _ ∧ _
  rw [sz]
  exact ⟨⟨_, gE, rfl⟩, hQ _ gE gO fun c u e => Heap.get?_push_of_some _ (Heap.get?_push_of_some _ e)⟩
/-- the items of a row with their places -/
def ItEx (l : Bool) (K : PySem.W.Frag) (a : Addr) : It where
  go i H := ∃ xs : List V, ∃ x : V, Sq l K H a xs ∧ xs[i]? = some x
  yld i H v H' := ∃ (T : Addr) (x : V), v = .ref T ∧ H T = none ∧ H' = upd H T (.tup [.int (i : Nat), x]) ∧ ∀ xs, Sq l K H a xs → xs[i]? = some x
  stop i H := ∃ xs : List V, Sq l K H a xs ∧ i = xs.length
theorem walk_ex {l : Bool} {K : PySem.W.Frag} {a : Addr} {xs : List V} : Walk (ItEx l K a) xs.length (fun H => Sq l K H a xs) (YPair (fun i => some (.int (i : Nat))) (fun i => xs[i]?)) := by
  constructor
  · intro i H hi q
    exact ⟨xs, _, q, List.getElem?_eq_getElem hi⟩
  · intro H q
    exact ⟨xs, q, rfl⟩
  · rintro i H v H' _ q ⟨T, x, h1, h2, h3, h4⟩
    exact ⟨T, _, x, h1, h2, h3, rfl, h4 _ q⟩
def ExAt (l : Bool) (a e c : Addr) (i : Nat) (h : Heap) : Prop := (∃ old, IsEnum h e c ((i : Nat) : Int) old) ∧ ItOn l h c a i
theorem in2 {x e c : Addr} (h : x ∈ [e, c]) : x = e ∨ x = c := by simpa using h
theorem turn_ex {P : Program} {w : World} {K : PySem.W.Frag} {es : List Expr} {kk : Nat} {tp : Pos} {l : Bool} {a e c : Addr} (ec : e ≠ c) (ea : e ≠ a) (ca : c ≠ a) :
    Turn P w K (.Tuple es kk tp) (ItEx l K a) [e, c] e (ExAt l a e c) := by
  constructor
  case mem => simp
  case obj =>
    rintro i h ⟨⟨old, g1⟩, g2⟩ b hb
    rcases in2 hb with q | q <;> subst q
    · exact ⟨_, g1, fun v q => nomatch q⟩
    · exact g2.obj
  case keep =>
    rintro i h h' ⟨⟨old, g1⟩, g2⟩ k
    exact ⟨⟨old, k _ (by simp) _ g1⟩, g2.up (k _ (by simp))⟩
  case item =>
    intro X hP hw hK hc i pins s σ H E I hf st hg
    subst hP hw hK
    obtain ⟨⟨old, g1⟩, g2⟩ := st
    obtain ⟨xs, x, q1, hx⟩ := hg
    obtain ⟨us, r1, p1⟩ := q1.heap I
    obtain ⟨x1, e1, w1⟩ := r1.get hx
    have hh : X.A.in1.handled = none := I.ok.hd hc
    have el : e < s.heap.objs.size := Heap.lt_size g1
    have l1 : i < us.toArray.size := by simpa using (List.getElem?_eq_some_iff.mp e1).1
    have D := sq_draws (P := X.prog) (w := X.w) l hh (Ne.symm ca) us.toArray
    refine wpAny_pyNext_enum_itemD D g1 ⟨g2, p1⟩ l1 ec (by simp [ec, ea]) fun x2 h' tk f1 n1 n2 n3 n4 n5 => ?_
    have f1' : us[i]? = some x2 := by simpa using f1
    rw [e1] at f1'
    cases f1'
    refine ⟨_, rfl, wpAny_letOwnedTupleGo_enum (s := { s with heap := h', toks := tk + 1 }) n1 fun h2 m1 sb => ?_⟩
    replace sb : Heap.SameBut e h' h2 := sb
    have up : ∀ c o, c ≠ e → h'.get? c = some o → h2.get? c = some o := fun c o ne q => (sb.2 c ne).trans q
    have mT := up _ _ (Nat.ne_of_gt el) n3
    have new : ObjOk X.prog X.w (upd H s.heap.objs.size (.tup [.int (i : Nat), x])) h2 s.heap.objs.size (.tup [.int (i : Nat), x]) :=
      ⟨by show 2 ≤ sizeLine; decide, [.int i tk, x1], .cons ⟨_, rfl⟩ (.cons w1 .nil), ⟨_, mT, rfl, _, rfl⟩⟩
    have nb : ∀ b, b ∉ [e, c] → b ≠ e ∧ b ≠ c := fun b hb => ⟨fun z => hb (by simp [z]), fun z => hb (by simp [z])⟩
    have I1 := I.turnedNew (t' := tk + 1) (ch := [e, c]) (fun b o hb q => up _ _ (nb b hb).1 (n5 b o (nb b hb).1 (nb b hb).2 q)) hf (Nat.le_refl _) new
    refine ⟨.ref s.heap.objs.size, _, I1, rfl, ⟨_, x, rfl, I.hok.fresh (Nat.le_refl _), rfl, fun zs hz => ?_⟩, ⟨⟨x1, ?_⟩, n2.1.up fun o => up _ _ (Ne.symm ec)⟩, fun b hb => ?_⟩
    · rw [Sq.one I hz q1]; exact hx
    · have e1 : ((i + 1 : Nat) : Int) = (i : Int) + 1 := by omega
      rw [e1]; exact m1
    · have lt : b < s.heap.objs.size := by
        rcases in2 hb with q | q <;> subst q
        · exact el
        · obtain ⟨o, q, _⟩ := g2.obj
          exact Heap.lt_size q
      rw [upd_ne (Nat.ne_of_lt lt)]
      exact (hf b hb).1
  case done =>
    intro X hP hw hK hc i pins s σ H E I hf st hg
    subst hP hw hK
    obtain ⟨⟨old, g1⟩, g2⟩ := st
    obtain ⟨xs, q1, he⟩ := hg
    obtain ⟨us, r1, p1⟩ := q1.heap I
    have e1 := r1.length
    have hh : X.A.in1.handled = none := I.ok.hd hc
    have hi : us.toArray.size = i := by simp only [List.size_toArray]; omega
    have D := sq_draws (P := X.prog) (w := X.w) l hh (Ne.symm ca) us.toArray
    exact wpAny_pyNext_enum_endD D g1 (by rw [hi]; exact ⟨g2, p1⟩) fun h' eb => ⟨rfl, I.turnedL (t' := s.toks) (ch := [e, c]) (fun b o hb q => eb b o (fun z => hb (by simp [z])) q) hf⟩
  case self =>
    rintro A i s Q E ⟨⟨_, g1⟩, _⟩ h
    exact wpAny_pyIter_enum g1 h
def iEx (l : Bool) (K : PySem.W.Frag) (ta : TA) : TI := fun σ H R => ta σ H fun vs H1 => ∃ (a : Addr) (xs : List V), vs = [.ref a] ∧ Sq l K H1 a xs ∧ R (ItEx l K a) H1
theorem pi_ex {X : Cx} {l : Bool} {e : Expr} {ta : TA} {p pos tp : Pos} {es : List Expr} {kk : Nat} (hg : Gl X "enumerate") (hm : X.mg "enumerate" = none) (ha : PA X [e] ta) (hs : starEach [e] X.env = [(false, eval e X.env)]) :
    PI X (.Tuple es kk tp) (.Call (.Name "enumerate" p) [e] [] pos) (iEx l X.K ta) := by
  constructor
  intro pins s σ H R I h
  refine Call_ (ld_blt I hg hm PyProof.Rows.boot_enumerate (PyProof.Rows.callWith_type1 (thn (ha.run pos pins s σ H _ I h) ?_) hs rfl))
  rintro us s1 ⟨vs, H1, I1, r, a, xs, rfl, q1, q⟩
  obtain ⟨u1, rfl, w1⟩ := vals1 r
  cases w1
  obtain ⟨as, _, p1⟩ := q1.heap I1
  refine en_call (itObj_begins l a _) p1 fun h' g1 g2 k => wpAny_pyIter_enum g1 ?_
  have la := p1.lt
  refine ⟨s1.heap.objs.size + 1, [s1.heap.objs.size + 1, s1.heap.objs.size], _, _, H1, rfl, I1.kept (t' := s1.toks) k, turn_ex (a := a) (Nat.succ_ne_self _) (Nat.ne_of_gt (Nat.lt_succ_of_lt la)) (Nat.ne_of_gt la), ⟨⟨_, g1⟩, itObj_on g2⟩, fun c hc => ?_, q⟩
  have le : s1.heap.objs.size ≤ c := by
    rcases in2 hc with e | e <;> rw [e]
    · exact Nat.le_succ _
    · exact Nat.le_refl _
  exact I1.fpOk le (I1.hok.fresh le)
end DL


set_option Elab.async false
set_option linter.all false
set_option maxRecDepth 100000
set_option maxHeartbeats 400000
namespace DL
open PySem PySem.Spec L2
open PyProof.Rows hiding St

/-! ### zip and enumerate -/
def enumD : Nat → List PyData → List PyData
  | _, [] => []
  | k, x :: xs => .tuple [.int (k : Nat), x] :: enumD (k + 1) xs
def zipD : List PyData → List PyData → List PyData
  | x :: xs, y :: ys => .tuple [x, y] :: zipD xs ys
  | _, _ => []
theorem enumD_len : ∀ (k : Nat) (xs : List PyData), (enumD k xs).length = xs.length
  | _, [] => rfl
  | k, x :: xs => by simp only [enumD, List.length_cons, enumD_len (k + 1) xs]
theorem enumD_get : ∀ (k : Nat) (xs : List PyData) (i : Nat) (x : PyData), xs[i]? = some x → (enumD k xs)[i]? = some (.tuple [.int ((k + i : Nat) : Int), x])
  | _, [], i, x, h => by simp at h
  | k, y :: ys, 0, x, h => by
    have e : y = x := by simpa using h
    subst e
    rfl
  | k, y :: ys, i + 1, x, h => by
    have h' : ys[i]? = some x := by simpa using h
    have := enumD_get (k + 1) ys i x h'
    show (enumD (k + 1) ys)[i]? = _
    rw [this, show k + 1 + i = k + (i + 1) from by omega]
theorem zipD_len : ∀ (xs ys : List PyData), (zipD xs ys).length = min xs.length ys.length
  | [], ys => by simp [zipD]
  | x :: xs, [] => by simp [zipD]
  | x :: xs, y :: ys => by simp only [zipD, List.length_cons, zipD_len xs ys]; omega
theorem zipD_get : ∀ (xs ys : List PyData) (i : Nat) (x y : PyData), xs[i]? = some x → ys[i]? = some y → (zipD xs ys)[i]? = some (.tuple [x, y])
  | [], ys, i, x, y, h, _ => by simp at h
  | a :: xs, [], i, x, y, _, h => by simp at h
  | a :: xs, b :: ys, 0, x, y, h, g => by
    have e : a = x := by simpa using h
    have e2 : b = y := by simpa using g
    subst e e2
    rfl
  | a :: xs, b :: ys, i + 1, x, y, h, g => zipD_get xs ys i x y (by simpa using h) (by simpa using g)
/-- a pair that is made on the way -/
theorem pair_new {K : PySem.W.Frag} {hs hs' : List Addr} {H2 H3 : Hp} {T : Addr} {x y : V} {d e : PyData} (g : GD hs H2 H3) (ht : H3 T = none) (h1 : ∀ a ∈ hs', a ∉ hs → H2 a = none) (h2 : ∀ a ∈ hs', H3 a ≠ none) (dx : Dp K (hid hs H2) x d) (dy : Dp K (hid hs H2) y e) :
    Dp K (hid hs' (upd H3 T (.tup [x, y]))) (.ref T) (.tuple [d, e]) := by
  have n : T ∉ hs' := fun m => h2 T m ht
  have sb : Sub (hid hs H2) (hid hs' (upd H3 T (.tup [x, y]))) := fun a o q => by
    have q' := g.sub (hs' := hs') h1 a o q
    obtain ⟨m, q2⟩ := hid_some q'
    rw [hid_out m, upd_ne (fun z => by rw [z, ht] at q2; cases q2)]
    exact q2
  exact .tup (.inl (.inl (by rw [hid_out n]; exact upd_same))) (.cons (dx.up sb) (.cons (dy.up sb) .nil))
theorem walk_dE {K : PySem.W.Frag} {hs : List Addr} {H2 : Hp} {p : Addr} {ws : List V} {ds : List PyData} (hp : SqL K (hid hs H2) p ws) (da : DpAll K (hid hs H2) ws ds) : Walk (Ite K p) (enumD 0 ds).length (GD hs H2) (YD K hs H2 (enumD 0 ds)) := by
  rw [enumD_len, ← da.len]
  refine (walk_enum (K := K) (a := p) (xs := ws)).mono (fun H3 g => sqL_gd g hp) fun i H3 x H' hi g y => ?_
  obtain ⟨T, u, v, rfl, ht, rfl, h1, h2⟩ := y
  cases h1
  obtain ⟨d, h3, h4⟩ := da.getV h2
  refine ⟨Step.new ht, _, enumD_get 0 ds i d h3, fun hs' q1 q2 => ?_⟩
  rw [Nat.zero_add]
  exact pair_new g ht q1 q2 (.int _) h4
theorem walk_dZ {K : PySem.W.Frag} {hs : List Addr} {H2 : Hp} {p q : Addr} {ws us : List V} {ds es : List PyData} (hp : SqL K (hid hs H2) p ws) (hq : SqL K (hid hs H2) q us) (da : DpAll K (hid hs H2) ws ds) (db : DpAll K (hid hs H2) us es) : Walk (Itz K p q) (zipD ds es).length (GD hs H2) (YD K hs H2 (zipD ds es)) := by
  refine (walk_zip (K := K) (a := p) (b := q) (xs := ws) (ys := us) (by rw [zipD_len, da.len, db.len])).mono (fun H3 g => ⟨sqL_gd g hp, sqL_gd g hq⟩) fun i H3 x H' hi g y => ?_
  obtain ⟨T, u, v, rfl, ht, rfl, h1, h2⟩ := y
  obtain ⟨d, h3, h4⟩ := da.getV h1
  obtain ⟨e, h5, h6⟩ := db.getV h2
  exact ⟨Step.new ht, _, zipD_get ds es i d e h3 h5, fun hs' q1 q2 => pair_new g ht q1 q2 h4 h6⟩
section
variable {K : PySem.W.Frag} {a b : Addr} {xs ys : List V}
theorem walk_zipTT {n : Nat} (hn : n = min xs.length ys.length) : Walk (RZ.ItzT K a b) n (fun H => SqT K H a xs ∧ SqT K H b ys) (YPair (fun i => xs[i]?) (fun i => ys[i]?)) := by
  subst hn
  refine ⟨fun i _ hi q => ?_, fun _ q => ⟨xs, ys, q.1, q.2, by omega⟩, fun i H v H' _ q y => ?_⟩
  · have h1 : i < xs.length := by omega
    have h2 : i < ys.length := by omega
    exact ⟨xs, ys, xs[i], ys[i], q.1, q.2, by simp [h1], by simp [h2]⟩
  · obtain ⟨T, x, z, h1, h2, h3, h4, h5⟩ := y
    exact ⟨T, x, z, h1, h2, h3, h4 xs q.1, h5 ys q.2⟩
end
theorem walk_dZT {K : PySem.W.Frag} {hs : List Addr} {H2 : Hp} {p q : Addr} {ws us : List V} {ds es : List PyData} (hp : SqT K (hid hs H2) p ws) (hq : SqT K (hid hs H2) q us) (da : DpAll K (hid hs H2) ws ds) (db : DpAll K (hid hs H2) us es) : Walk (RZ.ItzT K p q) (zipD ds es).length (GD hs H2) (YD K hs H2 (zipD ds es)) := by
  refine (walk_zipTT (K := K) (a := p) (b := q) (xs := ws) (ys := us) (by rw [zipD_len, da.len, db.len])).mono (fun H3 g => ⟨sqT_gd g hp, sqT_gd g hq⟩) fun i H3 x H' hi g y => ?_
  obtain ⟨T, u, v, rfl, ht, rfl, h1, h2⟩ := y
  obtain ⟨d, h3, h4⟩ := da.getV h1
  obtain ⟨e, h5, h6⟩ := db.getV h2
  exact ⟨Step.new ht, _, zipD_get ds es i d e h3 h5, fun hs' q1 q2 => pair_new g ht q1 q2 h4 h6⟩
theorem walk_dM {l m : Bool} {K : PySem.W.Frag} {hs : List Addr} {H2 : Hp} {p q : Addr} {ws us : List V} {ds es : List PyData} (hp : Sq l K (hid hs H2) p ws) (hq : Sq m K (hid hs H2) q us) (da : DpAll K (hid hs H2) ws ds) (db : DpAll K (hid hs H2) us es) : Walk (ItMx l m K p q) (zipD ds es).length (GD hs H2) (YD K hs H2 (zipD ds es)) := by
  refine (walk_mx (l := l) (m := m) (K := K) (a := p) (b := q) (xs := ws) (ys := us) (by rw [zipD_len, da.len, db.len])).mono (fun H3 g => ⟨Sq.gd g hp, Sq.gd g hq⟩) fun i H3 x H' hi g y => ?_
  obtain ⟨T, u, v, rfl, ht, rfl, h1, h2⟩ := y
  obtain ⟨d, h3, h4⟩ := da.getV h1
  obtain ⟨e, h5, h6⟩ := db.getV h2
  exact ⟨Step.new ht, _, zipD_get ds es i d e h3 h5, fun hs' q1 q2 => pair_new g ht q1 q2 h4 h6⟩
theorem walk_dEx {l : Bool} {K : PySem.W.Frag} {hs : List Addr} {H2 : Hp} {p : Addr} {ws : List V} {ds : List PyData} (hp : Sq l K (hid hs H2) p ws) (da : DpAll K (hid hs H2) ws ds) : Walk (ItEx l K p) (enumD 0 ds).length (GD hs H2) (YD K hs H2 (enumD 0 ds)) := by
  rw [enumD_len, ← da.len]
  refine (walk_ex (l := l) (K := K) (a := p) (xs := ws)).mono (fun H3 g => Sq.gd g hp) fun i H3 x H' hi g y => ?_
  obtain ⟨T, u, v, rfl, ht, rfl, h1, h2⟩ := y
  cases h1
  obtain ⟨d, h3, h4⟩ := da.getV h2
  refine ⟨Step.new ht, _, enumD_get 0 ds i d h3, fun hs' q1 q2 => ?_⟩
  rw [Nat.zero_add]
  exact pair_new g ht q1 q2 (.int _) h4
section
variable {X : Cx} {a b e : Expr} {fa : FA} {p pos : Pos}
def fEnum (a : FA) : FL := fun st => (a st).bind fun q => match q.1 with
  | [.dat (.list xs)] => some (enumD 0 xs, q.2)
  | [.dat (.tuple xs)] => some (enumD 0 xs, q.2)
  | _ => none
def fZip (a : FA) : FL := fun st => (a st).bind fun q => match q.1 with
  | [.dat (.list xs), .dat (.list ys)] => some (zipD xs ys, q.2)
  | [.dat (.tuple xs), .dat (.tuple ys)] => some (zipD xs ys, q.2)
  | [.dat (.list xs), .dat (.tuple ys)] => some (zipD xs ys, q.2)
  | [.dat (.tuple xs), .dat (.list ys)] => some (zipD xs ys, q.2)
  | _ => none
theorem ri_enum {elts : List Expr} {kk : Nat} {tpos : Pos} (hg : Gl X "enumerate") (hm : X.mg "enumerate" = none) (ha : RA X [a] fa) (hs : starEach [a] X.env = [(false, eval a X.env)] := by rfl) : RI X (.Tuple elts kk tpos) (.Call (.Name "enumerate" p) [a] [] pos) (fEnum fa) := .mk fun st xs c h => by
  obtain ⟨⟨y, c1⟩, h1, h⟩ := bind_some h
  simp only at h
  split at h
  · cases h
    exact RI.of (pi_enum hg hm (pwA [a]) hs) fun hs ps σ H R Q q => ha _ _ _ h1 hs ps σ H R _ fun vs H2 s2 R2 p2 => by
      obtain ⟨v, rfl, d⟩ := dpa1 (paired_dat (ds := [_]) p2)
      obtain ⟨p, ws, rfl, hp, da⟩ := dp_list d
      exact ⟨p, ws, rfl, sqL_mono hid_sub hp, q _ H2 s2 R2 (walk_dE hp da)⟩
  · cases h
    exact RI.of (pi_ex (l := false) hg hm (pwA [a]) hs) fun hs ps σ H R Q q => ha _ _ _ h1 hs ps σ H R _ fun vs H2 s2 R2 p2 => by
      obtain ⟨v, rfl, d⟩ := dpa1 (paired_dat (ds := [_]) p2)
      obtain ⟨p, ws, rfl, hp, da⟩ := dp_tuple d
      exact ⟨p, ws, rfl, sqT_mono hid_sub hp, q _ H2 s2 R2 (walk_dEx (l := false) hp da)⟩
  · cases h
theorem ri_zip {elts : List Expr} {kk : Nat} {tpos : Pos} (hg : Gl X "zip") (hm : X.mg "zip" = none) (ha : RA X [a, b] fa) (hs : starEach [a, b] X.env = (false, eval a X.env) :: starEach [b] X.env := by rfl)
    (hpl : (backTo pos (starEach [b] X.env)).any (·.1) = false := by rfl) : RI X (.Tuple elts kk tpos) (.Call (.Name "zip" p) [a, b] [] pos) (fZip fa) := .mk fun st xs c h => by
  obtain ⟨⟨y, c1⟩, h1, h⟩ := bind_some h
  simp only at h
  split at h
  · cases h
    exact RI.of (RZ.pi_zipA hg hm (pwA [a, b]) hs hpl) fun hs ps σ H R Q q => ha _ _ _ h1 hs ps σ H R _ fun vs H2 s2 R2 p2 => by
      obtain ⟨v, w, rfl, d, d2⟩ := dpa2 (paired_dat (ds := [_, _]) p2)
      obtain ⟨p, ws, rfl, hp, da⟩ := dp_list d
      obtain ⟨p', us, rfl, hp', db⟩ := dp_list d2
      exact ⟨p, p', ws, us, rfl, .inl ⟨sqL_mono hid_sub hp, sqL_mono hid_sub hp', q _ H2 s2 R2 (walk_dZ hp hp' da db)⟩⟩
  · cases h
    exact RI.of (RZ.pi_zipA hg hm (pwA [a, b]) hs hpl) fun hs ps σ H R Q q => ha _ _ _ h1 hs ps σ H R _ fun vs H2 s2 R2 p2 => by
      obtain ⟨v, w, rfl, d, d2⟩ := dpa2 (paired_dat (ds := [_, _]) p2)
      obtain ⟨p, ws, rfl, hp, da⟩ := dp_tuple d
      obtain ⟨p', us, rfl, hp', db⟩ := dp_tuple d2
      exact ⟨p, p', ws, us, rfl, .inr ⟨sqT_mono hid_sub hp, sqT_mono hid_sub hp', q _ H2 s2 R2 (walk_dZT hp hp' da db)⟩⟩
  · cases h
    exact RI.of (pi_mx (l := true) (m := false) hg hm (pwA [a, b]) hs hpl) fun hs ps σ H R Q q => ha _ _ _ h1 hs ps σ H R _ fun vs H2 s2 R2 p2 => by
      obtain ⟨v, w, rfl, d, d2⟩ := dpa2 (paired_dat (ds := [_, _]) p2)
      obtain ⟨p, ws, rfl, hp, da⟩ := dp_list d
      obtain ⟨p', us, rfl, hp', db⟩ := dp_tuple d2
      exact ⟨p, p', ws, us, rfl, sqL_mono hid_sub hp, sqT_mono hid_sub hp', q _ H2 s2 R2 (walk_dM (l := true) (m := false) hp hp' da db)⟩
  · cases h
    exact RI.of (pi_mx (l := false) (m := true) hg hm (pwA [a, b]) hs hpl) fun hs ps σ H R Q q => ha _ _ _ h1 hs ps σ H R _ fun vs H2 s2 R2 p2 => by
      obtain ⟨v, w, rfl, d, d2⟩ := dpa2 (paired_dat (ds := [_, _]) p2)
      obtain ⟨p, ws, rfl, hp, da⟩ := dp_tuple d
      obtain ⟨p', us, rfl, hp', db⟩ := dp_list d2
      exact ⟨p, p', ws, us, rfl, sqT_mono hid_sub hp, sqL_mono hid_sub hp', q _ H2 s2 R2 (walk_dM (l := false) (m := true) hp hp' da db)⟩
  · cases h
def gSum : List PyData → Option PyData
  | [.list xs] => (intsOf xs).map fun ns => .int ns.sum
  | _ => none
theorem re_sum (hc : X.calm = true) (hg : Gl X "sum") (hm : X.mg "sum" = none) (ha : RA X [a] fa) (he : starEach [a] X.env = (false, eval a X.env) :: starEach [] X.env := by with_reducible first | exact sn_name | exact sn_call | exact sn_lc) : RE X (.Call (.Name "sum" p) [a] [] pos) (fBi gSum fa) :=
  re_bi (cr_sum hc) (fun xs z h => by
    unfold gSum at h
    split at h
    · obtain ⟨bs, h1, rfl⟩ := map_some h
      intro hs H vs _ d Q q
      obtain ⟨v, rfl, d1⟩ := dpa1 d
      obtain ⟨p, ws, rfl, hp, da⟩ := dp_list d1
      rw [ints_dp h1 da] at hp
      exact ⟨p, bs, rfl, sqL_mono hid_sub hp, q _ H (Step.refl H) (.int _)⟩
    · cases h) hg hm (by decide +kernel) ha (he := he)
end

/-! ### calls by name, the names in another order -/
def perm {α : Type} (is : List Nat) (l : List α) : List α := is.filterMap fun i => l[i]?
theorem Paired.get? {α β : Type} {R : α → β → Prop} : ∀ {xs : List α} {ys : List β} {i : Nat}, Paired R xs ys → (∃ x y, xs[i]? = some x ∧ ys[i]? = some y ∧ R x y) ∨ (xs[i]? = none ∧ ys[i]? = none)
  | _, _, i, .nil => .inr ⟨by simp, by simp⟩
  | _, _, 0, .cons a t => .inl ⟨_, _, rfl, rfl, a⟩
  | _, _, i + 1, .cons a t => by simpa using Paired.get? (i := i) t
theorem paired_perm {α β : Type} {R : α → β → Prop} {xs : List α} {ys : List β} (h : Paired R xs ys) : ∀ is : List Nat, Paired R (perm is xs) (perm is ys)
  | [] => .nil
  | i :: is => by
    have t := paired_perm h is
    unfold perm at t ⊢
    rcases Paired.get? (i := i) h with ⟨x, y, h1, h2, h3⟩ | ⟨h1, h2⟩
    · rw [List.filterMap_cons_some h1, List.filterMap_cons_some h2]
      exact .cons h3 t
    · rw [List.filterMap_cons_none h1, List.filterMap_cons_none h2]
      exact t
def fPerm (is : List Nat) (a : FA) : FA := fun st => (a st).bind fun p => if p.1.length = is.length then some (perm is p.1, p.2) else none
def tP (is : List Nat) (ta : TA) : TA := fun σ H Q => ta σ H fun vs H1 => vs.length = is.length ∧ Q (perm is vs) H1
theorem eda_perm {K : PySem.W.Frag} {is : List Nat} {ta : TA} {fa : FA} {st : Sta} {d : List SV} {c : Cs} (h : fPerm is fa st = some (d, c)) (ha : ∀ st d c, fa st = some (d, c) → EDA K ta st d c) : EDA K (tP is ta) st d c := by
  obtain ⟨⟨xs, c1⟩, h1, h⟩ := bind_some h
  simp only at h
  split at h <;> cases h
  rename_i hl
  refine fun hs ps σ H R Q q => ha _ _ _ h1 hs ps σ H R _ fun vs H2 s2 R2 p2 => ⟨by rw [Paired.length p2]; exact hl, q _ H2 s2 R2 (paired_perm p2 is)⟩
structure AtP (P : Program) (w : World) (K : PySem.W.Frag) (mg : Str → Option Value) (base : Heap) (k : Nat) (x : Str) (ns ks : List Str) (is : List Nat) (F : FnS) : Prop where
  ex : ∃ (f : Addr) (fd : FuncData), mg x = some (.ref f) ∧ PySem.W.keepIn K (.ref f) = true ∧ FnG P w K mg base k f fd ns F ∧
    ∀ (s : Shared) (us : List Value), us.length = is.length → BindsTo s fd ⟨[], ks.zip us⟩ (ns.zip (perm is us))
theorem atp_mk {P : Program} {w : World} {K : PySem.W.Frag} {mg : Str → Option Value} {base : Heap} {k : Nat} {x : Str} {st : Stmt} {f : Addr} {fd : FuncData} {ns ks : List Str} {is : List Nat} {F : FnS} (U : Fun K x x st f fd) (hm : mg x = some (.ref f)) (G : FnG P w K mg base k f fd ns F)
    (hb : ∀ (kV doc pm : Value) (an : Option Addr) (cdv ct : Value) (us : List Value), us.length = is.length → bindArgs (PySem.W.fnOf x x (defArgs st) (defBody st) (defScope st) .none kV doc pm an cdv ct) ⟨[], ks.zip us⟩ = pure (ns.zip (perm is us))) : AtP P w K mg base k x ns ks is F := by
  obtain ⟨oc, od, kV, doc, pm, an, cdv, ct, osl, e, lk, hcd⟩ := U.ex
  refine ⟨f, fd, hm, U.kp, G, fun s us hl => ?_⟩
  subst e
  exact .of_eq (hb kV doc pm an cdv ct us hl)
section
variable {X : Cx} {k : Nat} {x : Str} {ns ks : List Str} {is : List Nat} {F : FnS} {e : Expr} {es : List Expr} {p pos kpos : Pos} {fa fk : FA} {fe : FE} {kws : List Keyword} {nm : Option Str}
theorem pe_callGkp (C : AtP X.prog X.w X.K X.mg X.base k x ns ks is F) (hgd : X.A.guards = some []) (hr : Room k X.A) (hg : Gl X x) (hall : (backToKw pos (keywordEach kws X.env)).all (·.1.isSome) = true := by rfl) (hks : (backToKw pos (keywordEach kws X.env)).filterMap (·.1) = ks := by rfl) (hdb : (x == ("__debug__" : Str)) = false := by decide)
    (hpl : ((backTo pos (starEach [] X.env)).any (·.1) || (backToKw pos (keywordEach kws X.env)).any (·.1.isNone)) = false := by rfl) : PE X (.Call (.Name x p) [] kws pos) (tG X.K F (tP is (wK X kws))) := by
  obtain ⟨f, fd, hm, hk, G, hb⟩ := C.ex
  refine ⟨fun pins s σ H Q I h => ?_⟩
  refine wpAny_Call_Name_kw (ld_glob I hg hm ?_ hdb)
  refine PySem.W.callWith_KW0 (h₀ := X.base) I.ok.mod.kin hk hall (thn ((pwK kws).run pos pins s σ H _ I h) fun us s1 ⟨vs, H1, I1, r, hl, hs, ps, cs, c, xs, r2, a1, a2, a3, a4⟩ => ⟨I1.kIn, ?_⟩) hpl
  have b := hb s1 us (by rw [← r.length]; exact hl)
  rw [hks]
  exact run_g (args := ⟨[], ks.zip us⟩) G hgd hr I1 b (paired_perm r is) a1 a2 a3 a4
theorem re_callkp (C : AtP X.prog X.w X.K X.mg X.base k x ns ks is F) (hgd : X.A.guards = some []) (hr : Room k X.A) (hg : Gl X x) (ha : RK X kws fa) (hall : (backToKw pos (keywordEach kws X.env)).all (·.1.isSome) = true := by rfl) (hks : (backToKw pos (keywordEach kws X.env)).filterMap (·.1) = ks := by rfl) (hdb : (x == ("__debug__" : Str)) = false := by decide)
    (hpl : ((backTo pos (starEach [] X.env)).any (·.1) || (backToKw pos (keywordEach kws X.env)).any (·.1.isNone)) = false := by rfl) : RE X (.Call (.Name x p) [] kws pos) (fCall F (fPerm is fa)) := .mk fun st d c h => RE.of (pe_callGkp C hgd hr hg hall hks hdb hpl) (ed_G h fun st d c h => eda_perm h ha.h)
end

/-! ### append -/
/-- a list of one's own is changed -/
theorem Rel.putL {K : PySem.W.Frag} {hs ps : List Addr} {σ : St} {H : Hp} {st : Sta} (R : Rel K hs ps σ H st) {c : Nat} {p : Addr} {xs xs' : List PyData} {vs vs' : List V} (hp : ps[c]? = some p) (hx : st.cs[c]? = some xs) (hv : H p = some (.lst vs)) (da : DpAll K (hid hs H) vs' xs') :
    Step ps H (upd H p (.lst vs')) ∧ Rel K hs ps σ (upd H p (.lst vs')) ⟨st.ds, st.cs.set c xs'⟩ := by
  have hin := R.hr.sub p (List.mem_of_getElem? hp)
  have sb : Sub (hid hs H) (hid hs (upd H p (.lst vs'))) := fun a o e => by
    obtain ⟨n, k⟩ := hid_some e
    rw [hid_out n, upd_ne (fun z => n (by rw [z]; exact hin))]; exact k
  refine ⟨fun a o n e => by rw [upd_ne (fun z => n (by rw [z]; exact List.mem_of_getElem? hp))]; exact e, R.slots sb ⟨R.hr.sub, R.hr.nd, by simp [R.hr.len], fun a ma => ?_, fun i q ys k1 k2 => ?_⟩⟩
  · by_cases e : a = p
    · rw [e, upd_same]; simp
    · rw [upd_ne e]; exact R.hr.trk a ma
  · by_cases e : c = i
    · subst e
      rw [hp] at k1
      cases k1
      have hl : c < st.cs.length := by
        by_cases hl : c < st.cs.length
        · exact hl
        · rw [List.getElem?_eq_none (by omega)] at hx; cases hx
      rw [List.getElem?_set_self hl] at k2
      cases k2
      exact ⟨_, upd_same, da.up sb⟩
    · rw [List.getElem?_set_ne e] at k2
      obtain ⟨ws, q1, q2⟩ := R.hr.cel i q ys k1 k2
      have hne : q ≠ p := fun z => by
        subst z
        have h1 : c < ps.length := by
          by_cases hl : c < ps.length
          · exact hl
          · rw [List.getElem?_eq_none (by omega)] at hp; cases hp
        have h2 : i < ps.length := by
          by_cases hl : i < ps.length
          · exact hl
          · rw [List.getElem?_eq_none (by omega)] at k1; cases k1
        exact e ((List.getElem_inj R.hr.nd).mp (by
          rw [List.getElem?_eq_getElem h1] at hp
          rw [List.getElem?_eq_getElem h2] at k1
          rw [Option.some.inj hp, Option.some.inj k1]))
      exact ⟨ws, by rw [upd_ne hne]; exact q1, q2.up sb⟩
/-- x.append(e), x a list of one's own -/
def fApp (i : Nat) (e : FE) : FS := fun st => (e st).bind fun p => match st.ds[i]? with
  | some (some (.cel c)) => (p.2[c]?).bind fun xs => if xs.length < 100000 then some (.nx ⟨st.ds, p.2.set c (xs ++ [p.1])⟩) else none
  | _ => none
section
variable {X : Cx} {n0 : Nat} {e : Expr} {fe : FE} {p pos : Pos}
theorem rs_app {i : Nat} {x : Str} {p1 apos cpos : Pos} (hN : X.N[i]? = some x) (hv : Vis X.env.scope x) (h : RE X e fe) (hd : (x == ("__debug__" : Str)) = false := by decide) (hcd : (x == ("__classdict__" : Str)) = false := by decide)
    (hbase : attributeBase (.Name x p1) "append" X.env (eval (.Name x p1) X.env) = eval (.Name x p1) X.env := by rfl)
    (hfew : ((backTo cpos (starEach (e :: []) X.env)).all (fun x => !x.1) && (backToKw cpos (keywordEach [] X.env)).all (fun x => x.1.isSome)
      && decide ((e :: ([] : List Expr)).length + ([] : List Keyword).length + (if ([] : List Keyword).isEmpty then 0 else 1) < 30)) = true := by rfl)
    (hline : (apos.endLine == cpos.line) = true := by rfl) (hs : starEach (e :: []) X.env = (false, eval e X.env) :: starEach [] X.env := by rfl) (hplain : (backTo cpos (starEach [] X.env)).any (·.1) = false := by rfl)
    (hsw : swapsWith (.Call (.Attribute (.Name x p1) "append" apos) [e] [] cpos) none pos.line X.env = pure false := by rfl) :
    RS X n0 (.Expr (.Call (.Attribute (.Name x p1) "append" apos) [e] [] cpos) pos) (fApp i fe) := .mk fun st o hq => by
  obtain ⟨⟨d, c⟩, e1, hq⟩ := bind_some hq
  simp only at hq
  split at hq
  · rename_i k es
    obtain ⟨xs, ex, hq⟩ := bind_some hq
    by_cases hlen : xs.length < 100000
    rotate_left
    · rw [if_neg hlen] at hq; cases hq
    rw [if_pos hlen] at hq
    cases hq
    refine RS.of (ps_expr (pe_bm PySem.F.plainAttrs_list PySem.F.slot_list_append PySem.F.type_list_append mt_append (pe_var hN hv hd hcd) (pa_cons (pwE e) pa_nil hs) hbase hfew hline hs hplain) hsw) fun hs0 ps0 H0 i1 i2 hs ps σ H L R D q => ?_
    obtain ⟨w, w1, p, w2, rfl⟩ := R.slot i _ es
    have hc : k < st.cs.length := by
      by_cases hl : k < st.cs.length
      · exact hl
      · have := R.hr.len
        rw [List.getElem?_eq_none (by omega)] at w2; cases w2
    obtain ⟨ys, ey⟩ : ∃ ys, st.cs[k]? = some ys := ⟨_, List.getElem?_eq_getElem hc⟩
    obtain ⟨ws, z1, z2⟩ := R.hr.cel k p ys w2 ey
    refine ⟨_, w1, .inl ⟨rfl, ws, .inl (.inl z1)⟩, h _ _ _ e1 hs ps σ H R _ fun v H2 s2 R2 d2 => ?_⟩
    obtain ⟨vs, q1, q2⟩ := R2.hr.cel k p xs w2 ex
    obtain ⟨s4, R4⟩ := R2.putL w2 ex q1 (DpAll.app q2 (.cons d2 .nil))
    exact ⟨p, vs, v, rfl, rfl, q1, by rw [q2.len]; exact Nat.lt_trans hlen (by unfold sizeLine; decide : (100000 : Nat) < sizeLine), q hs ps σ _ ((L.step s2).step s4) R4⟩
  · cases hq
end

/-! ### so many times a list -/
theorem DpAll.rep {K : PySem.W.Frag} {H : Hp} {vs : List V} {xs : List PyData} (h : DpAll K H vs xs) : ∀ n : Nat, DpAll K H (List.replicate n vs).flatten (List.replicate n xs).flatten
  | 0 => .nil
  | n + 1 => by
    rw [List.replicate_succ, List.replicate_succ, List.flatten_cons, List.flatten_cons]
    exact DpAll.app h (DpAll.rep h n)
def fRep (a : FL) (b : FE) : FE := fun st => (a st).bind fun p => (b ⟨st.ds, p.2⟩).bind fun q => match q.1 with
  | .int k => if rngOk k = true ∧ p.1.length * k.toNat ≤ 100000 then some (.list (List.replicate k.toNat p.1).flatten, q.2) else none
  | _ => none
theorem re_rep {X : Cx} {a b : Expr} {pos : Pos} {fa : FL} {fb : FE} (ha : RL X a fa) (hb : RE X b fb) : RE X (.BinOp a .Mult b pos) (fRep fa fb) := .mk fun st d c h => by
  obtain ⟨⟨xs, c1⟩, h1, h⟩ := bind_some h
  obtain ⟨⟨y, c2⟩, h2, h⟩ := bind_some h
  simp only at h
  split at h
  · rename_i k
    by_cases hok : rngOk k = true ∧ xs.length * k.toNat ≤ 100000
    rotate_left
    · rw [if_neg hok] at h; cases h
    rw [if_pos hok] at h
    cases h
    have hk := of_decide_eq_true (show decide _ = true from hok.1)
    refine RE.of (pe_op op_rep (pwE a) (pwE b)) fun hs ps σ H R Q q => ha _ _ _ h1 hs ps σ H R _ fun p vs H2 hp s2 R2 e2 da => hb _ _ _ h2 (p :: hs) ps σ H2 R2 _ fun w H3 s3 R3 d3 => ?_
    cases dp_int d3
    have hph : p ∉ hs := fun m => R.hr.trk p m hp
    have e3 : H3 p = some (.lst vs) := s3 p _ (fun m => hph (R.hr.sub p m)) e2
    refine ⟨p, k, vs, rfl, rfl, e3, by omega, by omega, by rw [da.len]; exact lim_ok hok.2, fun t ht => ?_⟩
    have R4 := R3.less (fun a m => List.mem_cons_of_mem _ m) R.hr.sub
    have s4 : Step [] H3 (upd H3 t (.lst (List.replicate k.toNat vs).flatten)) := Step.new ht
    have hth : t ∉ hs := fun m => R4.hr.trk t m ht
    have da3 := (da.up (s3.hd0 R2.hr.sub)).up hid_cons_sub
    exact q _ _ ((s2.trans s3).trans (s4.mono (by simp))) (R4.step s4) (.lst (.inl (.inl (by rw [hid_out hth]; exact upd_same))) ((DpAll.rep da3 k.toNat).up (s4.hd0 (by simp))))
  · cases h

/-! ### slices of lists and of tuples; + of ints, lists, tuples -/
theorem DpAll.cut {K : PySem.W.Frag} {H : Hp} {vs : List V} {ds : List PyData} (da : DpAll K H vs ds) (lo hi : Option Int) : DpAll K H (cutV vs lo hi) (cutD ds lo hi) := by
  unfold cutV cutD
  rw [da.len]
  exact (da.dr _).tk _
theorem cutD_whole {ds : List PyData} {lo hi : Option Int} (h : HT.sIx ds.length 0 lo = 0 ∧ HT.sIx ds.length ds.length hi = ds.length) : cutD ds lo hi = ds := by
  unfold cutD
  rw [h.1, h.2, List.drop_zero, Nat.sub_zero, List.take_length]
def fSl (a : FE) (l u : Sta → Option (Option Int × Cs)) : FE := fun st => (a st).bind fun p => (l ⟨st.ds, p.2⟩).bind fun q => (u ⟨st.ds, q.2⟩).bind fun r => match p.1 with
  | .list xs => some (.list (cutD xs q.1 r.1), r.2)
  | .tuple xs => some (.tuple (cutD xs q.1 r.1), r.2)
  | _ => none
theorem sl_both {X : Cx} : SlR X (fun x lo hi H Q => rSlL X.K x lo hi H Q ∨ rSlA X.K x lo hi H Q) := by
  intro pins s σ H x v vl vu lo hi sl Q I rx hs pl pu h
  rcases h with h | h
  · exact sl_list pins s σ H _ v vl vu lo hi sl Q I rx hs pl pu h
  · exact sl_tupA pins s σ H _ v vl vu lo hi sl Q I rx hs pl pu h
theorem re_sl {X : Cx} {a : Expr} {pos : Pos} {fa : FE} {lo hi : Option Expr} {fl fu : Sta → Option (Option Int × Cs)} {p2 : Pos} (ha : RE X a fa) (hl : RO X lo fl) (hu : RO X hi fu) : RE X (.Subscript a (.Slice lo hi none p2) pos) (fSl fa fl fu) := .mk fun st d c h => by
  obtain ⟨⟨x, c1⟩, h1, h⟩ := bind_some h
  obtain ⟨⟨y, c2⟩, h2, h⟩ := bind_some h
  obtain ⟨⟨z, c3⟩, h3, h⟩ := bind_some h
  obtain ⟨tl, pl, kl⟩ := hl
  obtain ⟨tu, pu, ku⟩ := hu
  simp only at h
  split at h
  · cases h
    refine RE.of (pe_slice sl_both (pwE a) pl pu) fun hs ps σ H R Q q => ha _ _ _ h1 hs ps σ H R _ fun v H2 s2 R2 d2 => kl _ _ _ h2 hs ps σ H2 R2 _ fun H3 s3 R3 => ku _ _ _ h3 hs ps σ H3 R3 _ fun H4 s4 R4 => ?_
    obtain ⟨p, vs, rfl, hp, da⟩ := dp_list d2
    have sb := (s3.trans s4).hd0 R2.hr.sub
    refine .inl ⟨p, vs, rfl, sqL_mono hid_sub (sqL_mono sb hp), fun t ht => ?_⟩
    have da4 := DpAll.cut (da.up sb) y z
    have s5 : Step [] H4 (upd H4 t (.lst (cutV vs y z))) := Step.new ht
    have hth : t ∉ hs := fun m => R4.hr.trk t m ht
    exact q _ _ (((s2.trans s3).trans s4).trans (s5.mono (by simp))) (R4.step s5) (.lst (.inl (.inl (by rw [hid_out hth]; exact upd_same))) (da4.up (s5.hd0 (by simp))))
  · cases h
    refine RE.of (pe_slice sl_both (pwE a) pl pu) fun hs ps σ H R Q q => ha _ _ _ h1 hs ps σ H R _ fun v H2 s2 R2 d2 => kl _ _ _ h2 hs ps σ H2 R2 _ fun H3 s3 R3 => ku _ _ _ h3 hs ps σ H3 R3 _ fun H4 s4 R4 => ?_
    obtain ⟨p, vs, rfl, hp, da⟩ := dp_tuple d2
    have sb := (s3.trans s4).hd0 R2.hr.sub
    refine .inr ⟨p, vs, rfl, sqT_mono hid_sub (sqT_mono sb hp), fun hw => ?_, fun hw t ht => ?_⟩
    · rw [da.len] at hw
      rw [cutD_whole hw] at q
      exact q _ _ ((s2.trans s3).trans s4) R4 (d2.up sb)
    · have da4 := DpAll.cut (da.up sb) y z
      have s5 : Step [] H4 (upd H4 t (.tup (cutV vs y z))) := Step.new ht
      have hth : t ∉ hs := fun m => R4.hr.trk t m ht
      exact q _ _ (((s2.trans s3).trans s4).trans (s5.mono (by simp))) (R4.step s5) (.tup (.inl (.inl (by rw [hid_out hth]; exact upd_same))) (da4.up (s5.hd0 (by simp))))
  · cases h
theorem rg_tupK {X : Cx} {es : List Expr} {pos : Pos} {k n : Nat} {t : TGs} {js : List Nat} {r : Sta → List PyData → Option Sta} (K0 : PySem.W.Frag) (hK : X.K = K0) (hc : X.calm = true) (h : RGs X es t js r) (hn : (assignEach es X.env).length = n := by rfl) (hst : (assignEach es X.env).findIdx? (·.1) = none := by rfl) : RG X (.Tuple es k pos) (gTup K0 n t) js (aTup n r) := by
  subst hK
  exact rg_tup hc h hn hst
theorem dpa3 {K : PySem.W.Frag} {H : Hp} {vs : List V} {d d' d2 : PyData} (h : DpAll K H vs [d, d', d2]) : ∃ v w u, vs = [v, w, u] ∧ Dp K H v d ∧ Dp K H w d' ∧ Dp K H u d2 := by
  cases h with
  | cons a t =>
    obtain ⟨w, u, rfl, h2, h3⟩ := dpa2 t
    exact ⟨_, _, _, rfl, a, h2, h3⟩
def fPar3 (i j l : Nat) (a : FA) : FS := fun st => (a st).bind fun p => match p.1 with
  | [.dat x, .dat y, .dat z] => some (.nx ⟨((st.ds.set i (some (.dat x))).set j (some (.dat y))).set l (some (.dat z)), p.2⟩)
  | _ => none
theorem rs_par3 {X : Cx} {n0 : Nat} {a b c : Expr} {fa : FA} {pos : Pos} {i j l : Nat} {x y z : Str} {px py pz pt : Pos} {kt k2 pt2} (ha : RA X [a, b, c] fa)
    {P : PS X (.Assign [.Tuple [.Name x px, .Name y py, .Name z pz] kt pt] (.Tuple [a, b, c] k2 pt2) pos) (tPar3 i j l (wA X [a, b, c]))} : RS X n0 (.Assign [.Tuple [.Name x px, .Name y py, .Name z pz] kt pt] (.Tuple [a, b, c] k2 pt2) pos) (fPar3 i j l fa) := .mk fun st o hq => by
  obtain ⟨⟨xs, c⟩, e1, hq⟩ := bind_some hq
  simp only at hq
  split at hq
  · cases hq
    refine RS.of P fun hs0 ps0 H0 i1 i2 hs ps σ H L R D q => ha _ _ _ e1 hs ps σ H R _ fun vs H2 s2 R2 p2 => ?_
    obtain ⟨v, w, u, rfl, d1, d2, d3⟩ := dpa3 (paired_dat (ds := [_, _, _]) p2)
    exact ⟨v, w, u, rfl, q hs ps _ H2 (L.step s2) (((R2.set i (x := .dat _) d1).set j (x := .dat _) d2).set l (x := .dat _) d3)⟩
  · cases hq
end DL


set_option Elab.async false
set_option linter.all false
set_option maxRecDepth 100000
set_option maxHeartbeats 4000000
namespace DL
open PySem PySem.Spec L2
open PyProof.Rows hiding St

/-! ### a star in a row of values -/
def fStarA (a : FE) (r : FA) : FA := fun st => (a st).bind fun p => match p.1 with
  | .list xs => (r ⟨st.ds, p.2⟩).map fun q => (xs.map SV.dat ++ q.1, q.2)
  | .tuple xs => (r ⟨st.ds, p.2⟩).map fun q => (xs.map SV.dat ++ q.1, q.2)
  | _ => none
theorem paired_of_dat {K : PySem.W.Frag} {hs ps : List Addr} {H : Hp} : ∀ {ds : List PyData} {vs : List V}, DpAll K (hid hs H) vs ds → Paired (RelS K hs ps H) vs (ds.map SV.dat)
  | [], _, h => by cases h; exact .nil
  | _ :: _, _, h => by
    cases h with
    | cons a t => exact .cons a (paired_of_dat t)
theorem paired_app {R : V → SV → Prop} : ∀ {vs ws : List V} {xs ys : List SV}, Paired R vs xs → Paired R ws ys → Paired R (vs ++ ws) (xs ++ ys)
  | _, _, _, _, .nil, h => h
  | _, _, _, _, .cons a t, h => .cons a (paired_app t h)
section
variable {X : Cx} {a b c e : Expr} {es : List Expr} {fa fb fc fe : FE} {f : FA} {p pos : Pos}
theorem ra_star (ha : RE X e fa) (hr : RA X es f) (hs : starEach (.Starred e p :: es) X.env = (true, eval e X.env) :: starEach es X.env := by rfl) : RA X (.Starred e p :: es) (fStarA fa f) := .mk fun st d c h => by
  obtain ⟨⟨x, c1⟩, h1, h⟩ := bind_some h
  simp only at h
  split at h
  · rename_i xs
    obtain ⟨⟨ys, c2⟩, h2, e⟩ := map_some h
    cases e
    refine RA.of (StX.pa_star (pwE e) (pwA es) hs) fun hs ps σ H R Q q => ha _ _ _ h1 hs ps σ H R _ fun v H2 s2 R2 d2 => ?_
    obtain ⟨p, vs, rfl, hp, da⟩ := dp_list d2
    refine ⟨p, vs, rfl, .inr (sqL_mono hid_sub hp), hr _ _ _ h2 hs ps σ H2 R2 _ fun ws H3 s3 R3 p3 => ?_⟩
    exact q _ H3 (s2.trans s3) R3 (paired_app (paired_of_dat (da.up (s3.hd0 R2.hr.sub))) p3)
  · rename_i xs
    obtain ⟨⟨ys, c2⟩, h2, e⟩ := map_some h
    cases e
    refine RA.of (StX.pa_star (pwE e) (pwA es) hs) fun hs ps σ H R Q q => ha _ _ _ h1 hs ps σ H R _ fun v H2 s2 R2 d2 => ?_
    obtain ⟨p, vs, rfl, hp, da⟩ := dp_tuple d2
    refine ⟨p, vs, rfl, .inl (sqT_mono hid_sub hp), hr _ _ _ h2 hs ps σ H2 R2 _ fun ws H3 s3 R3 p3 => ?_⟩
    exact q _ H3 (s2.trans s3) R3 (paired_app (paired_of_dat (da.up (s3.hd0 R2.hr.sub))) p3)
  · cases h

/-! ### type(x) is not T -/
def gTyNot (T : String) (x : PyData) : Option PyData := some (.bool (!decide (tyOf x = T)))
theorem rt_tyNot {y : Str} {T : String} {p1 p2 p3 : Pos} (hg : Gl X "type") (hm : X.mg "type" = none) (hgT : Gl X y) (hmT : X.mg y = none) (hvT : bootBuiltins y = some (.type T)) (ha : RE X a fe) (he : starEach [a] X.env = (false, eval a X.env) :: starEach [] X.env := by with_reducible first | exact sn_name | exact sn_const | exact sn_tup | exact sn_list | exact sn_bin | exact sn_un | exact sn_bool | exact sn_cmp | exact sn_call | exact sn_sub | exact sn_if | exact sn_attr | exact sn_lc)
    (hnT : y ≠ "__name__" := by decide) (hdT : (y == ("__debug__" : Str)) = false := by decide) :
    RT X (.Compare (.Call (.Name "type" p1) [a] [] p2) [.IsNot] [.Name y p3] pos) (fTru (fUn (gTyNot T) fe)) := .mk fun st d c h => by
  obtain ⟨⟨w, c0⟩, h0, h⟩ := bind_some h
  obtain ⟨⟨z, c1⟩, h1, h0⟩ := bind_some h0
  obtain ⟨w, h2, e⟩ := map_some h0
  cases e
  cases h2
  cases h
  refine RT.of (pt_cmpR op_notTyB (pe_callTy call_typeD hg hm (by decide +kernel) (pa_cons (pwE a) pa_nil he) (he := he)) (pe_bltn (v := .ty T) hgT hmT hvT rfl hnT hdT) (nomark _)) fun hs ps σ H R Q q => ha _ _ _ h1 hs ps σ H R _ fun v H2 s2 R2 d2 => ?_
  exact ⟨v, z, rfl, d2.up hid_sub, _, _, rfl, rfl, _, rfl, q H2 s2 R2⟩

/-! ### a op b op c, of ints -/
def fChain (g1 g2 : PyData → PyData → Option PyData) (a b c : FE) : FE := fun st => (a st).bind fun p => (b ⟨st.ds, p.2⟩).bind fun q => (g1 p.1 q.1).bind fun z => match z with
  | .bool true => (c ⟨st.ds, q.2⟩).bind fun r => match g2 q.1 r.1 with
    | some (.bool w) => some (.bool w, r.2)
    | _ => none
  | .bool false => some (.bool false, q.2)
  | _ => none
end

/-! ### so many times a list, as a list of one's own -/
def fRepL (a : FL) (b : FE) : FL := fun st => (a st).bind fun p => (b ⟨st.ds, p.2⟩).bind fun q => match q.1 with
  | .int k => if rngOk k = true ∧ p.1.length * k.toNat ≤ 100000 then some ((List.replicate k.toNat p.1).flatten, q.2) else none
  | _ => none
theorem rl_rep {X : Cx} {a b : Expr} {pos : Pos} {fa : FL} {fb : FE} (ha : RL X a fa) (hb : RE X b fb) : RL X (.BinOp a .Mult b pos) (fRepL fa fb) := .mk fun st d c h => by
  obtain ⟨⟨xs, c1⟩, h1, h⟩ := bind_some h
  obtain ⟨⟨y, c2⟩, h2, h⟩ := bind_some h
  simp only at h
  split at h
  · rename_i k
    by_cases hok : rngOk k = true ∧ xs.length * k.toNat ≤ 100000
    rotate_left
    · rw [if_neg hok] at h; cases h
    rw [if_pos hok] at h
    cases h
    have hk := of_decide_eq_true (show decide _ = true from hok.1)
    refine RL.of (pe_op op_rep (pwE a) (pwE b)) fun hs ps σ H R Q q => ha _ _ _ h1 hs ps σ H R _ fun p vs H2 hp s2 R2 e2 da => hb _ _ _ h2 (p :: hs) ps σ H2 R2 _ fun w H3 s3 R3 d3 => ?_
    cases dp_int d3
    have hph : p ∉ hs := fun m => R.hr.trk p m hp
    have e3 : H3 p = some (.lst vs) := s3 p _ (fun m => hph (R.hr.sub p m)) e2
    refine ⟨p, k, vs, rfl, rfl, e3, by omega, by omega, by rw [da.len]; exact lim_ok hok.2, fun t ht => ?_⟩
    have R4 := R3.less (fun a m => List.mem_cons_of_mem _ m) R.hr.sub
    have da3 := (da.up (s3.hd0 R2.hr.sub)).up hid_cons_sub
    have s23 := s2.trans s3
    obtain ⟨k1, k2, k3, k4, k5⟩ := lay_list (vs := (List.replicate k.toNat vs).flatten) (ds := (List.replicate k.toNat xs).flatten) s23 R4 ht (DpAll.rep da3 k.toNat)
    exact q t _ _ k1 k2 k3 k4 k5
  · cases h

end DL


set_option Elab.async false
set_option linter.all false
set_option maxRecDepth 100000
set_option maxHeartbeats 4000000
namespace DL
open PySem PySem.Spec L2
open PyProof.Rows hiding St

/-! names for the items of a list -/
def aLst (n : Nat) (r : Sta → List PyData → Option Sta) : FG := fun st d => match d with
  | .list xs => if xs.length = n then r st xs else none
  | _ => none
theorem rg_lstK {X : Cx} {es : List Expr} {pos : Pos} {k n : Nat} {t : TGs} {js : List Nat} {r : Sta → List PyData → Option Sta} (K0 : PySem.W.Frag) (hK : X.K = K0) (hc : X.calm = true) (h : RGs X es t js r) (hn : (assignEach es X.env).length = n := by rfl) (hst : (assignEach es X.env).findIdx? (·.1) = none := by rfl) : RG X (.Tuple es k pos) (gUnl K0 n t) js (aLst n r) := by
  subst hK
  refine ⟨pg_unl hc h.pg hn hst, fun hs ps σ H st st' v x R d e Q q => ?_⟩
  unfold aLst at e
  split at e
  · split at e
    · rename_i hl
      obtain ⟨p, ws, rfl, hp, da⟩ := dp_list d
      exact ⟨p, ws, rfl, sqL_mono hid_sub hp, by rw [da.len]; exact hl, h.eg hs ps σ H _ st' ws _ R da e Q q⟩
    · cases e
  · cases e
end DL


set_option Elab.async false
set_option linter.all false
set_option maxRecDepth 100000
set_option maxHeartbeats 4000000
namespace DL
open PySem PySem.Spec L2
open PyProof.Rows hiding St

/-! ### lists of one's own that are read as data -/
def thawO (cs : Cs) : Option SV → Option SV
  | some (.cel k) => (cs[k]?).map fun xs => .dat (.list xs)
  | o => o
def thawD (cs : Cs) (ds : Slots) : Slots := ds.map (thawO cs)
mutual
def noL : PyData → Bool
  | .none => true
  | .bool _ => true
  | .int _ => true
  | .str _ => true
  | .list _ => false
  | .tuple ds => noLAll ds
  | .dict _ => false
def noLAll : List PyData → Bool
  | [] => true
  | d :: ds => noL d && noLAll ds
end
section
variable {K : PySem.W.Frag} {hs ps : List Addr} {σ : St} {H : Hp} {st : Sta}
def bare (hs ps : List Addr) : List Addr := hs.filter fun a => decide (a ∉ ps)
theorem mem_bare {a : Addr} : a ∈ bare hs ps ↔ a ∈ hs ∧ a ∉ ps := by
  unfold bare
  rw [List.mem_filter, decide_eq_true_eq]
theorem bare_sub : Sub (hid hs H) (hid (bare hs ps) H) := fun a o e => by
  obtain ⟨n, k⟩ := hid_some e
  rw [hid_out fun m => n (mem_bare.mp m).1]; exact k
theorem Rel.thaw (R : Rel K hs ps σ H st) : Rel K (bare hs ps) [] σ H ⟨thawD st.cs st.ds, []⟩ := by
  refine ⟨⟨fun p m => by simp at m, .nil, rfl, fun a m => R.hr.trk a (mem_bare.mp m).1, fun i p xs h => by simp at h⟩, ?_, fun i x e => ?_⟩
  · rw [R.len]; simp [thawD]
  · have e' : (st.ds[i]?).map (thawO st.cs) = some (some x) := by
      have : (thawD st.cs st.ds)[i]? = (st.ds[i]?).map (thawO st.cs) := by unfold thawD; rw [List.getElem?_map]
      rw [← this]; exact e
    obtain ⟨o, e1, e2⟩ := Option.map_eq_some_iff.mp e'
    match o, e2 with
    | some (.dat d), e2 =>
      cases e2
      obtain ⟨v, h1, h2⟩ := R.slot i _ e1
      exact ⟨v, h1, Dp.up h2 bare_sub⟩
    | some (.fn y), e2 =>
      cases e2
      obtain ⟨v, h1, h2⟩ := R.slot i _ e1
      exact ⟨v, h1, h2⟩
    | some (.cel k), e2 =>
      obtain ⟨xs, e3, e4⟩ := Option.map_eq_some_iff.mp (show (st.cs[k]?).map _ = some x from e2)
      subst e4
      obtain ⟨v, h1, p, hp, rfl⟩ := R.slot i _ e1
      obtain ⟨vs, q1, q2⟩ := R.hr.cel k p xs hp e3
      have np : p ∉ bare hs ps := fun m => (mem_bare.mp m).2 (List.mem_of_getElem? hp)
      exact ⟨_, h1, .lst (.inl (.inl (by rw [hid_out np]; exact q1))) (q2.up bare_sub)⟩
    | none, e2 => cases e2
end
def fThawT (f : FT) : FT := fun st => (f ⟨thawD st.cs st.ds, []⟩).map fun p => (p.1, st.cs)
def fThaw (f : FE) : FE := fun st => (f ⟨thawD st.cs st.ds, []⟩).bind fun p => if noL p.1 = true then some (p.1, st.cs) else none
def fThawL (f : FL) : FL := fun st => (f ⟨thawD st.cs st.ds, []⟩).bind fun p => if noLAll p.1 = true then some (p.1, st.cs) else none
section
variable {X : Cx} {n0 : Nat} {e : Expr} {pos : Pos} {fe : FE} {ft : FT} {fl : FL}
theorem rt_thaw (h : RT X e ft) : RT X e (fThawT ft) := .mk fun st d c hq => by
  obtain ⟨⟨b, c1⟩, e1, e2⟩ := map_some hq
  cases e2
  exact fun hs ps σ H R Q q => h _ _ _ e1 _ [] σ H R.thaw Q fun H2 s2 R2 => q H2 (s2.mono (by simp)) (R.step s2)
section
variable {elt tg iter : Expr} {ifs : List Expr} {scope : Scope} {own : List (Str × Nat)} {spos : Pos} {t : TG} {it : FL} {fg : FG} {js : List Nat}
end
/-! ### x op= e, x an int -/
def gAug (f : Int → Int → Int) : PyData → PyData → Option PyData
  | .int i, .int j => some (.int (f i j))
  | _, _ => none
def gAugM : PyData → PyData → Option PyData
  | .int i, .int j => if mulOk i j = true then some (.int (i * j)) else none
  | _, _ => none
def IpD (X : Cx) (op : Operator) (g : PyData → PyData → Option PyData) : Prop := ∀ x y z, g x y = some z → ∃ i j k, x = .int i ∧ y = .int j ∧ z = .int k ∧ PIp X op (fun a b H Q => a = .int i ∧ b = .int j ∧ Q (.int k) H)
theorem ipd_add : IpD X .Add (gAug fun i j => i + j) := fun x y z h => by
  cases x <;> cases y <;> first | (cases h; done) | skip
  cases h
  refine ⟨_, _, _, rfl, rfl, rfl, fun pins s σ H a b v u Q I r1 r2 q => ?_⟩
  obtain ⟨rfl, rfl, q⟩ := q
  exact ip_add pins s σ H _ _ v u Q I r1 r2 ⟨_, _, rfl, rfl, q⟩
theorem ipd_sub : IpD X .Sub (gAug fun i j => i - j) := fun x y z h => by
  cases x <;> cases y <;> first | (cases h; done) | skip
  cases h
  refine ⟨_, _, _, rfl, rfl, rfl, fun pins s σ H a b v u Q I r1 r2 q => ?_⟩
  obtain ⟨rfl, rfl, q⟩ := q
  exact ip_sub pins s σ H _ _ v u Q I r1 r2 ⟨_, _, rfl, rfl, q⟩
def fAug (i : Nat) (g : PyData → PyData → Option PyData) (e : FE) : FS := fun st => match st.ds[i]? with
  | some (some (.dat x)) => (e st).bind fun p => (g x p.1).map fun z => .nx ⟨st.ds.set i (some (.dat z)), p.2⟩
  | _ => none
theorem rs_aug {i : Nat} {x : Str} {op : Operator} {g : PyData → PyData → Option PyData} {pos' : Pos} (hN : X.N.Nodup) (hi : X.N[i]? = some x) (hx : Loc X.env.scope x) (ho : IpD X op g) (h : RE X e fe) (hf : X.fn x = true ∨ X.env.scope.names.lookup x = some .local := by first | exact .inl rfl | exact .inr rfl) :
    RS X n0 (.AugAssign (.Name x pos') op e pos) (fAug i g fe) := .mk fun st o hq => by
  unfold fAug at hq
  split at hq
  · rename_i d e0
    obtain ⟨⟨y, c⟩, e1, hq⟩ := bind_some hq
    obtain ⟨z, e2, rfl⟩ := map_some hq
    obtain ⟨a, b, k, rfl, rfl, rfl, hp⟩ := ho _ _ _ e2
    refine RS.of (ps_aug hN hi hx (pwE e) hp hf) fun hs0 ps0 H0 i1 i2 hs ps σ H L R D q => ?_
    obtain ⟨v, v1, v2⟩ := R.slot i _ e0
    refine ⟨v, v1, h _ _ _ e1 hs ps σ H R _ fun w H2 s2 R2 d2 => ⟨dp_int v2, dp_int d2, ?_⟩⟩
    exact q hs ps _ H2 (L.step s2) (R2.set i (x := .dat (.int k)) (.int k))
  · cases hq

/-! ### x[k] op= e, x a list of one's own -/
theorem get_list : PGet X (fun x y H Q => ∃ p xs i v, x = .ref p ∧ y = .int i ∧ SqL X.K H p xs ∧ atI xs i = some v ∧ Q v H) := by
  intro pins s σ H x y v u Q I rx ry h
  obtain ⟨p, xs, i, z, rfl, rfl, hq, he, q⟩ := h
  cases rx
  obtain ⟨t, rfl⟩ := ry
  obtain ⟨its, r, pl, hz⟩ := I.list hq
  obtain ⟨j, h1, h2, h3, h4, h5⟩ := atI_get he
  obtain ⟨w, ew, rw'⟩ := r.get h2
  have hl := r.length
  have hn := line63
  have fin : EP X pins σ Q w s := ⟨z, H, I, rw', q⟩
  by_cases h0 : 0 ≤ i
  · have hj : i.toNat = j := by
      rw [seqIndex_of h0 h5] at h1
      exact Option.some.inj h1
    exact wpAny_getItem_list pl.isList h0 (by omega) (by rw [hj]; simpa using ew) fin
  · have hj : (i + (its.toArray.size : Int)).toNat = j := by
      rw [seqIndex_neg (by omega) h4] at h1
      rw [List.size_toArray, ← hl]
      exact Option.some.inj h1
    exact wpAny_getItem_list_neg pl.isList (by omega) (by rw [List.size_toArray] <;> omega) (by omega) (by rw [hj]; simpa using ew) fin
theorem ipd_mul : IpD X .Mult gAugM := fun x y z h => by
  cases x <;> cases y <;> first | (cases h; done) | skip
  rename_i i j
  unfold gAugM at h
  simp only at h
  split at h <;> cases h
  rename_i hm
  have hc : CMulW i j := (by unfold CMulW; simpa [mulOk] using hm)
  refine ⟨_, _, _, rfl, rfl, rfl, fun pins s σ H a b v u Q I r1 r2 q => ?_⟩
  obtain ⟨rfl, rfl, q⟩ := q
  obtain ⟨t, rfl⟩ := r1
  obtain ⟨t', rfl⟩ := r2
  exact imul_int ⟨.int _, H, I.tok _, ⟨_, rfl⟩, q⟩ hc.ok
def fAugC (i : Nat) (k : FE) (g : PyData → PyData → Option PyData) (e : FE) : FS := fun st => (k st).bind fun q => match st.ds[i]?, q.1 with
  | some (some (.cel c)), .int j => (q.2[c]?).bind fun xs => (atI xs j).bind fun x => (e ⟨st.ds, q.2⟩).bind fun p => (g x p.1).bind fun z => (p.2[c]?).bind fun ys => (ixN ys.length j).map fun m => .nx ⟨st.ds, p.2.set c (ys.set m z)⟩
  | _, _ => none
theorem rs_augc {i : Nat} {x : Str} {op : Operator} {g : PyData → PyData → Option PyData} {k : Expr} {p1 p2 : Pos} {fk : FE} (hN : X.N[i]? = some x) (hv : Vis X.env.scope x) (hk : RE X k fk) (ho : IpD X op g) (h : RE X e fe)
    (ha : ∀ ov iv new, augStore k ov iv new = (do holding [new, ov, iv] (setItem ov iv new); release [new, ov, iv] []; pure .next) := by intros; rfl)
    (hd : (x == ("__debug__" : Str)) = false := by decide) (hcd : (x == ("__classdict__" : Str)) = false := by decide) :
    RS X n0 (.AugAssign (.Subscript (.Name x p1) k p2) op e pos) (fAugC i fk g fe) := .mk fun st o hq => by
  obtain ⟨⟨m, c1⟩, e1, hq⟩ := bind_some hq
  simp only at hq
  split at hq
  · rename_i c0 j es
    obtain ⟨xs, ex, hq⟩ := bind_some hq
    obtain ⟨x0, ex0, hq⟩ := bind_some hq
    obtain ⟨⟨y, c2⟩, e2, hq⟩ := bind_some hq
    obtain ⟨z, e3, hq⟩ := bind_some hq
    obtain ⟨ys, ey, hq⟩ := bind_some hq
    obtain ⟨n, en, rfl⟩ := map_some hq
    obtain ⟨a, b, r, rfl, rfl, rfl, hp⟩ := ho _ _ _ e3
    refine RS.of (ps_augS (pe_var hN hv hd hcd) (pwE k) get_list (pwE e) hp set_list ha) fun hs0 ps0 H0 i1 i2 hs ps σ H L R D q => ?_
    obtain ⟨w, w1, p, w2, rfl⟩ := R.slot i _ es
    refine ⟨_, w1, hk _ _ _ e1 hs ps σ H R _ fun u H2 s2 R2 d2 => ?_⟩
    cases dp_int d2
    obtain ⟨vs, q1, q2⟩ := R2.hr.cel c0 p xs w2 ex
    obtain ⟨u0, e4, e5⟩ := atI_dp q2 ex0
    refine ⟨p, vs, j, u0, rfl, rfl, .inl (.inl q1), e4, h _ _ _ e2 hs ps σ H2 R2 _ fun v H3 s3 R3 d3 => ⟨dp_int e5, dp_int d3, ?_⟩⟩
    obtain ⟨ws, q3, q4⟩ := R3.hr.cel c0 p ys w2 ey
    obtain ⟨s4, R4⟩ := R3.put (m := n) (v := .int r) (d := .int r) w2 ey q3 q4 (.int r)
    exact ⟨p, ws, j, n, rfl, rfl, q3, by rw [q4.len]; exact en, q hs ps σ _ (((L.step s2).step s3).step s4) R4⟩
  · cases hq
end

/-! ### reversed(x) -/
theorem walk_rL {K : PySem.W.Frag} {hs : List Addr} {H2 : Hp} {p : Addr} {ws : List V} {ds : List PyData} (hp : SqL K (hid hs H2) p ws) (da : DpAll K (hid hs H2) ws ds) : Walk (Itv K p ws.length) ds.reverse.length (GD hs H2) (YD K hs H2 ds.reverse) := by
  rw [List.length_reverse, ← da.len]
  refine ⟨fun i H3 hi g => ⟨hi, ws, ?_⟩, fun H3 g => Nat.le_refl _, fun i H3 x H' hi g y => ?_⟩
  · have h1 : ws.length - 1 - i < ws.length := by omega
    exact ⟨_, sqL_gd g hp, List.getElem?_eq_getElem h1⟩
  · obtain ⟨rfl, y⟩ := y
    have y' := y ws (sqL_gd g hp)
    obtain ⟨d, h1, h2⟩ := da.getV y'
    refine ⟨Step.refl _, d, ?_, fun hs' h3 _ => h2.up (g.sub h3)⟩
    rw [List.getElem?_reverse (by rw [← da.len]; exact hi), ← da.len]; exact h1
theorem walk_rT {K : PySem.W.Frag} {hs : List Addr} {H2 : Hp} {p : Addr} {ws : List V} {ds : List PyData} (hp : SqT K (hid hs H2) p ws) (da : DpAll K (hid hs H2) ws ds) : Walk (RT.ItvT K p ws.length) ds.reverse.length (GD hs H2) (YD K hs H2 ds.reverse) := by
  rw [List.length_reverse, ← da.len]
  refine ⟨fun i H3 hi g => ⟨hi, ws, ?_⟩, fun H3 g => Nat.le_refl _, fun i H3 x H' hi g y => ?_⟩
  · have h1 : ws.length - 1 - i < ws.length := by omega
    exact ⟨_, sqT_gd g hp, List.getElem?_eq_getElem h1⟩
  · obtain ⟨rfl, y⟩ := y
    have y' := y ws (sqT_gd g hp)
    obtain ⟨d, h1, h2⟩ := da.getV y'
    refine ⟨Step.refl _, d, ?_, fun hs' h3 _ => h2.up (g.sub h3)⟩
    rw [List.getElem?_reverse (by rw [← da.len]; exact hi), ← da.len]; exact h1
def fRev (a : FE) : FL := fun st => (a st).bind fun q => match q.1 with
  | .list xs => some (xs.reverse, q.2)
  | .tuple xs => some (xs.reverse, q.2)
  | _ => none
section
variable {X : Cx} {tg a : Expr} {p pos : Pos} {fe : FE}
theorem ri_rev (hg : Gl X "reversed") (hm : X.mg "reversed" = none) (ha : RE X a fe) (hs : starEach [a] X.env = (false, eval a X.env) :: starEach [] X.env := by with_reducible first | exact sn_name | exact sn_const | exact sn_tup | exact sn_list | exact sn_bin | exact sn_call | exact sn_sub | exact sn_if | exact sn_lc) : RI X tg (.Call (.Name "reversed" p) [a] [] pos) (fRev fe) := .mk fun st xs c h => by
  obtain ⟨⟨y, c1⟩, h1, h⟩ := bind_some h
  simp only at h
  split at h
  · cases h
    exact RI.of (RT.pi_revA hg hm (pwE a) hs) fun hs ps σ H R Q q => ha _ _ _ h1 hs ps σ H R _ fun v H2 s2 R2 d2 => by
      obtain ⟨p, ws, rfl, hp, da⟩ := dp_list d2
      exact ⟨p, ws, rfl, .inl ⟨sqL_mono hid_sub hp, q _ H2 s2 R2 (walk_rL hp da)⟩⟩
  · cases h
    exact RI.of (RT.pi_revA hg hm (pwE a) hs) fun hs ps σ H R Q q => ha _ _ _ h1 hs ps σ H R _ fun v H2 s2 R2 d2 => by
      obtain ⟨p, ws, rfl, hp, da⟩ := dp_tuple d2
      exact ⟨p, ws, rfl, .inr ⟨sqT_mono hid_sub hp, q _ H2 s2 R2 (walk_rT hp da)⟩⟩
  · cases h
end

/-! ### what is never reached -/
def fBot : FE := fun _ => none
/-! ### defs that are handed on -/
def fFnA (x : Str) (r : FA) : FA := fun st => (r st).map fun q => (.fn x :: q.1, q.2)
def FnIn (K : PySem.W.Frag) (mg : Str → Option Value) (x : Str) : Prop := ∃ f, PySem.W.nsIn K mainGlobals x = some (some (.ref f)) ∧ mg x = some (.ref f)
theorem eda_fn {K : PySem.W.Frag} {st : Sta} {tr : TA} {xs : List SV} {c : Cs} {x : Str} {f : Addr} (h : PySem.W.nsIn K mainGlobals x = some (some (.ref f))) (hr : EDA K tr st xs c) : EDA K (tCons (tC (.ref f)) tr) st (.fn x :: xs) c := fun hs ps σ H R Q q =>
  hr hs ps σ H R _ fun vs H2 s2 R2 a2 => q (.ref f :: vs) H2 s2 R2 (.cons ⟨f, rfl, h⟩ a2)
section
variable {X : Cx} {e : Expr} {es : List Expr} {p pos : Pos} {fa : FA} {x y : Str} {k i : Nat} {ns : List Str} {F : FnS}
theorem ra_fn (hg : Gl X x) (hx : FnIn X.K X.mg x) (hr : RA X es fa) (hdb : (x == ("__debug__" : Str)) = false := by decide) (hs : starEach (.Name x p :: es) X.env = (false, eval (.Name x p) X.env) :: starEach es X.env := by with_reducible exact sn_name) : RA X (.Name x p :: es) (fFnA x fa) := .mk fun st d c h => by
  obtain ⟨⟨xs, c1⟩, h1, e1⟩ := map_some h
  cases e1
  obtain ⟨f, n1, n2⟩ := hx
  exact RA.of (pa_cons (pe_glob (v := .ref f) hg n2 rfl hdb) (pwA es) hs) (eda_fn n1 (hr _ _ _ h1))
/-- a call of what a slot holds -/
def fCallV (i : Nat) (x : Str) (F : FnS) (a : FA) : FE := fun st => match st.ds[i]? with
  | some (some (.fn y)) => if y = x then fCall F a st else none
  | _ => none
def tGV (K : PySem.W.Frag) (i : Nat) (f : Addr) (F : FnS) (t : TA) : TE := fun σ H Q => σ[i]? = some (some (.ref f)) ∧ tG K F t σ H Q
theorem re_callV (C : At X.prog X.w X.K X.mg X.base k x ns F) (hx : FnIn X.K X.mg x) (hgd : X.A.guards = some []) (hr : Room k X.A) (hN : X.N[i]? = some y) (hv : Vis X.env.scope y) (ha : RA X (e :: es) fa)
    (hdb : (y == ("__debug__" : Str)) = false := by decide) (hcd : (y == ("__classdict__" : Str)) = false := by decide)
    (he : starEach (e :: es) X.env = (false, eval e X.env) :: starEach es X.env := by with_reducible first | exact sn_name | exact sn_const | exact sn_tup | exact sn_list | exact sn_bin | exact sn_un | exact sn_bool | exact sn_cmp | exact sn_call | exact sn_sub | exact sn_if | exact sn_attr | exact sn_lc) (hpl : (backTo pos (starEach es X.env)).any (·.1) = false := by rfl) :
    RE X (.Call (.Name y p) (e :: es) [] pos) (fCallV i x F fa) := by
  obtain ⟨f, fd, hm, hk, G, hb⟩ := C.ex
  have P : PE X (.Call (.Name y p) (e :: es) [] pos) (tGV X.K i f F (wA X (e :: es))) := by
    refine ⟨fun pins s σ H Q I h => ?_⟩
    obtain ⟨h0, h⟩ := h
    refine wpAny_Call_Name_kw (thn ((pe_var (pos := p) hN hv hdb hcd).run pins s σ H (fun v H1 => v = .ref f ∧ H1 = H) I ⟨.ref f, h0, rfl, rfl⟩) fun u s1 ⟨v, H1, I1, r1, q1⟩ => ?_)
    obtain ⟨rfl, rfl⟩ := q1
    cases r1
    refine PySem.W.callWith_K (h₀ := X.base) I.ok.mod.kin hk (thn ((pwA (e :: es)).run pos pins s1 σ _ _ I1 h) fun us s1 ⟨vs, H1, I1, r, hs, ps, cs, c, xs, r2, a1, a2, a3, a4⟩ => ⟨I1.kIn, ?_⟩) he hpl
    have hl : us.length = ns.length := by rw [← r.length, Paired.length a2]; exact G.len _ _ _ _ a3
    have b := hb s1 us hl ns.length (Nat.le_refl _)
    rw [← hl, List.take_length, List.drop_length, hl, List.drop_length, List.zip_nil_left] at b
    exact run_g (args := ⟨us, []⟩) G hgd hr I1 b r a1 a2 a3 a4
  refine .mk fun st d c h => ?_
  unfold fCallV at h
  split at h
  · rename_i z e0
    split at h
    · rename_i ez
      subst ez
      refine RE.of P fun hs ps σ H R Q q => ?_
      obtain ⟨v, v1, g, rfl, hg⟩ := R.slot i _ e0
      obtain ⟨f', n1, n2⟩ := hx
      rw [hg] at n1
      cases n1
      rw [hm] at n2
      cases n2
      exact ⟨v1, ed_G h ha hs ps σ H R Q q⟩
    · cases h
  · cases h
end
end DL


set_option Elab.async false
set_option linter.all false
namespace DL
open PySem PySem.Spec L2
open PyProof.Rows hiding St
section
variable {X : Cx}
end
/-! lcm -/
def lcmOk (i j : Int) : Bool := decide ((max 1 i.natAbs).log2 ≤ 13000 ∧ (max i.natAbs j.natAbs).log2 ≤ 13000 ∧ (Nat.lcm i.natAbs j.natAbs).log2 < bitsLine)
def rLcm : List V → Hp → VK → Prop := fun vs H Q => ∃ a b : Int, vs = [.int a, .int b] ∧ lcmOk a b = true ∧ Q (.int ((Nat.lcm a.natAbs b.natAbs : Nat) : Int)) H
theorem cr_lcm {X : Cx} : CallR X (.builtin "math.lcm") rLcm := by
  intro pins s σ H vs us Q I r h
  obtain ⟨a, b, rfl, ok, q⟩ := h
  have ok' := of_decide_eq_true (show decide _ = true from ok)
  obtain ⟨t, t2, rfl⟩ : ∃ t t2, us = [.int a t, .int b t2] := by
    cases r with
    | cons r rr =>
      cases rr with
      | cons r' rr =>
        cases rr
        obtain ⟨t, rfl⟩ := r
        obtain ⟨t2, rfl⟩ := r'
        exact ⟨t, t2, rfl⟩
  have e : (Nat.lcm 1 a.natAbs).lcm b.natAbs = Nat.lcm a.natAbs b.natAbs := by rw [Nat.lcm_one_left]
  have g := PySem.W.mg_run_lcm a t b t2 (by omega) (by omega) (by rw [e, Int.natAbs_natCast]; exact ok'.2.2)
  rw [e] at g
  exact PySem.call_function_meets PySem.W.MGF.kind_lcm PySem.W.MGF.plain_lcm PySem.W.MGF.entry_lcm (PySem.W.MGF.args_lcm _ _) g.meets ⟨.int _, H, I.tok _, ⟨_, rfl⟩, q⟩
def gLcm : List PyData → Option PyData
  | [.int i, .int j] => if lcmOk i j = true then some (.int ((Nat.lcm i.natAbs j.natAbs : Nat) : Int)) else none
  | _ => none
theorem re_lcm {X : Cx} {a b : Expr} {x : Str} {p pos : Pos} {fa : FA} (hg : Gl X x) (hm : X.mg x = some (.builtin "math.lcm")) (ha : RA X [a, b] fa) (hdb : (x == ("__debug__" : Str)) = false := by decide) (he : starEach [a, b] X.env = (false, eval a X.env) :: starEach [b] X.env := by with_reducible first | exact sn_name | exact sn_const | exact sn_tup | exact sn_list | exact sn_bin | exact sn_un | exact sn_bool | exact sn_cmp | exact sn_call | exact sn_sub | exact sn_if | exact sn_attr | exact sn_lc) (hpl : (backTo pos (starEach [b] X.env)).any (·.1) = false := by rfl) : RE X (.Call (.Name x p) [a, b] [] pos) (fBi gLcm fa) := .mk fun st d c h =>
  RE.of (pe_callBfun cr_lcm hg hm (pwA [a, b]) hdb he hpl) (ed_bi h (fun xs z h => by
    unfold gLcm at h
    split at h
    rotate_left
    · cases h
    split at h <;> cases h
    rename_i hok
    intro hs H vs _ d Q q
    obtain ⟨v, w, rfl, d1, d2⟩ := dpa2 d
    cases dp_int d1
    cases dp_int d2
    exact ⟨_, _, rfl, hok, q _ H (Step.refl H) (.int _)⟩) ha)
/-! in a tuple, a list of any data -/
def gInD : PyData → PyData → Option PyData
  | x, .tuple xs => if SeqAt.shaped x = true ∧ SeqAt.shaped (.tuple xs) = true then some (.bool (xs.any fun z => PyData.eqv z x)) else none
  | x, .list xs => if SeqAt.shaped x = true ∧ SeqAt.shaped (.list xs) = true then some (.bool (xs.any fun z => PyData.eqv z x)) else none
  | _, _ => none
def rInTD (K : PySem.W.Frag) : R2 := fun x y H Q => ∃ d ds, Dp K H x d ∧ Dp K H y (.tuple ds) ∧ SeqAt.shaped d = true ∧ SeqAt.shaped (.tuple ds) = true ∧ Q (.bl (ds.any fun z => PyData.eqv z d)) H
theorem op_inTD {X : Cx} (hu : X.A.units + 65 < cLine) : OpR X (compareOp .In) (rInTD X.K) := by
  intro pins s σ H x y v u Q I rx ry h
  obtain ⟨d, ds, hd, he, sd, se, q⟩ := h
  obtain ⟨as, r1⟩ := Dp.reads I d x v hd rx
  obtain ⟨bs, r2⟩ := Dp.reads I (.tuple ds) y u he ry
  exact SeqAt.in_tuple_reads r2 r1 (SeqAt.canLay_of_shaped se) (SeqAt.canLay_of_shaped sd) (room_in_shaped sd hu) ⟨.bl _, H, I, rfl, q⟩
theorem hu65 {k : Nat} {A : Around} (hr : Room k A) : A.units + 65 < cLine := by have := hr.un; omega
theorem rd_inD {K : PySem.W.Frag} {x y z : PyData} (h : gInD x y = some z) : RD K (fun x y H Q => rInTD K x y H Q ∨ rInD K x y H Q) x y z := by
  unfold gInD at h
  split at h
  · split at h <;> cases h
    rename_i hs
    exact fun _ H v w _ h1 h2 Q q => .inl ⟨x, _, h1.up hid_sub, h2.up hid_sub, hs.1, hs.2, q _ H (Step.refl H) (.bl _)⟩
  · split at h <;> cases h
    rename_i hs
    exact fun _ H v w _ h1 h2 Q q => .inr ⟨x, _, h1.up hid_sub, h2.up hid_sub, hs.1, hs.2, q _ H (Step.refl H) (.bl _)⟩
  · cases h
end DL


set_option Elab.async false
set_option linter.all false
set_option maxRecDepth 100000
set_option maxHeartbeats 4000000
/-! t[::-1] of a tuple -/
namespace DL
open PySem PySem.Spec L2 HT
open PyProof.Rows hiding St
section
variable {prog : Program} {w : World} {A : Around} {E : Value → Shared → Prop} {s : Shared}
end
section
variable {X : Cx}
end
end DL
namespace DL
open PySem PySem.Spec L2
open PyProof.Rows hiding St
end DL


set_option linter.all false
/-! rows of ints: common divisors, reduced rows -/
namespace PL
def gL : List Int → Nat
  | [] => 0
  | x :: r => Nat.gcd x.natAbs (gL r)
def mL (v : List Int) : Int := if 1 < gL v then (gL v : Int) else 1
def red (v : List Int) : List Int := v.map fun x => x / mL v
theorem gL_dvd : ∀ {v : List Int} {x : Int}, x ∈ v → ((gL v : Nat) : Int) ∣ x
  | [], _, h => by cases h
  | y :: r, x, h => by
    rcases List.mem_cons.mp h with rfl | h
    · exact Int.natAbs_dvd_natAbs.mp (by rw [Int.natAbs_natCast]; exact Nat.gcd_dvd_left _ _)
    · exact Int.dvd_trans (Int.natCast_dvd_natCast.mpr (Nat.gcd_dvd_right _ _)) (gL_dvd h)
theorem gL_zero {v : List Int} (h : gL v = 0) : ∀ x ∈ v, x = 0 := fun x m => by
  have := gL_dvd m
  rw [h] at this
  exact Int.zero_dvd.mp this
theorem mL_pos (v : List Int) : 0 < mL v := by unfold mL; split <;> omega
theorem mL_dvd {v : List Int} {x : Int} (h : x ∈ v) : mL v ∣ x := by
  unfold mL
  split
  · exact gL_dvd h
  · exact Int.one_dvd x
theorem mL_eq {v : List Int} (h : gL v ≠ 0) : mL v = gL v := by unfold mL; split <;> omega
theorem red_mul_mL (v : List Int) : ∀ x ∈ v, x / mL v * mL v = x := fun x m => Int.ediv_mul_cancel (mL_dvd m)
theorem gL_map_mul (c : Int) : ∀ v : List Int, gL (v.map (c * ·)) = c.natAbs * gL v
  | [] => by simp [gL]
  | x :: r => by
    show Nat.gcd (c * x).natAbs (gL (r.map (c * ·))) = _
    rw [gL_map_mul c r, Int.natAbs_mul, Nat.gcd_mul_left]; rfl
theorem red_eq_map (v : List Int) : v = (red v).map (mL v * ·) := by
  unfold red
  rw [List.map_map]
  conv => lhs; rw [← List.map_id v]
  exact List.map_congr_left fun x m => by
    show x = mL v * (x / mL v)
    rw [Int.mul_comm]; exact (red_mul_mL v x m).symm
theorem gL_red {v : List Int} (h : gL v ≠ 0) : gL (red v) = 1 := by
  have e := congrArg gL (red_eq_map v)
  rw [gL_map_mul, mL_eq h, Int.natAbs_natCast] at e
  exact (Nat.mul_right_cancel (Nat.pos_of_ne_zero h) (by rw [Nat.one_mul, Nat.mul_comm]; exact e)).symm
theorem red_of_one {v : List Int} (h : gL v = 1) : red v = v := by
  unfold red mL
  rw [h]
  simp
theorem red_mul {c : Int} (hc : 0 < c) (v : List Int) : red (v.map (c * ·)) = red v := by
  by_cases h : gL v = 0
  · have z := gL_zero h
    have : v.map (c * ·) = v := by
      conv => rhs; rw [← List.map_id v]
      exact List.map_congr_left fun x m => by rw [z x m]; simp
    rw [this]
  · have h1 : gL (v.map (c * ·)) ≠ 0 := by
      rw [gL_map_mul]
      exact Nat.mul_ne_zero (by omega) h
    unfold red
    rw [mL_eq h1, mL_eq h, gL_map_mul, List.map_map]
    refine List.map_congr_left fun x m => ?_
    show c * x / ((c.natAbs * gL v : Nat) : Int) = x / gL v
    have e : ((c.natAbs * gL v : Nat) : Int) = c * gL v := by
      rw [Int.natCast_mul, Int.natAbs_of_nonneg (Int.le_of_lt hc)]
    rw [e]
    exact Int.mul_ediv_mul_of_pos _ _ hc
/-- rows that are the same but for a factor above 0 -/
theorem red_par {a b : Int} {v w : List Int} (ha : 0 < a) (hb : 0 < b) (h : v.map (a * ·) = w.map (b * ·)) : red v = red w := by
  rw [← red_mul ha v, h, red_mul hb w]
theorem gL_ne {v : List Int} {x : Int} (h : x ∈ v) (hx : x ≠ 0) : gL v ≠ 0 := fun z => hx (gL_zero z x h)
end PL


set_option Elab.async false
set_option linter.all false
set_option maxRecDepth 100000
set_option maxHeartbeats 400000
set_option exponentiation.threshold 20000
namespace PL
open PySem PySem.Spec L2 DL

/-! sizes -/
theorem bsome {α β : Type} (x : α) (f : α → Option β) : (some x).bind f = f x := by rw [Option.bind_some]
theorem msome {α β : Type} (x : α) (f : α → β) : (some x).map f = some (f x) := by rw [Option.map_some]
def Sm (n : Nat) (x : Int) : Prop := x.natAbs < 2 ^ n
theorem Sm.mul {n : Nat} {x y : Int} (h : Sm (n / 2) x) (g : Sm (n / 2) y) : Sm n (x * y) := by
  unfold Sm at *
  rw [Int.natAbs_mul]
  have h1 := Nat.mul_lt_mul_of_lt_of_le h (Nat.le_of_lt g) (Nat.two_pow_pos _)
  rw [← Nat.pow_add] at h1
  exact Nat.lt_of_lt_of_le h1 (Nat.pow_le_pow_right (by decide) (by omega))
theorem Sm.add {n : Nat} {x y : Int} (h0 : 0 < n) (h : Sm (n - 1) x) (g : Sm (n - 1) y) : Sm n (x + y) := by
  unfold Sm at *
  obtain ⟨m, rfl⟩ : ∃ m, n = m + 1 := ⟨n - 1, by omega⟩
  rw [Nat.add_sub_cancel] at h g
  rw [Nat.pow_succ]; omega
theorem Sm.sub {n : Nat} {x y : Int} (h0 : 0 < n) (h : Sm (n - 1) x) (g : Sm (n - 1) y) : Sm n (x - y) := by
  unfold Sm at *
  obtain ⟨m, rfl⟩ : ∃ m, n = m + 1 := ⟨n - 1, by omega⟩
  rw [Nat.add_sub_cancel] at h g
  rw [Nat.pow_succ]; omega
theorem Sm.neg {m : Nat} {x : Int} (h : Sm m x) : Sm m (-x) := by unfold Sm at *; rw [Int.natAbs_neg]; exact h
theorem Sm.div {m : Nat} {x y : Int} (h : Sm m x) : Sm m (x / y) := Nat.lt_of_le_of_lt (Int.natAbs_ediv_le_natAbs x y) h
theorem Sm.lit {n m : Nat} (h : m < 1099511627776) (hn : 40 ≤ n) : Sm n (OfNat.ofNat m) := Nat.lt_of_lt_of_le (show m < 2 ^ 40 from h) (Nat.pow_le_pow_right (by decide) hn)
theorem Sm.zero {n : Nat} : Sm n 0 := Nat.two_pow_pos _
theorem Sm.one {n : Nat} (h : 0 < n) : Sm n 1 := Nat.lt_of_lt_of_le (by decide : (1 : Int).natAbs < 2 ^ 1) (Nat.pow_le_pow_right (by decide) h)
theorem Sm.up {m : Nat} (n : Nat) {x : Int} (h : Sm m x) (hn : m ≤ n) : Sm n x := Nat.lt_of_lt_of_le h (Nat.pow_le_pow_right (by decide) hn)
theorem Sm.log {n : Nat} {x : Int} (h : Sm n x) (h0 : 0 < n) : x.natAbs.log2 < n := PySem.Flt.log2_lt_of h0 h
/-- at most n places -/
abbrev Sz (n : Nat) (x : Int) : Prop := ∀ k, Sm (k + n) x
theorem Sm.sz {n : Nat} {x : Int} (h : Sm n x) : Sz n x := fun k => h.up _ (by omega)
theorem Sz.sm {n m : Nat} {x : Int} (h : Sz n x) (hn : n ≤ m := by decide) : Sm m x := (h 0).up _ (by omega)
theorem Sz.by (n : Nat) {m : Nat} {x : Int} (h : Sz m x) (hn : m ≤ n) : Sz n x := (h.sm hn).sz
theorem Sz.mul {m n : Nat} {x y : Int} (h : Sz m x) (g : Sz n y) : Sz (m + n) (x * y) := Sm.sz (by
  have h := h.sm (Nat.le_refl m)
  have g := g.sm (Nat.le_refl n)
  unfold Sm at *
  rw [Int.natAbs_mul, Nat.pow_add]
  exact Nat.mul_lt_mul_of_lt_of_le h (Nat.le_of_lt g) (Nat.two_pow_pos _))
theorem Sz.add {m n : Nat} {x y : Int} (h : Sz m x) (g : Sz n y) : Sz (max m n + 1) (x + y) :=
  (Sm.add (by omega) (h.sm (by omega)) (g.sm (by omega))).sz
theorem Sz.sub {m n : Nat} {x y : Int} (h : Sz m x) (g : Sz n y) : Sz (max m n + 1) (x - y) :=
  (Sm.sub (by omega) (h.sm (by omega)) (g.sm (by omega))).sz
theorem Sz.neg {m : Nat} {x : Int} (h : Sz m x) : Sz m (-x) := fun k => (h k).neg
theorem Sz.div {m : Nat} {x y : Int} (h : Sz m x) : Sz m (x / y) := fun k => (h k).div
theorem Sz.of40 {x : Int} (h : x.natAbs < 2 ^ 40) : Sz 40 x := Sm.sz h
theorem Sz.lit2 {x : Int} (h : x.natAbs < 2 ^ 2) : Sz 2 x := Sm.sz h
theorem sz_2 : Sz 2 (2 : Int) := Sz.lit2 (by decide)
theorem sz_3 : Sz 2 (3 : Int) := Sz.lit2 (by decide)
theorem sz_4 : Sz 3 (4 : Int) := Sm.sz (by unfold Sm; decide)
theorem sz_1 : Sz 1 (1 : Int) := Sm.sz (by unfold Sm; decide)
theorem sz_8 : Sz 4 (8 : Int) := Sm.sz (by unfold Sm; decide)
theorem sz_0 : Sz 0 (0 : Int) := Sm.sz (by unfold Sm; decide)
theorem sz_of {x : Int} (h0 : 0 ≤ x) (h1 : x < 2 ^ 60) : Sz 60 x := Sm.sz (by unfold Sm; omega)
theorem mL_le {v : List Int} (h : ∃ x ∈ v, x ≠ 0) : ∃ x ∈ v, (mL v).natAbs ≤ x.natAbs := by
  obtain ⟨x, m, hx⟩ := h
  exact ⟨x, m, Nat.le_of_dvd (Int.natAbs_pos.mpr hx) (Int.natAbs_dvd_natAbs.mpr (mL_dvd m))⟩
theorem sm_mL {n : Nat} (h0 : 1 ≤ n) {v : List Int} (h : ∀ x ∈ v, Sm n x) : Sm n (mL v) := by
  by_cases hz : ∃ x ∈ v, x ≠ 0
  · obtain ⟨x, m, hx⟩ := mL_le hz
    exact Nat.lt_of_le_of_lt hx (h x m)
  · have : gL v = 0 := by
      have : ∀ w : List Int, (∀ x ∈ w, x = 0) → gL w = 0 := by
        intro w
        induction w with
        | nil => intro _; rfl
        | cons y r ih =>
          intro hw
          show Nat.gcd y.natAbs (gL r) = 0
          rw [hw y List.mem_cons_self, ih fun x m => hw x (List.mem_cons_of_mem _ m)]; rfl
      exact this v fun x m => Classical.byContradiction fun q => hz ⟨x, m, q⟩
    have e : mL v = 1 := by unfold mL; rw [this]; rfl
    rw [e]
    exact Sm.one h0
theorem gMul_ok {x y : Int} (h : Sm 4000 x) (g : Sm 4000 y) : gMul (.int x) (.int y) = some (.int (x * y)) := by
  have h1 := h.log (by decide)
  have h2 := g.log (by decide)
  exact if_pos (by simp [mulOk]; omega)
theorem gDiv_ok {i m : Int} (h : 0 < m) (h2 : Sm 4000 m) : gDiv (.int i) (.int m) = some (.int (i / m)) := by
  have e : gDiv (.int i) (.int m) = some (.int (i.fdiv m)) := if_pos (by
    have := h2.log (by decide)
    simp [divOk]; omega)
  rw [e, Int.fdiv_eq_ediv_of_nonneg i (by omega)]
theorem gDiv_neg {i m : Int} (h : 0 < m) (h2 : Sm 4000 m) : gDiv (.int i) (.int (-m)) = some (.int (-i / m)) := by
  have e : gDiv (.int i) (.int (-m)) = some (.int (i.fdiv (-m))) := if_pos (by
    have := h2.log (by decide)
    simp [divOk]; omega)
  rw [e, show i.fdiv (-m) = (-i).fdiv m by have := Int.neg_fdiv_neg (-i) m; rw [Int.neg_neg] at this; exact this, Int.fdiv_eq_ediv_of_nonneg (-i) (by omega)]
theorem gMod_ok {i j : Int} (h : 0 < j) : gMod (.int i) (.int j) = some (.int (i % j)) := if_pos h
theorem gEq_int (i j : Int) : gEq (.int i) (.int j) = some (.bool (i == j)) := rfl
theorem gNe_int (i j : Int) : gNe (.int i) (.int j) = some (.bool (!(i == j))) := rfl
theorem dm_ok {i j : Int} (h : 0 < j) (h2 : Sm 1000 j) : gDivmod [.int i, .int j] = some (.tuple [.int (i / j), .int (i % j)]) := if_pos (by
  have := h2.log (by decide)
  have e : Builtin.divisionGoesByPylong i j = false := by
    unfold Builtin.divisionGoesByPylong
    have hz : (j == 0) = false := beq_eq_false_iff_ne.mpr (by omega)
    simp only [hz]
    have : ¬ (j.natAbs.log2 / 30 + 1 > 300) := by omega
    simp [this]
  unfold divmodOk
  rw [e, decide_eq_true h]; rfl)
/-! places and cuts of short rows -/
section
variable (a b c d e f : PyData)
theorem ix1_0 : atI [a] 0 = some a := rfl
theorem ix2_0 : atI [a, b] 0 = some a := rfl
theorem ix2_1 : atI [a, b] 1 = some b := rfl
theorem ix3_0 : atI [a, b, c] 0 = some a := rfl
theorem ix3_1 : atI [a, b, c] 1 = some b := rfl
theorem ix3_2 : atI [a, b, c] 2 = some c := rfl
theorem ix4_0 : atI [a, b, c, d] 0 = some a := rfl
theorem ix4_1 : atI [a, b, c, d] 1 = some b := rfl
theorem ix4_2 : atI [a, b, c, d] 2 = some c := rfl
theorem ix4_3 : atI [a, b, c, d] 3 = some d := rfl
theorem ix5_0 : atI [a, b, c, d, e] 0 = some a := rfl
theorem ix5_1 : atI [a, b, c, d, e] 1 = some b := rfl
theorem ix5_2 : atI [a, b, c, d, e] 2 = some c := rfl
theorem ix5_3 : atI [a, b, c, d, e] 3 = some d := rfl
theorem ix5_4 : atI [a, b, c, d, e] 4 = some e := rfl
theorem ix6_0 : atI [a, b, c, d, e, f] 0 = some a := rfl
theorem ix6_1 : atI [a, b, c, d, e, f] 1 = some b := rfl
theorem ix6_2 : atI [a, b, c, d, e, f] 2 = some c := rfl
theorem ix6_3 : atI [a, b, c, d, e, f] 3 = some d := rfl
theorem ix6_4 : atI [a, b, c, d, e, f] 4 = some e := rfl
theorem ix6_5 : atI [a, b, c, d, e, f] 5 = some f := rfl
theorem cut5_04 : cutD [a, b, c, d, e] none (some 4) = [a, b, c, d] := rfl
theorem cut5_14 : cutD [a, b, c, d, e] (some 1) (some 4) = [b, c, d] := rfl
theorem cut4_04 : cutD [a, b, c, d] none (some 4) = [a, b, c, d] := rfl
theorem cut4_03 : cutD [a, b, c, d] none (some 3) = [a, b, c] := rfl
theorem cut4_14 : cutD [a, b, c, d] (some 1) none = [b, c, d] := rfl
end
theorem ixN3_0 : ixN 3 0 = some 0 := rfl
theorem ixN3_1 : ixN 3 1 = some 1 := rfl
theorem ixN3_2 : ixN 3 2 = some 2 := rfl
theorem atI_in {xs : List PyData} {v : Int} (h0 : 0 ≤ v) (h1 : v < (xs.length : Nat)) : ∃ x, x ∈ xs ∧ atI xs v = some x := by
  have hl : v.toNat < xs.length := by omega
  refine ⟨xs[v.toNat], List.getElem_mem hl, ?_⟩
  unfold atI ixN
  rw [if_pos h0, if_pos h1]
  exact List.getElem?_eq_getElem hl
/-! data that are short, and written out -/
def SOk (x : Str) : Prop := ∀ c ∈ x.cps.toList, c < 0x110000
theorem SOk.app {x y : Str} (h : SOk x) (g : SOk y) : SOk (x ++ y) := fun c m => by
  rcases PyProof.Rows.mem_cps_append.mp m with m | m
  · exact h c m
  · exact g c m
theorem SOk.str (s : String) : SOk (Str.ofString s) := fun c m => by
  rw [PyProof.Rows.signs_ofString] at m
  obtain ⟨k, _, rfl⟩ := List.mem_map.mp m
  exact k.valid.elim (fun h => by have : k.toNat < 0xd800 := h; omega) (fun h => h.2)
theorem SOk.from : ∀ (ts : List Str) (k : Nat) (acc : Str), SOk acc → (∀ t ∈ ts, SOk t) → SOk (textFrom k acc ts)
  | [], k, acc, h, _ => h
  | t :: r, k, acc, h, g => SOk.from r (k + 1) _ ((h.app (by split <;> exact SOk.str _)).app (g t (List.mem_cons_self ..))) fun u hu => g u (List.mem_cons_of_mem _ hu)
theorem SOk.list (ts : List Str) (g : ∀ t ∈ ts, SOk t) : SOk (listText ts) := (SOk.from ts 0 _ (SOk.str "[") g).app (SOk.str "]")
theorem SOk.join : ∀ (ts : List Str), (∀ t ∈ ts, SOk t) → SOk (Str.join ", " ts)
  | [], _ => fun c m => by cases m
  | [x], g => g x (List.mem_cons_self ..)
  | x :: y :: r, g => ((g x (List.mem_cons_self ..)).app (SOk.str ", ")).app (SOk.join (y :: r) fun u hu => g u (List.mem_cons_of_mem _ hu))
theorem SOk.tup (ts : List Str) (g : ∀ t ∈ ts, SOk t) : SOk (tupleText ts) := ((SOk.str "(").app (SOk.join ts g)).app (by split <;> exact SOk.str _)
mutual
def Nice (n : Nat) : PyData → Prop
  | .none => True
  | .bool _ => True
  | .int i => Sm n i
  | .str _ => False
  | .list ds => NiceAll n ds
  | .tuple ds => NiceAll n ds
  | .dict _ => False
def NiceAll (n : Nat) : List PyData → Prop
  | [] => True
  | d :: ds => Nice n d ∧ NiceAll n ds
end
mutual
theorem Nice.sh {n : Nat} (hn : n < 1900) : ∀ d : PyData, Nice n d → d.showable = true ∧ d.hasDict = false ∧ d.canLay0 = true ∧ SOk d.shown ∧ d.leavesShort (n + 9) = true ∧ PyData.eqv d d = true
  | .none, _ => ⟨rfl, rfl, rfl, SOk.str _, rfl, rfl⟩
  | .bool b, _ => ⟨rfl, rfl, rfl, by cases b <;> exact SOk.str _, rfl, by simp [PyData.eqv]⟩
  | .int i, h => by
    have h' : Sm n i := by simpa only [Nice] using h
    have h1 : i.natAbs.log2 < n + 1 := (h'.up (n + 1) (by omega)).log (by omega)
    refine ⟨by simp only [PyData.showable, decide_eq_true_eq]; omega, rfl, rfl, SOk.str _, ?_, by simp [PyData.eqv]⟩
    have h2 := int_text_length_le (k := n + 1) (by omega) h1
    simp only [PyData.leavesShort, decide_eq_true_eq]
    show (Str.ofString (toString i)).length ≤ n + 9
    rw [ofString_length]; omega
  | .str _, h => by simp only [Nice] at h
  | .list ds, h => by
    obtain ⟨h1, h2, h3, h4, h5, h6⟩ := NiceAll.sh hn ds (by simpa only [Nice] using h)
    exact ⟨by simpa only [PyData.showable] using h1, by simpa only [PyData.hasDict] using h2, by simpa only [PyData.canLay0] using h3, SOk.list _ h4, by simpa only [PyData.leavesShort] using h5, by simpa only [PyData.eqv] using h6⟩
  | .tuple ds, h => by
    obtain ⟨h1, h2, h3, h4, h5, h6⟩ := NiceAll.sh hn ds (by simpa only [Nice] using h)
    exact ⟨by simpa only [PyData.showable] using h1, by simpa only [PyData.hasDict] using h2, by simpa only [PyData.canLay0] using h3, SOk.tup _ h4, by simpa only [PyData.leavesShort] using h5, by simpa only [PyData.eqv] using h6⟩
  | .dict _, h => by simp only [Nice] at h
theorem NiceAll.sh {n : Nat} (hn : n < 1900) : ∀ ds : List PyData, NiceAll n ds → PyData.showableAll ds = true ∧ PyData.hasDictAll ds = false ∧ PyData.canLayAll0 ds = true ∧ (∀ t ∈ PyData.shownAll ds, SOk t) ∧ PyData.leavesShortAll (n + 9) ds = true ∧ PyData.eqvAll ds ds = true
  | [], _ => ⟨rfl, rfl, rfl, (fun t m => by simp [PyData.shownAll] at m), rfl, rfl⟩
  | d :: ds, h => by
    have h' : Nice n d ∧ NiceAll n ds := by simpa only [NiceAll] using h
    obtain ⟨h1, h2, h3, h4, h5, h6⟩ := Nice.sh hn d h'.1
    obtain ⟨g1, g2, g3, g4, g5, g6⟩ := NiceAll.sh hn ds h'.2
    refine ⟨by simp only [PyData.showableAll, h1, g1, Bool.and_self], by simp only [PyData.hasDictAll, h2, g2, Bool.or_self], by simp only [PyData.canLayAll0, h3, g3, Bool.and_self], fun t m => ?_, by simp only [PyData.leavesShortAll, h5, g5, Bool.and_self], by simp only [PyData.eqvAll, h6, g6, Bool.and_self]⟩
    rcases List.mem_cons.mp (show t ∈ d.shown :: PyData.shownAll ds from m) with rfl | m
    · exact h4
    · exact g4 t m
end
/-- what repr makes of nice data, and that it is equal to itself -/
structure Rep (d : PyData) (t : PyData) : Prop where
  r : gRepr [d] = some t
  ne : gNe t t = some (.bool false)
  eq : gEq t t = some (.bool true)
theorem eq_str {x : Str} (h : SOk x) : gEq (.str x) (.str x) = some (.bool true) ∧ gNe (.str x) (.str x) = some (.bool false) := by
  have h1 : PyData.strOk x = true := by
    unfold PyData.strOk
    rw [Array.all_eq_true']
    intro c m
    exact decide_eq_true (h c (Array.mem_toList_iff.mpr m))
  have h2 : SeqAt.shaped (.str x) = true := by
    unfold SeqAt.shaped
    rw [show (PyData.str x).canLay0 = PyData.strOk x from rfl, h1]; rfl
  unfold gEq gNe
  rw [if_pos ⟨h2, h2⟩, if_pos ⟨h2, h2⟩]
  simp only [PyData.eqv, beq_self_eq_true, Bool.not_true, and_self]
theorem rep_ok {n : Nat} {d : PyData} (h : Nice n d) (hn : n < 1900) (hb : (n + 11) * d.bulk + (n + 9) ≤ 2 ^ 24) (hd : d.depth ≤ 60) : ∃ t, Rep d t := by
  obtain ⟨h1, h2, h3, h4, h5, h6⟩ := Nice.sh hn d h
  have h7 := PyData.shown_le_bulk (n + 9) (by omega) d h5
  refine ⟨.str d.shown, if_pos ?_, (eq_str h4).2, (eq_str h4).1⟩
  unfold shownOk
  have h8 : d.shown.length ≤ sizeLine := Nat.le_trans h7 (by unfold sizeLine; exact hb)
  rw [h1, h2, decide_eq_true h8, decide_eq_true hd]; rfl
/-! rows of ints as data -/
abbrev T2 (a b : Int) : PyData := .tuple [.int a, .int b]
abbrev T3 (a b c : Int) : PyData := .tuple [.int a, .int b, .int c]
abbrev T4 (a b c d : Int) : PyData := .tuple [.int a, .int b, .int c, .int d]
abbrev T5 (a b c d e : Int) : PyData := .tuple [.int a, .int b, .int c, .int d, .int e]
abbrev L4 (a b c d : Int) : PyData := .list [.int a, .int b, .int c, .int d]
abbrev L5 (a b c d e : Int) : PyData := .list [.int a, .int b, .int c, .int d, .int e]
abbrev L3 (a b c : Int) : List PyData := [.int a, .int b, .int c]
def nts (v : List Int) : List PyData := v.map PyData.int
theorem nts_shaped : ∀ (v : List Int), PyData.canLayAll0 (nts v) = true ∧ PyData.depthAll (nts v) = 0
  | [] => ⟨rfl, rfl⟩
  | x :: v => by
    obtain ⟨h1, h2⟩ := nts_shaped v
    refine ⟨?_, ?_⟩
    · show (true && PyData.canLayAll0 (nts v)) = true
      rw [h1]; rfl
    · show max 0 (PyData.depthAll (nts v)) = 0
      rw [h2]; rfl
theorem eqv_ints : ∀ (v w : List Int), PyData.eqvAll (nts v) (nts w) = (v == w)
  | [], [] => rfl
  | [], _ :: _ => rfl
  | _ :: _, [] => rfl
  | x :: v, y :: w => by
    show (x == y && PyData.eqvAll (nts v) (nts w)) = _
    rw [eqv_ints v w]; rfl
theorem shaped_tup (v : List Int) : SeqAt.shaped (.tuple (nts v)) = true := by
  unfold SeqAt.shaped
  rw [show (PyData.tuple (nts v)).canLay0 = PyData.canLayAll0 (nts v) from rfl, (nts_shaped v).1, show (PyData.tuple (nts v)).depth = PyData.depthAll (nts v) + 1 from rfl, (nts_shaped v).2]; rfl
theorem seq_nx {a b : FS} {st st1 : Sta} (h : a st = some (.nx st1)) : fSeq a b st = b st1 := by unfold fSeq; rw [h]; rfl
end PL


set_option Elab.async false
set_option linter.all false
set_option maxRecDepth 100000
set_option maxHeartbeats 400000
namespace PL
open PySem PySem.Spec L2 DL
open PyProof.Rows hiding St
def b_is_whole : FS := (fRet (fUn (gTyIs "int") (fVar 0)))
def F_is_whole : FnS := mkF 1 1 0 b_is_whole
def b_is_row : FS := (fRet (fAndV (fUn (gTyIs "tuple") (fVar 0)) (fAndV (fOp gEq (fBi gLen (fConsA (fVar 0) fNilA)) (fVar 1)) (fBi gAll (fConsA (fOfL (fLc (fIt (fVar 0)) (aName 2) fYes (fCall F_is_whole (fConsA (fVar 2) fNilA)) [2])) fNilA)))))
def F_is_row : FnS := mkF 2 3 0 b_is_row
def b_divisor_of : FS := (fSeq (fSet 1 (fLit (.int 0)))
  (fSeq (fFor (fIt (fVar 0)) (aName 2) (fSet 1 (fBi gGcd (fConsA (fVar 1) (fConsA (fVar 2) fNilA)))))
  (fRet (fVar 1))))
def F_divisor_of : FnS := mkF 1 3 0 b_divisor_of
def b_is_reduced_row : FS := (fRet (fAndV (fCall F_is_row (fConsA (fVar 0) (fConsA (fVar 1) fNilA))) (fOp gEq (fCall F_divisor_of (fConsA (fVar 0) fNilA)) (fLit (.int 1)))))
def F_is_reduced_row : FnS := mkF 2 2 0 b_is_reduced_row
def b_reduced : FS := (fSeq (fSet 1 (fBi gMax (fConsA (fCall F_divisor_of (fConsA (fVar 0) fNilA)) (fConsA (fLit (.int 1)) fNilA))))
  (fRet (fBi gTuple (fConsA (fOfL (fLc (fIt (fVar 0)) (aName 2) fYes (fOp gDiv (fVar 2) (fVar 1)) [2])) fNilA))))
def F_reduced : FnS := mkF 1 3 0 b_reduced
def b_dot : FS := (fRet (fBi gSum (fConsA (fOfL (fLc (fZip (fConsA (fVar 0) (fConsA (fVar 1) fNilA))) (aTup 2 (aCons (aName 2) (aCons (aName 3) aNil))) fYes (fOp gMul (fVar 2) (fVar 3)) [2, 3])) fNilA)))
def F_dot : FnS := mkF 2 4 0 b_dot
def b_combined : FS := (fRet (fBi gTuple (fConsA (fOfL (fLc (fZip (fConsA (fVar 1) (fConsA (fVar 3) fNilA))) (aTup 2 (aCons (aName 4) (aCons (aName 5) aNil))) fYes (fOp gPlus (fOp gMul (fVar 0) (fVar 4)) (fOp gMul (fVar 2) (fVar 5))) [4, 5])) fNilA)))
def F_combined : FnS := mkF 4 6 0 b_combined
def b_ratio : FS := (fSeq (fSet 2 (fIf (fTru (fOp (gCmp fun i j => decide (j < i)) (fVar 1) (fLit (.int 0)))) (fBi gGcd (fConsA (fVar 0) (fConsA (fVar 1) fNilA))) (fUn gNeg (fBi gGcd (fConsA (fVar 0) (fConsA (fVar 1) fNilA))))))
  (fRet (fTup (fConsA (fOp gDiv (fVar 0) (fVar 2)) (fConsA (fOp gDiv (fVar 1) (fVar 2)) fNilA)))))
def F_ratio : FnS := mkF 2 3 0 b_ratio
def b_is_fraction : FS := (fRet (fAndV (fCall F_is_reduced_row (fConsA (fVar 0) (fConsA (fLit (.int 2)) fNilA))) (fOp (gCmp fun i j => decide (j < i)) (fOp gIx (fVar 0) (fLit (.int 1))) (fLit (.int 0)))))
def F_is_fraction : FnS := mkF 1 1 0 b_is_fraction
end PL


set_option Elab.async false
set_option linter.all false
set_option maxRecDepth 100000
set_option maxHeartbeats 400000
set_option exponentiation.threshold 20000
namespace PL
open PySem PySem.Spec L2 DL
local macro_rules | `(tactic| simp! [$as,*]) => `(tactic| simp only [fThaw, fThawT, fThawL, thawD, thawO, noL, noLAll, fAug, gAug, fRev, fFnA, fCallV, fBot, fZip, zipD, gSum, intsOf, List.foldl_cons, List.foldl_nil, mkF, fRet, fRetL, fRetN, fSkip, fSeq, fNever, fSet, fAsg, fNew, fIfS, fDrop, fPar, fPar3, fSetc, fSetc2, fVar, fLit, fOp, fUn, fTup, fTup.datsOf, fLst, fNilA, fConsA, fStarA, fCelA, fOfL, fTru, fAndT, fOrT, fNotT, fAndV, fOrV, fNotV, fIf, fBi, fCall, fCallL, fCallFr, fPerm, callF, celOf, celsOk, norm, aName, aNil, aCons, aTup, setD, fSl, fIt, fItL, fItT, fFor, forGo, fLc, lcGo, fYes, wipeD, fCix, fList, fSlL, fPart, fNoPart, fChain, List.length_cons, List.length_nil, List.getElem?_cons_zero, List.getElem?_cons_succ, List.getElem?_nil, List.set_cons_zero, List.set_cons_succ, List.map_cons, List.map_nil, List.cons_append, List.nil_append, List.append_nil, List.replicate, List.take_zero, List.take_nil, List.take_succ_cons, ↓bsome, ↓msome, Option.bind_some, Option.map_some, Option.bind_none, Option.map_none, Nat.sub_self, Int.cast_ofNat_Int, Nat.reduceAdd, Nat.reduceMul, Nat.reduceSub, Nat.reduceLeDiff, Nat.reduceLT, Nat.zero_add, Nat.add_zero, and_self, and_true, true_and, if_true, if_false, ↓reduceIte, ite_true, Bool.true_eq_false, Bool.false_eq_true, beq_self_eq_true, Bool.and_self, Bool.not_true, Bool.not_false, decide_true, decide_false, gLen, gTyIs, gTyNot, tyOf, gNeg, gPlus, DL.gSub, gCmp, gInt, gAbs, gTuple, gMax, gMin, gGcd, LIM, gIx, $as,*])
local macro_rules | `(tactic| simpa! [$as,*]) => `(tactic| simp (maxDischargeDepth := 40) only [fThaw, fThawT, fThawL, thawD, thawO, noL, noLAll, fAug, gAug, fRev, fFnA, fCallV, fBot, fZip, zipD, gSum, intsOf, List.foldl_cons, List.foldl_nil, mkF, fRet, fRetL, fRetN, fSkip, fSeq, fNever, fSet, fAsg, fNew, fIfS, fDrop, fPar, fPar3, fSetc, fSetc2, fVar, fLit, fOp, fUn, fTup, fTup.datsOf, fLst, fNilA, fConsA, fStarA, fCelA, fOfL, fTru, fAndT, fOrT, fNotT, fAndV, fOrV, fNotV, fIf, fBi, fCall, fCallL, fCallFr, fPerm, callF, celOf, celsOk, norm, aName, aNil, aCons, aTup, setD, fSl, fIt, fItL, fItT, fFor, forGo, fLc, lcGo, fYes, wipeD, fCix, fList, fSlL, fPart, fNoPart, fChain, List.length_cons, List.length_nil, List.getElem?_cons_zero, List.getElem?_cons_succ, List.getElem?_nil, List.set_cons_zero, List.set_cons_succ, List.map_cons, List.map_nil, List.cons_append, List.nil_append, List.append_nil, List.replicate, List.take_zero, List.take_nil, List.take_succ_cons, ↓bsome, ↓msome, Option.bind_some, Option.map_some, Option.bind_none, Option.map_none, Nat.sub_self, Int.cast_ofNat_Int, Nat.reduceAdd, Nat.reduceMul, Nat.reduceSub, Nat.reduceLeDiff, Nat.reduceLT, Nat.zero_add, Nat.add_zero, and_self, and_true, true_and, if_true, if_false, ↓reduceIte, ite_true, Bool.true_eq_false, Bool.false_eq_true, beq_self_eq_true, Bool.and_self, Bool.not_true, Bool.not_false, decide_true, decide_false, gLen, gTyIs, gTyNot, tyOf, gNeg, gPlus, DL.gSub, gCmp, gInt, gAbs, gTuple, gMax, gMin, gGcd, LIM, gIx, ix1_0, ix2_0, ix2_1, ix3_0, ix3_1, ix3_2, ix4_0, ix4_1, ix4_2, ix4_3, ix5_0, ix5_1, ix5_2, ix5_3, ix5_4, ix6_0, ix6_1, ix6_2, ix6_3, ix6_4, ix6_5, cut5_04, cut5_14, cut4_04, cut4_03, cut4_14, Sm.mul, Sm.add, Sm.sub, Sm.neg, Sm.div, Sm.lit, sz_0, sz_1, sz_2, sz_3, sz_4, sz_8, Nat.reduceDiv, Nat.reduceSub, Nat.reduceLT, Nat.reduceLeDiff, Int.reduceLT, Int.reduceNeg, Int.mul_pos, gMul_ok, gDiv_ok, gMod_ok, $as,*])
/-! wholes and ratios of the program -/
inductive IsRow (v : List Int) : PyData → Prop
  | t : IsRow v (.tuple (v.map .int))
  | l : IsRow v (.list (v.map .int))
abbrev DivB : FS := (fSet 1 (fBi gGcd (fConsA (fVar 1) (fConsA (fVar 2) fNilA))))
theorem div_for (x0 : Option SV) (c : Cs) : ∀ (v : List Int) (g : Nat) (x2 : Option SV), ∃ y2, forGo (aName 2) DivB (v.map .int) ⟨[x0, some (.dat (.int (g : Nat))), x2], c⟩ = some (.nx ⟨[x0, some (.dat (.int ((Nat.gcd g (gL v) : Nat) : Int))), y2], c⟩)
  | [], g, x2 => ⟨x2, by simp [forGo, gL]⟩
  | x :: v, g, x2 => by
    obtain ⟨y2, ih⟩ := div_for x0 c v (Nat.gcd g x.natAbs) (some (.dat (.int x)))
    refine ⟨y2, ?_⟩
    have e : DivB ⟨[x0, some (.dat (.int (g : Nat))), some (.dat (.int x))], c⟩ = some (.nx ⟨[x0, some (.dat (.int ((Nat.gcd g x.natAbs : Nat) : Int))), some (.dat (.int x))], c⟩) := by
      simp! [Int.natAbs_natCast]
    rw [Nat.gcd_assoc] at ih
    generalize DivB = b at e ih ⊢
    simp only [List.map_cons, forGo, aName, setD, List.set_cons_succ, List.set_cons_zero, Option.bind_some, e]
    exact ih
theorem e_div {v : List Int} {r : PyData} (h : IsRow v r) : F_divisor_of [.dat r] [] = some (.dat (.int (gL v : Nat)), []) := by
  obtain ⟨y2, e⟩ := div_for (some (.dat r)) [] v 0 none
  rw [Nat.gcd_zero_left] at e
  have e0 : b_divisor_of = (fSeq (fSet 1 (fLit (.int (0 : Nat)))) (fSeq (fFor (fIt (fVar 0)) (aName 2) DivB) (fRet (fVar 1)))) := rfl
  generalize DivB = b at e e0
  cases h <;> simp only [F_divisor_of, mkF, e0, fSeq, fSet, fLit, fFor, fIt, fVar, List.length_cons, List.length_nil, List.map_cons, List.map_nil, List.replicate, List.cons_append, List.nil_append, List.set_cons_zero, List.set_cons_succ, List.getElem?_cons_zero, List.getElem?_cons_succ, Option.bind_some, Option.map_some, e, fRet, Nat.reduceAdd, Nat.reduceSub, and_self, if_true, List.take_zero, Nat.zero_add]
theorem mL_max (v : List Int) : (if (1 : Int) > ((gL v : Nat) : Int) then (1 : Int) else ((gL v : Nat) : Int)) = mL v := by
  unfold mL; split <;> split <;> omega
theorem mL_max' (v : List Int) : (if ((gL v : Nat) : Int) > 1 then ((gL v : Nat) : Int) else 1) = mL v := by
  unfold mL; split <;> split <;> omega
theorem lc_div (x0 : Option SV) {m : Int} (hm : 0 < m) (hs : Sm 4000 m) (c : Cs) : ∀ v : List Int, lcGo (aName 2) fYes (fOp gDiv (fVar 2) (fVar 1)) [x0, some (.dat (.int m)), none] (v.map .int) c = some ((v.map (· / m)).map .int, c)
  | [] => rfl
  | x :: v => by
    have ih := lc_div x0 hm hs c v
    simpa! [*, ih]
theorem e_reduced {v : List Int} {r : PyData} (h : IsRow v r) (hs : ∀ x ∈ v, Sm 4000 x) (hl : v.length ≤ 100000) : F_reduced [.dat r] [] = some (.dat (.tuple ((red v).map .int)), []) := by
  have h1 := mL_pos v
  have h2 := sm_mL (n := 4000) (by decide) hs
  have h3 := e_div h
  have h4 := lc_div (some (.dat r)) h1 h2 [] v
  have h5 : (v.map PyData.int).length ≤ 100000 := by rw [List.length_map]; exact hl
  have h6 := mL_max v
  unfold red
  cases h <;> simp! [F_reduced, b_reduced, h3, h6, h4, h5]
section
variable {a b c d e : Int}
theorem m2 {n : Nat} (ha : Sm n a) (hb : Sm n b) : ∀ x ∈ [a, b], Sm n x := fun x m => by
  simp only [List.mem_cons, List.not_mem_nil, or_false] at m
  rcases m with rfl | rfl <;> assumption
theorem m4 {n : Nat} (ha : Sm n a) (hb : Sm n b) (hc : Sm n c) (hd : Sm n d) : ∀ x ∈ [a, b, c, d], Sm n x := fun x m => by
  simp only [List.mem_cons, List.not_mem_nil, or_false] at m
  rcases m with rfl | rfl | rfl | rfl <;> assumption
theorem m5 {n : Nat} (ha : Sm n a) (hb : Sm n b) (hc : Sm n c) (hd : Sm n d) (he : Sm n e) : ∀ x ∈ [a, b, c, d, e], Sm n x := fun x m => by
  simp only [List.mem_cons, List.not_mem_nil, or_false] at m
  rcases m with rfl | rfl | rfl | rfl | rfl <;> assumption
end
/-- reduced rows, written out -/
abbrev R4 (a b c d : Int) : PyData := T4 (a / mL [a, b, c, d]) (b / mL [a, b, c, d]) (c / mL [a, b, c, d]) (d / mL [a, b, c, d])
abbrev R5 (a b c d e : Int) : PyData := T5 (a / mL [a, b, c, d, e]) (b / mL [a, b, c, d, e]) (c / mL [a, b, c, d, e]) (d / mL [a, b, c, d, e]) (e / mL [a, b, c, d, e])
section
variable {a b c d e : Int}
theorem e_div2 : F_divisor_of [.dat (T2 a b)] [] = some (.dat (.int (gL [a, b] : Nat)), []) := e_div (v := [a, b]) .t
theorem e_row2 : F_is_row [.dat (T2 a b), .dat (.int 2)] [] = some (.dat (.bool true), []) := rfl
theorem e_rrow2 : F_is_reduced_row [.dat (T2 a b), .dat (.int 2)] [] = some (.dat (.bool ((gL [a, b] : Int) == 1)), []) := by
  simpa! [*, F_is_reduced_row, b_is_reduced_row, e_row2, e_div2, gEq_int]
end
section
variable {a b c d a' b' c' d' s t : Int}
end
/-! ratios: p / q, q not 0 -/
def rg (p q : Int) : Int := if 0 < q then (Nat.gcd p.natAbs q.natAbs : Nat) else -((Nat.gcd p.natAbs q.natAbs : Nat) : Int)
abbrev Rt (p q : Int) : PyData := T2 (p / rg p q) (q / rg p q)
theorem e_ratio {p q : Int} (hq : 0 < q) (hp : Sm 4000 p) (hq' : Sm 4000 q) : F_ratio [.dat (.int p), .dat (.int q)] [] = some (.dat (Rt p q), []) := by
  have h1 : (0 : Int) < (Nat.gcd p.natAbs q.natAbs : Nat) := by
    have := Nat.gcd_pos_of_pos_right p.natAbs (Int.natAbs_pos.mpr (show q ≠ 0 by omega)); omega
  have h2 : Sm 4000 ((Nat.gcd p.natAbs q.natAbs : Nat) : Int) := by
    have := Nat.le_of_dvd (Int.natAbs_pos.mpr (show q ≠ 0 by omega)) (Nat.gcd_dvd_right p.natAbs q.natAbs)
    exact Nat.lt_of_le_of_lt (by rw [Int.natAbs_natCast]; exact this) hq'
  have e : rg p q = (Nat.gcd p.natAbs q.natAbs : Nat) := if_pos hq
  have hq2 : (decide (0 < q)) = true := decide_eq_true hq
  unfold Rt
  rw [e]
  simpa! [*, F_ratio, b_ratio, hq2]
theorem rg_red {p q : Int} (hq : 0 < q) : [p / rg p q, q / rg p q] = red [p, q] := by
  have h1 : 0 < Nat.gcd p.natAbs q.natAbs := Nat.gcd_pos_of_pos_right p.natAbs (Int.natAbs_pos.mpr (show q ≠ 0 by omega))
  have e : mL [p, q] = rg p q := by
    have : gL [p, q] = Nat.gcd p.natAbs q.natAbs := by simp [gL]
    rw [mL_eq (by omega), this]; exact (if_pos hq).symm
  unfold red
  rw [e]; rfl
theorem rt_eq {p q p' q' : Int} (hq : 0 < q) (hq' : 0 < q') (h : p * q' = p' * q) : Rt p q = Rt p' q' := by
  have h1 : red [p, q] = red [p', q'] := red_par hq' hq (by
    simp only [List.map_cons, List.map_nil]
    rw [Int.mul_comm q' p, h, Int.mul_comm p' q, Int.mul_comm q' q])
  rw [← rg_red hq, ← rg_red hq'] at h1
  simp only [List.cons.injEq, and_true] at h1
  unfold Rt
  rw [h1.1, h1.2]
/-- a fraction -/
structure Fr (n : Nat) (p q : Int) : Prop where
  q0 : 0 < q
  one : gL [p, q] = 1
  sp : Sz n p
  sq : Sz n q
theorem rt_fr {n : Nat} {p q : Int} (hq : 0 < q) (sp : Sz n p) (sq : Sz n q) : Fr n (p / rg p q) (q / rg p q) := by
  have e := rg_red (p := p) hq
  have h1 : gL [p, q] ≠ 0 := gL_ne (x := q) (by simp) (by omega)
  have h2 := gL_red h1
  rw [← e] at h2
  refine ⟨?_, h2, sp.div, sq.div⟩
  have h3 : rg p q ∣ q := by
    unfold rg; rw [if_pos hq]
    exact Int.natAbs_dvd_natAbs.mp (by rw [Int.natAbs_natCast]; exact Nat.gcd_dvd_right ..)
  have h4 : 0 < rg p q := by
    unfold rg; rw [if_pos hq]
    have := Nat.gcd_pos_of_pos_right p.natAbs (Int.natAbs_pos.mpr (show q ≠ 0 by omega)); omega
  exact Int.ediv_pos_of_pos_of_dvd hq (by omega) h3
theorem rg_pos {p q : Int} (hq : 0 < q) : 0 < rg p q := by
  unfold rg; rw [if_pos hq]
  have := Nat.gcd_pos_of_pos_right p.natAbs (Int.natAbs_pos.mpr (show q ≠ 0 by omega)); omega
theorem rg_p {p q : Int} (hq : 0 < q) : p / rg p q * rg p q = p := Int.ediv_mul_cancel (by
  unfold rg; rw [if_pos hq]
  exact Int.natAbs_dvd_natAbs.mp (by rw [Int.natAbs_natCast]; exact Nat.gcd_dvd_left ..))
theorem rg_q {p q : Int} (hq : 0 < q) : q / rg p q * rg p q = q := Int.ediv_mul_cancel (by
  unfold rg; rw [if_pos hq]
  exact Int.natAbs_dvd_natAbs.mp (by rw [Int.natAbs_natCast]; exact Nat.gcd_dvd_right ..))
theorem one_eq {v : List Int} (h : gL v = 1) : (((gL v : Nat) : Int) == 1) = true := by rw [h]; rfl
theorem e_frac {n : Nat} {p q : Int} (h : Fr n p q) : F_is_fraction [.dat (T2 p q)] [] = some (.dat (.bool true), []) := by
  have h1 := one_eq h.one
  have h2 := h.q0
  simpa! [*, F_is_fraction, b_is_fraction, e_rrow2, h1, h2]
/-! lights -/
structure Lt (m : Nat) (i q u v n : Int) : Prop where
  i0 : 0 ≤ i
  n0 : 0 < n
  cone : 0 ≤ i * i - (q * q + u * u + v * v)
  one : gL [i, q, u, v, n] = 1
  si : Sz m i
  sq : Sz m q
  su : Sz m u
  sv : Sz m v
  sn : Sz m n
structure Kd (m : Nat) (q u v n : Int) : Prop where
  n0 : 0 < n
  sph : q * q + u * u + v * v = n * n
  one : gL [q, u, v, n] = 1
  sq : Sz m q
  su : Sz m u
  sv : Sz m v
  sn : Sz m n
structure Lk (m : Nat) (a b c d : Int) : Prop where
  a0 : 0 ≤ a
  cone : 0 ≤ a * a - (b * b + c * c + d * d)
  one : gL [a, b, c, d] = 1
  sa : Sz m a
  sb : Sz m b
  sc : Sz m c
  sd : Sz m d
section
variable {m n' : Nat} {i q u v n i' q' u' v' k' a b c d : Int}
theorem Lt.up {k : Nat} (h : Lt m i q u v n) (hk : m ≤ k) : Lt k i q u v n := ⟨h.i0, h.n0, h.cone, h.one, h.si.by k hk, h.sq.by k hk, h.su.by k hk, h.sv.by k hk, h.sn.by k hk⟩
end
end PL


set_option Elab.async false
set_option linter.all false
set_option maxRecDepth 100000
set_option maxHeartbeats 400000
set_option exponentiation.threshold 20000
namespace PL
open PySem PySem.Spec L2 DL
local macro_rules | `(tactic| simp! [$as,*]) => `(tactic| simp only [fThaw, fThawT, fThawL, thawD, thawO, noL, noLAll, fAug, gAug, fRev, fFnA, fCallV, fBot, fZip, zipD, gSum, intsOf, List.foldl_cons, List.foldl_nil, mkF, fRet, fRetL, fRetN, fSkip, fSeq, fNever, fSet, fAsg, fNew, fIfS, fDrop, fPar, fPar3, fSetc, fSetc2, fVar, fLit, fOp, fUn, fTup, fTup.datsOf, fLst, fNilA, fConsA, fStarA, fCelA, fOfL, fTru, fAndT, fOrT, fNotT, fAndV, fOrV, fNotV, fIf, fBi, fCall, fCallL, fCallFr, fPerm, callF, celOf, celsOk, norm, aName, aNil, aCons, aTup, setD, fSl, fIt, fItL, fItT, fFor, forGo, fLc, lcGo, fYes, wipeD, fCix, fList, fSlL, fPart, fNoPart, fChain, List.length_cons, List.length_nil, List.getElem?_cons_zero, List.getElem?_cons_succ, List.getElem?_nil, List.set_cons_zero, List.set_cons_succ, List.map_cons, List.map_nil, List.cons_append, List.nil_append, List.append_nil, List.replicate, List.take_zero, List.take_nil, List.take_succ_cons, ↓bsome, ↓msome, Option.bind_some, Option.map_some, Option.bind_none, Option.map_none, Nat.sub_self, Int.cast_ofNat_Int, Nat.reduceAdd, Nat.reduceMul, Nat.reduceSub, Nat.reduceLeDiff, Nat.reduceLT, Nat.zero_add, Nat.add_zero, and_self, and_true, true_and, if_true, if_false, ↓reduceIte, ite_true, Bool.true_eq_false, Bool.false_eq_true, beq_self_eq_true, Bool.and_self, Bool.not_true, Bool.not_false, decide_true, decide_false, gLen, gTyIs, gTyNot, tyOf, gNeg, gPlus, DL.gSub, gCmp, gInt, gAbs, gTuple, gMax, gMin, gGcd, LIM, gIx, $as,*])
local macro_rules | `(tactic| simpa! [$as,*]) => `(tactic| simp (maxDischargeDepth := 40) only [fThaw, fThawT, fThawL, thawD, thawO, noL, noLAll, fAug, gAug, fRev, fFnA, fCallV, fBot, fZip, zipD, gSum, intsOf, List.foldl_cons, List.foldl_nil, mkF, fRet, fRetL, fRetN, fSkip, fSeq, fNever, fSet, fAsg, fNew, fIfS, fDrop, fPar, fPar3, fSetc, fSetc2, fVar, fLit, fOp, fUn, fTup, fTup.datsOf, fLst, fNilA, fConsA, fStarA, fCelA, fOfL, fTru, fAndT, fOrT, fNotT, fAndV, fOrV, fNotV, fIf, fBi, fCall, fCallL, fCallFr, fPerm, callF, celOf, celsOk, norm, aName, aNil, aCons, aTup, setD, fSl, fIt, fItL, fItT, fFor, forGo, fLc, lcGo, fYes, wipeD, fCix, fList, fSlL, fPart, fNoPart, fChain, List.length_cons, List.length_nil, List.getElem?_cons_zero, List.getElem?_cons_succ, List.getElem?_nil, List.set_cons_zero, List.set_cons_succ, List.map_cons, List.map_nil, List.cons_append, List.nil_append, List.append_nil, List.replicate, List.take_zero, List.take_nil, List.take_succ_cons, ↓bsome, ↓msome, Option.bind_some, Option.map_some, Option.bind_none, Option.map_none, Nat.sub_self, Int.cast_ofNat_Int, Nat.reduceAdd, Nat.reduceMul, Nat.reduceSub, Nat.reduceLeDiff, Nat.reduceLT, Nat.zero_add, Nat.add_zero, and_self, and_true, true_and, if_true, if_false, ↓reduceIte, ite_true, Bool.true_eq_false, Bool.false_eq_true, beq_self_eq_true, Bool.and_self, Bool.not_true, Bool.not_false, decide_true, decide_false, gLen, gTyIs, gTyNot, tyOf, gNeg, gPlus, DL.gSub, gCmp, gInt, gAbs, gTuple, gMax, gMin, gGcd, LIM, gIx, ix1_0, ix2_0, ix2_1, ix3_0, ix3_1, ix3_2, ix4_0, ix4_1, ix4_2, ix4_3, ix5_0, ix5_1, ix5_2, ix5_3, ix5_4, ix6_0, ix6_1, ix6_2, ix6_3, ix6_4, ix6_5, cut5_04, cut5_14, cut4_04, cut4_03, cut4_14, Sm.mul, Sm.add, Sm.sub, Sm.neg, Sm.div, Sm.lit, sz_0, sz_1, sz_2, sz_3, sz_4, sz_8, Nat.reduceDiv, Nat.reduceSub, Nat.reduceLT, Nat.reduceLeDiff, Int.reduceLT, Int.reduceNeg, Int.mul_pos, gMul_ok, gDiv_ok, gMod_ok, $as,*])
/-! what is drawn: the first family of laws -/
structure TapO (k : Nat) (a s n : Int) : Prop where
  a0 : 0 ≤ a
  s0 : 0 ≤ s
  s1 : s < 1000000409
  n0 : 0 ≤ n
  n1 : n + k < 2 ^ 40
def Tap (k : Nat) (t : List PyData) : Prop := ∃ a s n, t = L3 a s n ∧ TapO k a s n
theorem Tap.le {k m : Nat} {t : List PyData} (h : Tap k t) (hm : m ≤ k) : Tap m t := by
  obtain ⟨a, s, n, e, h⟩ := h
  exact ⟨a, s, n, e, h.a0, h.s0, h.s1, h.n0, by have := h.n1; omega⟩
theorem gMul_sm {x y : Int} (h0 : 0 ≤ x) (h1 : x < 2 ^ 60) (g0 : 0 ≤ y) (g1 : y < 2 ^ 60) : gMul (.int x) (.int y) = some (.int (x * y)) := gMul_ok (sz_of h0 h1).sm (sz_of g0 g1).sm
theorem rng_ok {n : Int} (h0 : 0 ≤ n) (h1 : n ≤ 5000) : rngOk n = true := by
  unfold rngOk
  rw [decide_eq_true_eq]
  omega
theorem rng1_eq {a : FA} {st : Sta} {j : Int} {c : Cs} (h : a st = some ([.dat (.int j)], c)) (b : Bool) (hb : rngOk j = b) : fRng1 a st = if b = true then some (rangeD 0 j.toNat, c) else none := by
  unfold fRng1
  rw [h, Option.bind_some]
  simp only [hb]
theorem rg_of {e : FE} {st : Sta} {c : Cs} {J : Nat} (h : e st = some (.int (J : Nat), c)) (hJ : J ≤ 5000) : fRng1 (fConsA e fNilA) st = some (rangeD 0 J, c) := by
  have e1 : fConsA e fNilA st = some ([.dat (.int (J : Nat))], c) := by
    simp only [fConsA, fNilA, h, Option.bind_some, Option.map_some]
  rw [rng1_eq e1 true (rng_ok (by omega) (by omega)), Int.toNat_natCast]
  rfl
theorem rangeD_len (lo : Int) (n : Nat) : (rangeD lo n).length = n := by unfold rangeD; rw [List.length_map, List.length_range]
section
variable {a b c d e : Int}
end
/-! lights and kinds out of any row -/
theorem div_mul {v : List Int} {x : Int} (h : x ∈ v) : x = x / mL v * mL v := (Int.ediv_mul_cancel (mL_dvd h)).symm
end PL


set_option Elab.async false
set_option linter.all false
set_option maxRecDepth 100000
set_option maxHeartbeats 400000
set_option exponentiation.threshold 20000
namespace PL
open PySem PySem.Spec L2 DL
local macro_rules | `(tactic| simp! [$as,*]) => `(tactic| simp only [fThaw, fThawT, fThawL, thawD, thawO, noL, noLAll, fAug, gAug, fRev, fFnA, fCallV, fBot, fZip, zipD, gSum, intsOf, List.foldl_cons, List.foldl_nil, mkF, fRet, fRetL, fRetN, fSkip, fSeq, fNever, fSet, fAsg, fNew, fIfS, fDrop, fPar, fPar3, fSetc, fSetc2, fVar, fLit, fOp, fUn, fTup, fTup.datsOf, fLst, fNilA, fConsA, fStarA, fCelA, fOfL, fTru, fAndT, fOrT, fNotT, fAndV, fOrV, fNotV, fIf, fBi, fCall, fCallL, fCallFr, fPerm, callF, celOf, celsOk, norm, aName, aNil, aCons, aTup, setD, fSl, fIt, fItL, fItT, fFor, forGo, fLc, lcGo, fYes, wipeD, fCix, fList, fSlL, fPart, fNoPart, fChain, List.length_cons, List.length_nil, List.getElem?_cons_zero, List.getElem?_cons_succ, List.getElem?_nil, List.set_cons_zero, List.set_cons_succ, List.map_cons, List.map_nil, List.cons_append, List.nil_append, List.append_nil, List.replicate, List.take_zero, List.take_nil, List.take_succ_cons, ↓bsome, ↓msome, Option.bind_some, Option.map_some, Option.bind_none, Option.map_none, Nat.sub_self, Int.cast_ofNat_Int, Nat.reduceAdd, Nat.reduceMul, Nat.reduceSub, Nat.reduceLeDiff, Nat.reduceLT, Nat.zero_add, Nat.add_zero, and_self, and_true, true_and, if_true, if_false, ↓reduceIte, ite_true, Bool.true_eq_false, Bool.false_eq_true, beq_self_eq_true, Bool.and_self, Bool.not_true, Bool.not_false, decide_true, decide_false, gLen, gTyIs, gTyNot, tyOf, gNeg, gPlus, DL.gSub, gCmp, gInt, gAbs, gTuple, gMax, gMin, gGcd, LIM, gIx, $as,*])
local macro_rules | `(tactic| simpa! [$as,*]) => `(tactic| simp (maxDischargeDepth := 40) only [fThaw, fThawT, fThawL, thawD, thawO, noL, noLAll, fAug, gAug, fRev, fFnA, fCallV, fBot, fZip, zipD, gSum, intsOf, List.foldl_cons, List.foldl_nil, mkF, fRet, fRetL, fRetN, fSkip, fSeq, fNever, fSet, fAsg, fNew, fIfS, fDrop, fPar, fPar3, fSetc, fSetc2, fVar, fLit, fOp, fUn, fTup, fTup.datsOf, fLst, fNilA, fConsA, fStarA, fCelA, fOfL, fTru, fAndT, fOrT, fNotT, fAndV, fOrV, fNotV, fIf, fBi, fCall, fCallL, fCallFr, fPerm, callF, celOf, celsOk, norm, aName, aNil, aCons, aTup, setD, fSl, fIt, fItL, fItT, fFor, forGo, fLc, lcGo, fYes, wipeD, fCix, fList, fSlL, fPart, fNoPart, fChain, List.length_cons, List.length_nil, List.getElem?_cons_zero, List.getElem?_cons_succ, List.getElem?_nil, List.set_cons_zero, List.set_cons_succ, List.map_cons, List.map_nil, List.cons_append, List.nil_append, List.append_nil, List.replicate, List.take_zero, List.take_nil, List.take_succ_cons, ↓bsome, ↓msome, Option.bind_some, Option.map_some, Option.bind_none, Option.map_none, Nat.sub_self, Int.cast_ofNat_Int, Nat.reduceAdd, Nat.reduceMul, Nat.reduceSub, Nat.reduceLeDiff, Nat.reduceLT, Nat.zero_add, Nat.add_zero, and_self, and_true, true_and, if_true, if_false, ↓reduceIte, ite_true, Bool.true_eq_false, Bool.false_eq_true, beq_self_eq_true, Bool.and_self, Bool.not_true, Bool.not_false, decide_true, decide_false, gLen, gTyIs, gTyNot, tyOf, gNeg, gPlus, DL.gSub, gCmp, gInt, gAbs, gTuple, gMax, gMin, gGcd, LIM, gIx, ix1_0, ix2_0, ix2_1, ix3_0, ix3_1, ix3_2, ix4_0, ix4_1, ix4_2, ix4_3, ix5_0, ix5_1, ix5_2, ix5_3, ix5_4, ix6_0, ix6_1, ix6_2, ix6_3, ix6_4, ix6_5, cut5_04, cut5_14, cut4_04, cut4_03, cut4_14, Sm.mul, Sm.add, Sm.sub, Sm.neg, Sm.div, Sm.lit, sz_0, sz_1, sz_2, sz_3, sz_4, sz_8, Nat.reduceDiv, Nat.reduceSub, Nat.reduceLT, Nat.reduceLeDiff, Int.reduceLT, Int.reduceNeg, Int.mul_pos, gMul_ok, gDiv_ok, gMod_ok, $as,*])
end PL


set_option Elab.async false
set_option linter.all false
set_option maxRecDepth 100000
set_option maxHeartbeats 400000
set_option exponentiation.threshold 20000
namespace PL
open PySem PySem.Spec L2 DL
local macro_rules | `(tactic| simp! [$as,*]) => `(tactic| simp only [fThaw, fThawT, fThawL, thawD, thawO, noL, noLAll, fAug, gAug, fRev, fFnA, fCallV, fBot, fZip, zipD, gSum, intsOf, List.foldl_cons, List.foldl_nil, mkF, fRet, fRetL, fRetN, fSkip, fSeq, fNever, fSet, fAsg, fNew, fIfS, fDrop, fPar, fPar3, fSetc, fSetc2, fVar, fLit, fOp, fUn, fTup, fTup.datsOf, fLst, fNilA, fConsA, fStarA, fCelA, fOfL, fTru, fAndT, fOrT, fNotT, fAndV, fOrV, fNotV, fIf, fBi, fCall, fCallL, fCallFr, fPerm, callF, celOf, celsOk, norm, aName, aNil, aCons, aTup, setD, fSl, fIt, fItL, fItT, fFor, forGo, fLc, lcGo, fYes, wipeD, fCix, fList, fSlL, fPart, fNoPart, fChain, List.length_cons, List.length_nil, List.getElem?_cons_zero, List.getElem?_cons_succ, List.getElem?_nil, List.set_cons_zero, List.set_cons_succ, List.map_cons, List.map_nil, List.cons_append, List.nil_append, List.append_nil, List.replicate, List.take_zero, List.take_nil, List.take_succ_cons, ↓bsome, ↓msome, Option.bind_some, Option.map_some, Option.bind_none, Option.map_none, Nat.sub_self, Int.cast_ofNat_Int, Nat.reduceAdd, Nat.reduceMul, Nat.reduceSub, Nat.reduceLeDiff, Nat.reduceLT, Nat.zero_add, Nat.add_zero, and_self, and_true, true_and, if_true, if_false, ↓reduceIte, ite_true, Bool.true_eq_false, Bool.false_eq_true, beq_self_eq_true, Bool.and_self, Bool.not_true, Bool.not_false, decide_true, decide_false, gLen, gTyIs, gTyNot, tyOf, gNeg, gPlus, DL.gSub, gCmp, gInt, gAbs, gTuple, gMax, gMin, gGcd, LIM, gIx, $as,*])
local macro_rules | `(tactic| simpa! [$as,*]) => `(tactic| simp (maxDischargeDepth := 40) only [fThaw, fThawT, fThawL, thawD, thawO, noL, noLAll, fAug, gAug, fRev, fFnA, fCallV, fBot, fZip, zipD, gSum, intsOf, List.foldl_cons, List.foldl_nil, mkF, fRet, fRetL, fRetN, fSkip, fSeq, fNever, fSet, fAsg, fNew, fIfS, fDrop, fPar, fPar3, fSetc, fSetc2, fVar, fLit, fOp, fUn, fTup, fTup.datsOf, fLst, fNilA, fConsA, fStarA, fCelA, fOfL, fTru, fAndT, fOrT, fNotT, fAndV, fOrV, fNotV, fIf, fBi, fCall, fCallL, fCallFr, fPerm, callF, celOf, celsOk, norm, aName, aNil, aCons, aTup, setD, fSl, fIt, fItL, fItT, fFor, forGo, fLc, lcGo, fYes, wipeD, fCix, fList, fSlL, fPart, fNoPart, fChain, List.length_cons, List.length_nil, List.getElem?_cons_zero, List.getElem?_cons_succ, List.getElem?_nil, List.set_cons_zero, List.set_cons_succ, List.map_cons, List.map_nil, List.cons_append, List.nil_append, List.append_nil, List.replicate, List.take_zero, List.take_nil, List.take_succ_cons, ↓bsome, ↓msome, Option.bind_some, Option.map_some, Option.bind_none, Option.map_none, Nat.sub_self, Int.cast_ofNat_Int, Nat.reduceAdd, Nat.reduceMul, Nat.reduceSub, Nat.reduceLeDiff, Nat.reduceLT, Nat.zero_add, Nat.add_zero, and_self, and_true, true_and, if_true, if_false, ↓reduceIte, ite_true, Bool.true_eq_false, Bool.false_eq_true, beq_self_eq_true, Bool.and_self, Bool.not_true, Bool.not_false, decide_true, decide_false, gLen, gTyIs, gTyNot, tyOf, gNeg, gPlus, DL.gSub, gCmp, gInt, gAbs, gTuple, gMax, gMin, gGcd, LIM, gIx, ix1_0, ix2_0, ix2_1, ix3_0, ix3_1, ix3_2, ix4_0, ix4_1, ix4_2, ix4_3, ix5_0, ix5_1, ix5_2, ix5_3, ix5_4, ix6_0, ix6_1, ix6_2, ix6_3, ix6_4, ix6_5, cut5_04, cut5_14, cut4_04, cut4_03, cut4_14, Sm.mul, Sm.add, Sm.sub, Sm.neg, Sm.div, Sm.lit, sz_0, sz_1, sz_2, sz_3, sz_4, sz_8, Nat.reduceDiv, Nat.reduceSub, Nat.reduceLT, Nat.reduceLeDiff, Int.reduceLT, Int.reduceNeg, Int.mul_pos, gMul_ok, gDiv_ok, gMod_ok, $as,*])
theorem Kd.neg {m : Nat} {q u v n : Int} (h : Kd m q u v n) : Kd m (0 - q) (0 - u) (0 - v) n := by
  obtain ⟨n0, hs, ho, sq, su, sv, sn⟩ := h
  have e : ∀ x : Int, (0 - x).natAbs = x.natAbs := fun x => by omega
  refine ⟨n0, ?_, ?_, fun k => ?_, fun k => ?_, fun k => ?_, sn⟩
  · rw [← hs]; grind
  · rw [← ho]; simp only [gL, e]
  · have := sq k; unfold Sm at *; rw [e]; exact this
  · have := su k; unfold Sm at *; rw [e]; exact this
  · have := sv k; unfold Sm at *; rw [e]; exact this
/-! what the law reckons itself -/
section
variable {m : Nat} {i q u v n i' q' u' v' n' p r p' r' : Int}
end
end PL


set_option Elab.async false
set_option linter.all false
set_option maxRecDepth 100000
set_option maxHeartbeats 1000000
set_option exponentiation.threshold 20000
namespace PL
open PySem PySem.Spec L2 DL
local macro_rules | `(tactic| simp! [$as,*]) => `(tactic| simp only [fThaw, fThawT, fThawL, thawD, thawO, noL, noLAll, fAug, gAug, fRev, fFnA, fCallV, fBot, fZip, zipD, gSum, intsOf, List.foldl_cons, List.foldl_nil, mkF, fRet, fRetL, fRetN, fSkip, fSeq, fNever, fSet, fAsg, fNew, fIfS, fDrop, fPar, fPar3, fSetc, fSetc2, fVar, fLit, fOp, fUn, fTup, fTup.datsOf, fLst, fNilA, fConsA, fStarA, fCelA, fOfL, fTru, fAndT, fOrT, fNotT, fAndV, fOrV, fNotV, fIf, fBi, fCall, fCallL, fCallFr, fPerm, callF, celOf, celsOk, norm, aName, aNil, aCons, aTup, setD, fSl, fIt, fItL, fItT, fFor, forGo, fLc, lcGo, fYes, wipeD, fCix, fList, fSlL, fPart, fNoPart, fChain, List.length_cons, List.length_nil, List.getElem?_cons_zero, List.getElem?_cons_succ, List.getElem?_nil, List.set_cons_zero, List.set_cons_succ, List.map_cons, List.map_nil, List.cons_append, List.nil_append, List.append_nil, List.replicate, List.take_zero, List.take_nil, List.take_succ_cons, ↓bsome, ↓msome, Option.bind_some, Option.map_some, Option.bind_none, Option.map_none, Nat.sub_self, Int.cast_ofNat_Int, Nat.reduceAdd, Nat.reduceMul, Nat.reduceSub, Nat.reduceLeDiff, Nat.reduceLT, Nat.zero_add, Nat.add_zero, and_self, and_true, true_and, if_true, if_false, ↓reduceIte, ite_true, Bool.true_eq_false, Bool.false_eq_true, beq_self_eq_true, Bool.and_self, Bool.not_true, Bool.not_false, decide_true, decide_false, gLen, gTyIs, gTyNot, tyOf, gNeg, gPlus, DL.gSub, gCmp, gInt, gAbs, gTuple, gMax, gMin, gGcd, LIM, gIx, $as,*])
theorem rng2 : rngOk 2 = true := rng_ok (by decide) (by decide)
theorem tn2 : (2 : Int).toNat = 2 := rfl
/-! short data -/
theorem nice_int {n : Nat} {x : Int} (h : Sz n x) : Nice n (.int x) := by simpa only [Nice] using h.sm (Nat.le_refl n)
theorem nice_nil {n : Nat} : NiceAll n [] := by simp only [NiceAll]
theorem nice_cons {n : Nat} {d : PyData} {ds : List PyData} (h : Nice n d) (g : NiceAll n ds) : NiceAll n (d :: ds) := by simp only [NiceAll]; exact ⟨h, g⟩
theorem nice_tup {n : Nat} {ds : List PyData} (h : NiceAll n ds) : Nice n (.tuple ds) := by simpa only [Nice] using h
theorem nice_list {n : Nat} {ds : List PyData} (h : NiceAll n ds) : Nice n (.list ds) := by simpa only [Nice] using h
theorem nice_bool {n : Nat} {b : Bool} : Nice n (.bool b) := by simp only [Nice]
section
variable {m : Nat} {a b c d e : Int}
theorem nice2 (ha : Sz m a) (hb : Sz m b) : Nice m (T2 a b) := nice_tup (nice_cons (nice_int ha) (nice_cons (nice_int hb) nice_nil))
theorem nice4 (ha : Sz m a) (hb : Sz m b) (hc : Sz m c) (hd : Sz m d) : Nice m (T4 a b c d) := nice_tup (nice_cons (nice_int ha) (nice_cons (nice_int hb) (nice_cons (nice_int hc) (nice_cons (nice_int hd) nice_nil))))
theorem nice5 (ha : Sz m a) (hb : Sz m b) (hc : Sz m c) (hd : Sz m d) (he : Sz m e) : Nice m (T5 a b c d e) := nice_tup (nice_cons (nice_int ha) (nice_cons (nice_int hb) (nice_cons (nice_int hc) (nice_cons (nice_int hd) (nice_cons (nice_int he) nice_nil)))))
theorem Lt.nice {i q u v n : Int} (h : Lt m i q u v n) : Nice m (T5 i q u v n) := nice5 h.si h.sq h.su h.sv h.sn
theorem Kd.nice {q u v n : Int} (h : Kd m q u v n) : Nice m (T4 q u v n) := nice4 h.sq h.su h.sv h.sn
theorem Fr.nice {p q : Int} (h : Fr m p q) : Nice m (T2 p q) := nice2 h.sp h.sq
end
mutual
theorem Nice.up {m n : Nat} (hn : m ≤ n) : ∀ d : PyData, Nice m d → Nice n d
  | .none, _ => by simp only [Nice]
  | .bool _, _ => by simp only [Nice]
  | .int _, h => by simp only [Nice] at h ⊢; exact Sm.up n h hn
  | .str _, h => by simp only [Nice] at h
  | .list ds, h => by simp only [Nice] at h ⊢; exact NiceAll.up hn ds h
  | .tuple ds, h => by simp only [Nice] at h ⊢; exact NiceAll.up hn ds h
  | .dict _, h => by simp only [Nice] at h
theorem NiceAll.up {m n : Nat} (hn : m ≤ n) : ∀ ds : List PyData, NiceAll m ds → NiceAll n ds
  | [], _ => by simp only [NiceAll]
  | d :: ds, h => by simp only [NiceAll] at h ⊢; exact ⟨Nice.up hn d h.1, NiceAll.up hn ds h.2⟩
end
/-- of one, of two data -/
theorem rep_1 {n : Nat} {d : PyData} (h : Nice n d) (hn : n ≤ 1500) (hb : d.bulk ≤ 500 := by exact Nat.le_of_ble_eq_true rfl) (hd : d.depth ≤ 60 := by exact Nat.le_of_ble_eq_true rfl) : ∃ t, Rep d t := rep_ok h (by omega) (by
  have : (n + 11) * d.bulk ≤ 1511 * 500 := Nat.mul_le_mul (by omega) hb
  omega) hd
/-! sums of lights -/
section
variable {m m' : Nat} {i q u v n i' q' u' v' n' : Int}
end
/-! two lights, checked -/
section
variable {i q u v n i' q' u' v' n' : Int}
end
end PL


set_option Elab.async false
set_option linter.all false
set_option maxRecDepth 100000
set_option maxHeartbeats 1000000
set_option exponentiation.threshold 20000
namespace PL
open PySem PySem.Spec L2 DL
local macro_rules | `(tactic| simp! [$as,*]) => `(tactic| simp only [fThaw, fThawT, fThawL, thawD, thawO, noL, noLAll, fAug, gAug, fRev, fFnA, fCallV, fBot, fZip, zipD, gSum, intsOf, List.foldl_cons, List.foldl_nil, mkF, fRet, fRetL, fRetN, fSkip, fSeq, fNever, fSet, fAsg, fNew, fIfS, fDrop, fPar, fPar3, fSetc, fSetc2, fVar, fLit, fOp, fUn, fTup, fTup.datsOf, fLst, fNilA, fConsA, fStarA, fCelA, fOfL, fTru, fAndT, fOrT, fNotT, fAndV, fOrV, fNotV, fIf, fBi, fCall, fCallL, fCallFr, fPerm, callF, celOf, celsOk, norm, aName, aNil, aCons, aTup, setD, fSl, fIt, fItL, fItT, fFor, forGo, fLc, lcGo, fYes, wipeD, fCix, fList, fSlL, fPart, fNoPart, fChain, List.length_cons, List.length_nil, List.getElem?_cons_zero, List.getElem?_cons_succ, List.getElem?_nil, List.set_cons_zero, List.set_cons_succ, List.map_cons, List.map_nil, List.cons_append, List.nil_append, List.append_nil, List.replicate, List.take_zero, List.take_nil, List.take_succ_cons, ↓bsome, ↓msome, Option.bind_some, Option.map_some, Option.bind_none, Option.map_none, Nat.sub_self, Int.cast_ofNat_Int, Nat.reduceAdd, Nat.reduceMul, Nat.reduceSub, Nat.reduceLeDiff, Nat.reduceLT, Nat.zero_add, Nat.add_zero, and_self, and_true, true_and, if_true, if_false, ↓reduceIte, ite_true, Bool.true_eq_false, Bool.false_eq_true, beq_self_eq_true, Bool.and_self, Bool.not_true, Bool.not_false, decide_true, decide_false, gLen, gTyIs, gTyNot, tyOf, gNeg, gPlus, DL.gSub, gCmp, gInt, gAbs, gTuple, gMax, gMin, gGcd, LIM, gIx, $as,*])
/-! fractions as numbers -/
def IsQ (p q P Q : Int) : Prop := p * Q = P * q
theorem IsQ.add {p q P Q p' q' P' Q' : Int} (h : IsQ p q P Q) (g : IsQ p' q' P' Q') : IsQ (p * q' + p' * q) (q * q') (P * Q' + P' * Q) (Q * Q') := by
  unfold IsQ at *
  grind
theorem IsQ.mul {p q P Q p' q' P' Q' : Int} (h : IsQ p q P Q) (g : IsQ p' q' P' Q') : IsQ (p * p') (q * q') (P * P') (Q * Q') := by
  unfold IsQ at *
  grind
theorem IsQ.rt {p q P Q : Int} (h : IsQ p q P Q) (hq : 0 < q) (hQ : 0 < Q) : Rt p q = Rt P Q := rt_eq hq hQ h
/-! a light times a share, checked -/
section
variable {m : Nat} {i q u v n p r : Int}
end
end PL


set_option Elab.async false
set_option linter.all false
set_option maxRecDepth 100000
set_option maxHeartbeats 1000000
set_option exponentiation.threshold 20000
namespace PL
open PySem PySem.Spec L2 DL
local macro_rules | `(tactic| simp! [$as,*]) => `(tactic| simp only [fThaw, fThawT, fThawL, thawD, thawO, noL, noLAll, fAug, gAug, fRev, fFnA, fCallV, fBot, fZip, zipD, gSum, intsOf, List.foldl_cons, List.foldl_nil, mkF, fRet, fRetL, fRetN, fSkip, fSeq, fNever, fSet, fAsg, fNew, fIfS, fDrop, fPar, fPar3, fSetc, fSetc2, fVar, fLit, fOp, fUn, fTup, fTup.datsOf, fLst, fNilA, fConsA, fStarA, fCelA, fOfL, fTru, fAndT, fOrT, fNotT, fAndV, fOrV, fNotV, fIf, fBi, fCall, fCallL, fCallFr, fPerm, callF, celOf, celsOk, norm, aName, aNil, aCons, aTup, setD, fSl, fIt, fItL, fItT, fFor, forGo, fLc, lcGo, fYes, wipeD, fCix, fList, fSlL, fPart, fNoPart, fChain, List.length_cons, List.length_nil, List.getElem?_cons_zero, List.getElem?_cons_succ, List.getElem?_nil, List.set_cons_zero, List.set_cons_succ, List.map_cons, List.map_nil, List.cons_append, List.nil_append, List.append_nil, List.replicate, List.take_zero, List.take_nil, List.take_succ_cons, ↓bsome, ↓msome, Option.bind_some, Option.map_some, Option.bind_none, Option.map_none, Nat.sub_self, Int.cast_ofNat_Int, Nat.reduceAdd, Nat.reduceMul, Nat.reduceSub, Nat.reduceLeDiff, Nat.reduceLT, Nat.zero_add, Nat.add_zero, and_self, and_true, true_and, if_true, if_false, ↓reduceIte, ite_true, Bool.true_eq_false, Bool.false_eq_true, beq_self_eq_true, Bool.and_self, Bool.not_true, Bool.not_false, decide_true, decide_false, gLen, gTyIs, gTyNot, tyOf, gNeg, gPlus, DL.gSub, gCmp, gInt, gAbs, gTuple, gMax, gMin, gGcd, LIM, gIx, $as,*])
theorem fn_ok {np nN n0 : Nat} {b : FS} {xs : List SV} {cs : Cs} {r : RV} {c c' : Cs} (h : b ⟨xs.map some ++ List.replicate (nN - np) none, cs⟩ = some (.rt r c)) (hl : xs.length = np ∧ cs.length = n0) (hc : c.take n0 = c') : mkF np nN n0 b xs cs = some (r, c') := by
  unfold mkF
  rw [if_pos hl, h, ← hc]
section
variable {m m' : Nat} {i q u v n i' q' u' v' n' : Int}
theorem Fr.up {a b : Nat} {p r : Int} (h : Fr a p r) (hb : a ≤ b) : Fr b p r := ⟨h.q0, h.one, h.sp.by _ hb, h.sq.by _ hb⟩
theorem rep_R {n : Nat} {d : PyData} (h : Nice n d) (hn : n ≤ 1500 := by decide) (hb : d.bulk ≤ 500 := by exact Nat.le_of_ble_eq_true rfl) (hd : d.depth ≤ 60 := by exact Nat.le_of_ble_eq_true rfl) : ∃ t, Rep d t := rep_1 h hn hb hd
theorem Lk.up {a b : Nat} {x y z w : Int} (h : Lk a x y z w) (hb : a ≤ b) : Lk b x y z w := ⟨h.a0, h.cone, h.one, h.sa.by _ hb, h.sb.by _ hb, h.sc.by _ hb, h.sd.by _ hb⟩
end
end PL


set_option Elab.async false
set_option linter.all false
set_option maxRecDepth 100000
set_option maxHeartbeats 1000000
set_option exponentiation.threshold 20000
namespace PL
open PySem PySem.Spec L2 DL
local macro_rules | `(tactic| simp! [$as,*]) => `(tactic| simp only [fThaw, fThawT, fThawL, thawD, thawO, noL, noLAll, fAug, gAug, fRev, fFnA, fCallV, fBot, fZip, zipD, gSum, intsOf, List.foldl_cons, List.foldl_nil, mkF, fRet, fRetL, fRetN, fSkip, fSeq, fNever, fSet, fAsg, fNew, fIfS, fDrop, fPar, fPar3, fSetc, fSetc2, fVar, fLit, fOp, fUn, fTup, fTup.datsOf, fLst, fNilA, fConsA, fStarA, fCelA, fOfL, fTru, fAndT, fOrT, fNotT, fAndV, fOrV, fNotV, fIf, fBi, fCall, fCallL, fCallFr, fPerm, callF, celOf, celsOk, norm, aName, aNil, aCons, aTup, setD, fSl, fIt, fItL, fItT, fFor, forGo, fLc, lcGo, fYes, wipeD, fCix, fList, fSlL, fPart, fNoPart, fChain, List.length_cons, List.length_nil, List.getElem?_cons_zero, List.getElem?_cons_succ, List.getElem?_nil, List.set_cons_zero, List.set_cons_succ, List.map_cons, List.map_nil, List.cons_append, List.nil_append, List.append_nil, List.replicate, List.take_zero, List.take_nil, List.take_succ_cons, ↓bsome, ↓msome, Option.bind_some, Option.map_some, Option.bind_none, Option.map_none, Nat.sub_self, Int.cast_ofNat_Int, Nat.reduceAdd, Nat.reduceMul, Nat.reduceSub, Nat.reduceLeDiff, Nat.reduceLT, Nat.zero_add, Nat.add_zero, and_self, and_true, true_and, if_true, if_false, ↓reduceIte, ite_true, Bool.true_eq_false, Bool.false_eq_true, beq_self_eq_true, Bool.and_self, Bool.not_true, Bool.not_false, decide_true, decide_false, gLen, gTyIs, gTyNot, tyOf, gNeg, gPlus, DL.gSub, gCmp, gInt, gAbs, gTuple, gMax, gMin, gGcd, LIM, gIx, $as,*])
theorem cut_ints (ns : List Int) (lo hi : Option Int) : ∃ ms : List Int, cutD (ns.map PyData.int) lo hi = ms.map PyData.int := by
  unfold cutD
  rw [← List.map_drop, ← List.map_take]
  exact ⟨_, rfl⟩
theorem bools_true {α : Type} : ∀ ks : List α, boolsOf (ks.map fun _ => PyData.bool true) = some (ks.map fun _ => true)
  | [] => rfl
  | k :: ks => by
    show (boolsOf (ks.map fun _ => PyData.bool true)).map (true :: ·) = _
    rw [bools_true ks]; rfl
end PL


set_option Elab.async false
set_option linter.all false
set_option maxRecDepth 100000
set_option maxHeartbeats 400000
namespace PL
open PySem PySem.Spec L2 DL
open PyProof.Rows hiding St
end PL


set_option Elab.async false
set_option linter.all false
set_option maxRecDepth 100000
set_option maxHeartbeats 400000
namespace PL
open PySem PySem.Spec L2 DL
open PyProof.Rows hiding St
end PL


set_option Elab.async false
set_option linter.all false
set_option maxRecDepth 100000
set_option maxHeartbeats 400000
namespace PL
open PySem PySem.Spec L2 DL
open PyProof.Rows hiding St
def b_is_setting : FS := (fRet (fAndV (fCall F_is_reduced_row (fConsA (fVar 0) (fConsA (fLit (.int 2)) fNilA))) (fOrV (fOp (gCmp fun i j => decide (j < i)) (fOp gIx (fVar 0) (fLit (.int 1))) (fLit (.int 0))) (fOp gEq (fVar 0) (fTup (fConsA (fLit (.int 1)) (fConsA (fLit (.int 0)) fNilA)))))))
def F_is_setting : FnS := mkF 1 1 0 b_is_setting
def b_check_setting : FS := (fIfS (fNotT (fTru (fCall F_is_setting (fConsA (fVar 0) fNilA)))) fNever fSkip)
def F_check_setting : FnS := mkF 1 1 0 b_check_setting
end PL


set_option Elab.async false
set_option linter.all false
set_option maxRecDepth 100000
set_option maxHeartbeats 400000
namespace PL
open PySem PySem.Spec L2 DL
open PyProof.Rows hiding St
def b_trimmed : FS := (fSeq (fSet 1 (fBi gLen (fConsA (fVar 0) fNilA)))
  (fSeq (fWhile (fAndT (fTru (fOp (gCmp fun i j => decide (j < i)) (fVar 1) (fLit (.int 0)))) (fTru (fOp gEq (fOp gIx (fVar 0) (fOp gSub (fVar 1) (fLit (.int 1)))) (fLit (.int 0))))) (fAug 1 (gAug fun i j => i - j) (fLit (.int 1))))
  (fRet (fBi gTuple (fConsA (fSl (fVar 0) fNoPart (fPart (fVar 1))) fNilA)))))
def F_trimmed : FnS := mkF 1 2 0 b_trimmed
def b_polynomial_product : FS := (fSeq (fNew 2 (fRepL (fLst (fConsA (fLit (.int 0)) fNilA)) (fOp gPlus (fBi gLen (fConsA (fVar 0) fNilA)) (fBi gLen (fConsA (fVar 1) fNilA)))))
  (fSeq (fFor (fEnum (fConsA (fVar 0) fNilA)) (aTup 2 (aCons (aName 3) (aCons (aName 4) aNil))) (fFor (fEnum (fConsA (fVar 1) fNilA)) (aTup 2 (aCons (aName 5) (aCons (aName 6) aNil))) (fAugC 2 (fOp gPlus (fVar 3) (fVar 5)) (gAug fun i j => i + j) (fOp gMul (fVar 4) (fVar 6)))))
  (fFrz 0 2 (fRet (fCall F_trimmed (fConsA (fVar 2) fNilA))))))
def F_polynomial_product : FnS := mkF 2 7 0 b_polynomial_product
def b_value_at : FS := (fSeq (fAsg (aTup 2 (aCons (aName 3) (aCons (aName 4) aNil))) (fTup (fConsA (fLit (.int 0)) (fConsA (fLit (.int 1)) fNilA))))
  (fSeq (fFor (fRev (fVar 0)) (aName 2) (fSeq (fSet 3 (fOp gPlus (fOp gMul (fVar 3) (fOp gIx (fVar 1) (fLit (.int 0)))) (fOp gMul (fVar 2) (fVar 4))))
  (fAug 4 gAugM (fOp gIx (fVar 1) (fLit (.int 1))))))
  (fRet (fVar 3))))
def F_value_at : FnS := mkF 2 5 0 b_value_at
def b_is_course : FS := (fRet (fAndV (fCall F_is_reduced_row (fConsA (fVar 0) (fConsA (fLit (.int 6)) fNilA))) (fOp (gCmp fun i j => decide (j < i)) (fOp gIx (fVar 0) (fLit (.int 5))) (fLit (.int 0)))))
def F_is_course : FnS := mkF 1 1 0 b_is_course
def b_check_course : FS := (fIfS (fNotT (fTru (fCall F_is_course (fConsA (fVar 0) fNilA)))) fNever fSkip)
def F_check_course : FnS := mkF 1 1 0 b_check_course
def b__length_of : FS := (fRet (fOp gPlus (fOp gMul (fOp gIx (fVar 0) (fLit (.int 0))) (fOp gIx (fVar 0) (fLit (.int 0)))) (fOp gMul (fOp gIx (fVar 0) (fLit (.int 1))) (fOp gIx (fVar 0) (fLit (.int 1))))))
def F__length_of : FnS := mkF 1 1 0 b__length_of
def b_level_at : FS := (fSeq (fDrop (fCall F_check_course (fConsA (fVar 0) fNilA)))
  (fSeq (fDrop (fCall F_check_setting (fConsA (fVar 1) fNilA)))
  (fSeq (fSet 2 (fCall F__length_of (fConsA (fVar 1) fNilA)))
  (fRet (fCall F_ratio (fConsA (fCall F_value_at (fConsA (fSl (fVar 0) fNoPart (fPart (fLit (.int 5)))) (fConsA (fVar 1) fNilA))) (fConsA (fOp gMul (fOp gMul (fOp gIx (fVar 0) (fLit (.int 5))) (fVar 2)) (fVar 2)) fNilA)))))))
def F_level_at : FnS := mkF 2 3 0 b_level_at
def b__weighed_course : FS := (fSeq (fSet 2 (fLit (.int 1)))
  (fSeq (fFor (fIt (fVar 1)) (aName 3) (fSet 2 (fBi gLcm (fConsA (fVar 2) (fConsA (fOp gIx (fVar 3) (fLit (.int 1))) fNilA)))))
  (fSeq (fSet 4 (fTup (fConsA (fLit (.int 0)) (fConsA (fLit (.int 0)) (fConsA (fLit (.int 0)) (fConsA (fLit (.int 0)) (fConsA (fLit (.int 0)) fNilA)))))))
  (fSeq (fFor (fZip (fConsA (fVar 0) (fConsA (fVar 1) fNilA))) (aTup 2 (aCons (aName 5) (aCons (aName 3) aNil))) (fSeq (fSet 6 (fOfL (fLst (fStarA (fVar 5) (fStarA (fRep (fLst (fConsA (fLit (.int 0)) fNilA)) (fOp gSub (fLit (.int 5)) (fBi gLen (fConsA (fVar 5) fNilA)))) fNilA)))))
  (fSet 4 (fCall F_combined (fConsA (fLit (.int 1)) (fConsA (fVar 4) (fConsA (fOp gMul (fOp gIx (fVar 3) (fLit (.int 0))) (fOp gDiv (fVar 2) (fOp gIx (fVar 3) (fLit (.int 1))))) (fConsA (fVar 6) fNilA))))))))
  (fRet (fCall F_reduced (fConsA (fTup (fStarA (fVar 4) (fConsA (fVar 2) fNilA))) fNilA)))))))
def F__weighed_course : FnS := mkF 2 7 0 b__weighed_course
def c__ROWS_OF_PARTS : PyData := (.tuple [(.tuple [(.int 3), (.int 0), (.int 1), (.int 0), (.int 3)]), (.tuple [(.int 4), (.int 0), (.int 0), (.int 0), (.int (-4))]), (.tuple [(.int 0), (.int 2), (.int 0), (.int 2), (.int 0)]), (.tuple [(.int 1), (.int 0), (.int (-1)), (.int 0), (.int 1)]), (.tuple [(.int 0), (.int 1), (.int 0), (.int (-1)), (.int 0)])])
def b_course_parts : FS := (fSeq (fDrop (fCall F_check_course (fConsA (fVar 0) fNilA)))
  (fRet (fBi gTuple (fConsA (fOfL (fLc (fIt (fLit c__ROWS_OF_PARTS)) (aName 1) fYes (fCall F_ratio (fConsA (fCall F_dot (fConsA (fVar 1) (fConsA (fSl (fVar 0) fNoPart (fPart (fLit (.int 5)))) fNilA))) (fConsA (fOp gMul (fLit (.int 8)) (fOp gIx (fVar 0) (fLit (.int 5)))) fNilA))) [1])) fNilA))))
def F_course_parts : FnS := mkF 1 2 0 b_course_parts
def b_setting_sum : FS := (fSeq (fDrop (fCall F_check_setting (fConsA (fVar 0) fNilA)))
  (fSeq (fDrop (fCall F_check_setting (fConsA (fVar 1) fNilA)))
  (fSeq (fAsg (aTup 2 (aCons (aName 2) (aCons (aName 3) aNil))) (fCall F_reduced (fConsA (fTup (fConsA (fOp gPlus (fOp gMul (fOp gIx (fVar 0) (fLit (.int 0))) (fOp gIx (fVar 1) (fLit (.int 1)))) (fOp gMul (fOp gIx (fVar 1) (fLit (.int 0))) (fOp gIx (fVar 0) (fLit (.int 1))))) (fConsA (fOp gSub (fOp gMul (fOp gIx (fVar 0) (fLit (.int 1))) (fOp gIx (fVar 1) (fLit (.int 1)))) (fOp gMul (fOp gIx (fVar 0) (fLit (.int 0))) (fOp gIx (fVar 1) (fLit (.int 0))))) fNilA))) fNilA)))
  (fSeq (fIfS (fOrT (fTru (fOp (gCmp fun i j => decide (i < j)) (fVar 3) (fLit (.int 0)))) (fAndT (fTru (fOp gEq (fVar 3) (fLit (.int 0)))) (fTru (fOp (gCmp fun i j => decide (i < j)) (fVar 2) (fLit (.int 0)))))) (fRet (fTup (fConsA (fUn gNeg (fVar 2)) (fConsA (fUn gNeg (fVar 3)) fNilA)))) fSkip)
  (fRet (fTup (fConsA (fVar 2) (fConsA (fVar 3) fNilA))))))))
def F_setting_sum : FnS := mkF 2 4 0 b_setting_sum
def b_setting_back : FS := (fSeq (fDrop (fCall F_check_setting (fConsA (fVar 0) fNilA)))
  (fRet (fIf (fTru (fOp gEq (fOp gIx (fVar 0) (fLit (.int 1))) (fLit (.int 0)))) (fVar 0) (fTup (fConsA (fUn gNeg (fOp gIx (fVar 0) (fLit (.int 0)))) (fConsA (fOp gIx (fVar 0) (fLit (.int 1))) fNilA))))))
def F_setting_back : FnS := mkF 1 1 0 b_setting_back
def b__law_source : FS := (fSeq (fSet 2 (fIf (fTru (fOp (gCmp fun i j => decide (i < j)) (fVar 1) (fBi gLen (fConsA (fVar 0) fNilA)))) (fBi gInt (fConsA (fOp gIx (fVar 0) (fVar 1)) fNilA)) (fOp gPlus (fOp gMul (fLit (.int 983)) (fVar 1)) (fLit (.int 57)))))
  (fSeq (fSet 3 (fOp gPlus (fLit (.int 60013)) (fOp gMul (fLit (.int 4001)) (fVar 1))))
  (fSeq (fFor (fIt (fSl (fVar 0) fNoPart (fPart (fLit (.int 8))))) (aName 4) (fSet 3 (fOp gMod (fBi gInt (fConsA (fOp gPlus (fOp gPlus (fOp gMul (fVar 3) (fLit (.int 48611))) (fOp gMod (fBi gInt (fConsA (fVar 4) fNilA)) (fLit (.int 2147483587)))) (fLit (.int 19))) fNilA)) (fLit (.int 2147483629)))))
  (fSeq (fSet 5 (fOp gMod (fBi gInt (fConsA (fOp gPlus (fOp gMul (fVar 3) (fLit (.int 83))) (fOp gMul (fOp gMod (fBi gInt (fConsA (fVar 2) fNilA)) (fLit (.int 2147483587))) (fLit (.int 20011)))) fNilA)) (fLit (.int 2147483629))))
  (fRetL (fLst (fConsA (fIf (fOrT (fTru (fOp (gCmp fun i j => decide (i < j)) (fVar 2) (fLit (.int 0)))) (fTru (fOp (gCmp fun i j => decide (j ≤ i)) (fVar 2) (fOp gPow (fLit (.int 10)) (fLit (.int 17)))))) (fBi gAbs (fConsA (fVar 2) fNilA)) (fLit (.int 0))) (fConsA (fVar 5) (fConsA (fLit (.int 0)) fNilA)))))))))
def F__law_source : FnS := mkF 2 6 0 b__law_source
def b__law_draw : FS := (fSeq (fIfS (fTru (fOp (gCmp fun i j => decide (j < i)) (fCix 0 (fLit (.int 0))) (fLit (.int 0)))) (fSeq (fSetc2 0 (fLit (.int 0)) 3 (fBi gDivmod (fConsA (fCix 0 (fLit (.int 0))) (fConsA (fVar 1) fNilA))))
  (fRet (fVar 3))) fSkip)
  (fSeq (fSetc 0 (fLit (.int 2)) (fOp gPlus (fCix 0 (fLit (.int 2))) (fLit (.int 1))))
  (fSeq (fSet 2 (fOp gMod (fBi gInt (fConsA (fOp gPlus (fOp gMul (fCix 0 (fLit (.int 1))) (fLit (.int 16807))) (fOp gMul (fCix 0 (fLit (.int 2))) (fLit (.int 65539)))) fNilA)) (fLit (.int 2147483587))))
  (fSeq (fSetc 0 (fLit (.int 1)) (fOp gMod (fBi gInt (fConsA (fOp gPlus (fOp gMul (fVar 2) (fOp gPlus (fOp gMul (fLit (.int 2)) (fOp gDiv (fVar 2) (fLit (.int 11)))) (fLit (.int 30011)))) (fCix 0 (fLit (.int 2)))) fNilA)) (fLit (.int 2147483629))))
  (fRet (fOp gMod (fBi gInt (fConsA (fOp gDiv (fCix 0 (fLit (.int 1))) (fLit (.int 257))) fNilA)) (fVar 1)))))))
def F__law_draw : FnS := mkF 2 4 1 b__law_draw
def b__law_pick_K36 : FS := (fRet (fOp gIx (fVar 1) (fCall F__law_draw (fCelA 0 (fConsA (fBi gLen (fConsA (fVar 1) fNilA)) fNilA)))))
def F__law_pick_K36 : FnS := mkF 2 2 1 b__law_pick_K36
def b__law_about : FS := (fRet (fOp gSub (fCall F__law_draw (fCelA 0 (fConsA (fOp gPlus (fOp gMul (fLit (.int 2)) (fVar 1)) (fLit (.int 1))) fNilA))) (fVar 1)))
def F__law_about : FnS := mkF 2 2 1 b__law_about
def b__law_common_K36 : FS := (fSeq (fSet 1 (fLit (.int 0)))
  (fSeq (fFor (fIt (fVar 0)) (aName 2) (fSeq (fPar 3 4 (fConsA (fVar 1) (fConsA (fBi gAbs (fConsA (fVar 2) fNilA)) fNilA)))
  (fSeq (fWhile (fTru (fOp gNe (fVar 4) (fLit (.int 0)))) (fPar 3 4 (fConsA (fVar 4) (fConsA (fOp gMod (fBi gInt (fConsA (fVar 3) fNilA)) (fVar 4)) fNilA))))
  (fSet 1 (fVar 3)))))
  (fRet (fVar 1))))
def F__law_common_K36 : FnS := mkF 1 5 0 b__law_common_K36
def b__law_low_K36 : FS := (fSeq (fSet 1 (fBi gMax (fConsA (fLit (.int 1)) (fConsA (fCall F__law_common_K36 (fConsA (fVar 0) fNilA)) fNilA))))
  (fRet (fBi gTuple (fConsA (fOfL (fLc (fIt (fVar 0)) (aName 2) fYes (fOp gDiv (fVar 2) (fVar 1)) [2])) fNilA))))
def F__law_low_K36 : FnS := mkF 1 3 0 b__law_low_K36
def b__law_ratio_K36 : FS := (fSeq (fSet 2 (fCall F__law_common_K36 (fConsA (fOfL (fLst (fConsA (fVar 0) (fConsA (fVar 1) fNilA)))) fNilA)))
  (fSeq (fSet 2 (fIf (fTru (fOp (gCmp fun i j => decide (j < i)) (fVar 1) (fLit (.int 0)))) (fVar 2) (fOp gSub (fLit (.int 0)) (fVar 2))))
  (fRet (fTup (fConsA (fOp gDiv (fVar 0) (fVar 2)) (fConsA (fOp gDiv (fVar 1) (fVar 2)) fNilA))))))
def F__law_ratio_K36 : FnS := mkF 2 3 0 b__law_ratio_K36
def b__law_slot : FS := (fSeq (fPar 1 2 (fConsA (fCall F__law_draw (fCelA 0 (fConsA (fLit (.int 4)) fNilA))) (fConsA (fCall F__law_pick_K36 (fCelA 0 (fConsA (fTup (fConsA (fLit (.int 1)) (fConsA (fLit (.int 2)) (fConsA (fLit (.int 3)) (fConsA (fLit (.int 9)) (fConsA (fLit (.int 100)) fNilA)))))) fNilA))) fNilA)))
  (fSeq (fIfS (fTru (fOp gEq (fVar 1) (fLit (.int 0)))) (fRet (fCall F__law_pick_K36 (fCelA 0 (fConsA (fTup (fConsA (fTup (fConsA (fLit (.int 0)) (fConsA (fLit (.int 1)) fNilA))) (fConsA (fTup (fConsA (fLit (.int 1)) (fConsA (fLit (.int 0)) fNilA))) (fConsA (fTup (fConsA (fLit (.int 1)) (fConsA (fLit (.int 1)) fNilA))) (fConsA (fTup (fConsA (fUn gNeg (fLit (.int 1))) (fConsA (fLit (.int 1)) fNilA))) fNilA))))) fNilA)))) fSkip)
  (fRet (fCall F__law_low_K36 (fConsA (fTup (fConsA (fCall F__law_about (fCelA 0 (fConsA (fVar 2) fNilA))) (fConsA (fOp gPlus (fLit (.int 1)) (fCall F__law_draw (fCelA 0 (fConsA (fVar 2) fNilA)))) fNilA))) fNilA)))))
def F__law_slot : FnS := mkF 1 3 1 b__law_slot
def b__law_signed : FS := (fSeq (fAsg (aTup 2 (aCons (aName 1) (aCons (aName 2) aNil))) (fCall F__law_low_K36 (fConsA (fVar 0) fNilA)))
  (fSeq (fIfS (fTru (fOp gEq (fVar 2) (fLit (.int 0)))) (fRet (fTup (fConsA (fLit (.int 1)) (fConsA (fLit (.int 0)) fNilA)))) fSkip)
  (fRet (fIf (fTru (fOp (gCmp fun i j => decide (j < i)) (fVar 2) (fLit (.int 0)))) (fTup (fConsA (fVar 1) (fConsA (fVar 2) fNilA))) (fTup (fConsA (fOp gSub (fLit (.int 0)) (fVar 1)) (fConsA (fOp gSub (fLit (.int 0)) (fVar 2)) fNilA)))))))
def F__law_signed : FnS := mkF 1 3 0 b__law_signed
def b__law_summed : FS := (fRet (fCall F__law_signed (fConsA (fTup (fConsA (fOp gPlus (fOp gMul (fOp gIx (fVar 0) (fLit (.int 0))) (fOp gIx (fVar 1) (fLit (.int 1)))) (fOp gMul (fOp gIx (fVar 1) (fLit (.int 0))) (fOp gIx (fVar 0) (fLit (.int 1))))) (fConsA (fOp gSub (fOp gMul (fOp gIx (fVar 0) (fLit (.int 1))) (fOp gIx (fVar 1) (fLit (.int 1)))) (fOp gMul (fOp gIx (fVar 0) (fLit (.int 0))) (fOp gIx (fVar 1) (fLit (.int 0))))) fNilA))) fNilA)))
def F__law_summed : FnS := mkF 2 2 0 b__law_summed
def b__law_form : FS := (fSeq (fAsg (aTup 2 (aCons (aName 3) (aCons (aName 4) aNil))) (fVar 1))
  (fSeq (fSet 2 (fOp gPlus (fOp gPlus (fOp gMul (fOp gMul (fOp gIx (fVar 0) (fLit (.int 0))) (fVar 4)) (fVar 4)) (fOp gMul (fOp gMul (fOp gIx (fVar 0) (fLit (.int 1))) (fVar 3)) (fVar 4))) (fOp gMul (fOp gMul (fOp gIx (fVar 0) (fLit (.int 2))) (fVar 3)) (fVar 3))))
  (fRet (fOp gPlus (fOp gMul (fOp gMul (fVar 2) (fVar 4)) (fVar 4)) (fOp gMul (fOp gMul (fOp gMul (fOp gPlus (fOp gMul (fOp gIx (fVar 0) (fLit (.int 3))) (fVar 4)) (fOp gMul (fOp gIx (fVar 0) (fLit (.int 4))) (fVar 3))) (fVar 3)) (fVar 3)) (fVar 3))))))
def F__law_form : FnS := mkF 2 5 0 b__law_form
def b__law_at_K36 : FS := (fSeq (fSet 2 (fOp gPlus (fOp gMul (fOp gIx (fVar 1) (fLit (.int 0))) (fOp gIx (fVar 1) (fLit (.int 0)))) (fOp gMul (fOp gIx (fVar 1) (fLit (.int 1))) (fOp gIx (fVar 1) (fLit (.int 1))))))
  (fRet (fCall F__law_ratio_K36 (fConsA (fCall F__law_form (fConsA (fVar 0) (fConsA (fVar 1) fNilA))) (fConsA (fOp gMul (fOp gMul (fOp gIx (fVar 0) (fLit (.int 5))) (fVar 2)) (fVar 2)) fNilA)))))
def F__law_at_K36 : FnS := mkF 2 3 0 b__law_at_K36
def b__law_quad : FS := (fSeq (fPar 1 2 (fConsA (fCall F__law_draw (fCelA 0 (fConsA (fLit (.int 5)) fNilA))) (fConsA (fCall F__law_pick_K36 (fCelA 0 (fConsA (fTup (fConsA (fLit (.int 1)) (fConsA (fLit (.int 2)) (fConsA (fLit (.int 3)) (fConsA (fLit (.int 7)) fNilA))))) fNilA))) fNilA)))
  (fSeq (fPar3 3 4 5 (fConsA (fCall F__law_about (fCelA 0 (fConsA (fVar 2) fNilA))) (fConsA (fCall F__law_about (fCelA 0 (fConsA (fVar 2) fNilA))) (fConsA (fCall F__law_about (fCelA 0 (fConsA (fVar 2) fNilA))) fNilA))))
  (fSeq (fIfS (fTru (fOp gEq (fVar 1) (fLit (.int 0)))) (fRet (fTup (fConsA (fOp gMul (fVar 3) (fVar 3)) (fConsA (fOp gMul (fOp gMul (fLit (.int 2)) (fVar 3)) (fVar 4)) (fConsA (fOp gMul (fVar 4) (fVar 4)) fNilA))))) fSkip)
  (fSeq (fIfS (fTru (fOp gEq (fVar 1) (fLit (.int 1)))) (fRet (fTup (fConsA (fOp gMul (fVar 3) (fVar 4)) (fConsA (fOp gPlus (fOp gMul (fVar 3) (fVar 5)) (fVar 4)) (fConsA (fVar 5) fNilA))))) fSkip)
  (fRet (fIf (fTru (fOp (gCmp fun i j => decide (i < j)) (fVar 1) (fLit (.int 4)))) (fTup (fConsA (fVar 3) (fConsA (fVar 4) (fConsA (fVar 5) fNilA)))) (fTup (fConsA (fOp gPlus (fLit (.int 1)) (fOp gMul (fVar 3) (fVar 3))) (fConsA (fOp gSub (fLit (.int 0)) (fOp gMul (fLit (.int 2)) (fVar 3))) (fConsA (fLit (.int 1)) fNilA))))))))))
def F__law_quad : FnS := mkF 1 6 1 b__law_quad
def b__law_folded : FS := (fRet (fOfL (fLst (fConsA (fOp gMul (fOp gIx (fVar 0) (fLit (.int 0))) (fOp gIx (fVar 1) (fLit (.int 0)))) (fConsA (fOp gPlus (fOp gMul (fOp gIx (fVar 0) (fLit (.int 0))) (fOp gIx (fVar 1) (fLit (.int 1)))) (fOp gMul (fOp gIx (fVar 0) (fLit (.int 1))) (fOp gIx (fVar 1) (fLit (.int 0))))) (fConsA (fOp gPlus (fOp gPlus (fOp gMul (fOp gIx (fVar 0) (fLit (.int 0))) (fOp gIx (fVar 1) (fLit (.int 2)))) (fOp gMul (fOp gIx (fVar 0) (fLit (.int 1))) (fOp gIx (fVar 1) (fLit (.int 1))))) (fOp gMul (fOp gIx (fVar 0) (fLit (.int 2))) (fOp gIx (fVar 1) (fLit (.int 0))))) (fConsA (fOp gPlus (fOp gMul (fOp gIx (fVar 0) (fLit (.int 1))) (fOp gIx (fVar 1) (fLit (.int 2)))) (fOp gMul (fOp gIx (fVar 0) (fLit (.int 2))) (fOp gIx (fVar 1) (fLit (.int 1))))) (fConsA (fOp gMul (fOp gIx (fVar 0) (fLit (.int 2))) (fOp gIx (fVar 1) (fLit (.int 2)))) fNilA))))))))
def F__law_folded : FnS := mkF 2 2 0 b__law_folded
def b__law_course : FS := (fSeq (fPar3 5 6 7 (fConsA (fCall F__law_draw (fCelA 0 (fConsA (fLit (.int 6)) fNilA))) (fConsA (fCall F__law_about (fCelA 0 (fConsA (fLit (.int 6)) fNilA))) (fConsA (fOp gPlus (fLit (.int 1)) (fCall F__law_draw (fCelA 0 (fConsA (fLit (.int 5)) fNilA)))) fNilA))))
  (fSeq (fSet 1 (fCall F__law_quad (fCelA 0 fNilA)))
  (fSeq (fSet 2 (fIf (fTru (fOp (gCmp fun i j => decide (i < j)) (fVar 5) (fLit (.int 2)))) (fVar 1) (fCall F__law_quad (fCelA 0 fNilA))))
  (fSeq (fSet 3 (fCall F__law_folded (fConsA (fVar 1) (fConsA (fVar 2) fNilA))))
  (fSeq (fIfS (fTru (fOp gEq (fVar 5) (fLit (.int 1)))) (fSet 3 (fOfL (fLc (fIt (fVar 3)) (aName 8) fYes (fOp gSub (fLit (.int 0)) (fVar 8)) [8]))) fSkip)
  (fSeq (fIfS (fTru (fOp gEq (fVar 5) (fLit (.int 5)))) (fSet 3 (fOfL (fLc (fRng1 (fConsA (fLit (.int 5)) fNilA)) (aName 9) fYes (fCall F__law_about (fCelA 0 (fConsA (fLit (.int 9)) fNilA))) [9]))) fSkip)
  (fSeq (fSet 4 (fOfL (fLst (fConsA (fVar 6) (fConsA (fLit (.int 0)) (fConsA (fOp gMul (fLit (.int 2)) (fVar 6)) (fConsA (fLit (.int 0)) (fConsA (fVar 6) fNilA))))))))
  (fRet (fTup (fConsA (fCall F__law_low_K36 (fConsA (fOp gPlus (fOfL (fLc (fRng1 (fConsA (fLit (.int 5)) fNilA)) (aName 9) fYes (fOp gPlus (fOp gIx (fVar 3) (fVar 9)) (fOp gIx (fVar 4) (fVar 9))) [9])) (fOfL (fLst (fConsA (fVar 7) fNilA)))) fNilA)) (fConsA (fCall F__law_ratio_K36 (fConsA (fVar 6) (fConsA (fVar 7) fNilA))) fNilA)))))))))))
def F__law_course : FnS := mkF 1 10 1 b__law_course
end PL


set_option Elab.async false
set_option linter.all false
set_option maxRecDepth 100000
set_option maxHeartbeats 4000000
set_option exponentiation.threshold 20000
namespace PL
open PySem PySem.Spec L2 DL
local macro_rules | `(tactic| simp! [$as,*]) => `(tactic| simp only [fThaw, fThawT, fThawL, thawD, thawO, noL, noLAll, fAug, gAug, fRev, fFnA, fCallV, fBot, fZip, zipD, gSum, intsOf, List.foldl_cons, List.foldl_nil, mkF, fRet, fRetL, fRetN, fSkip, fSeq, fNever, fSet, fAsg, fNew, fIfS, fDrop, fPar, fPar3, fSetc, fSetc2, fVar, fLit, fOp, fUn, fTup, fTup.datsOf, fLst, fNilA, fConsA, fStarA, fCelA, fOfL, fTru, fAndT, fOrT, fNotT, fAndV, fOrV, fNotV, fIf, fBi, fCall, fCallL, fCallFr, fPerm, callF, celOf, celsOk, norm, aName, aNil, aCons, aTup, setD, fSl, fIt, fItL, fItT, fFor, forGo, fLc, lcGo, fYes, wipeD, fCix, fList, fSlL, fPart, fNoPart, fChain, List.length_cons, List.length_nil, List.getElem?_cons_zero, List.getElem?_cons_succ, List.getElem?_nil, List.set_cons_zero, List.set_cons_succ, List.map_cons, List.map_nil, List.cons_append, List.nil_append, List.append_nil, List.replicate, List.take_zero, List.take_nil, List.take_succ_cons, ↓bsome, ↓msome, Option.bind_some, Option.map_some, Option.bind_none, Option.map_none, Nat.sub_self, Int.cast_ofNat_Int, Nat.reduceAdd, Nat.reduceMul, Nat.reduceSub, Nat.reduceLeDiff, Nat.reduceLT, Nat.zero_add, Nat.add_zero, and_self, and_true, true_and, if_true, if_false, ↓reduceIte, ite_true, Bool.true_eq_false, Bool.false_eq_true, beq_self_eq_true, Bool.and_self, Bool.not_true, Bool.not_false, decide_true, decide_false, gLen, gTyIs, gTyNot, tyOf, gNeg, gPlus, DL.gSub, gCmp, gInt, gAbs, gTuple, gMax, gMin, gGcd, LIM, gIx, $as,*])
local macro_rules | `(tactic| simpa! [$as,*]) => `(tactic| simp (maxDischargeDepth := 40) only [fThaw, fThawT, fThawL, thawD, thawO, noL, noLAll, fAug, gAug, fRev, fFnA, fCallV, fBot, fZip, zipD, gSum, intsOf, List.foldl_cons, List.foldl_nil, mkF, fRet, fRetL, fRetN, fSkip, fSeq, fNever, fSet, fAsg, fNew, fIfS, fDrop, fPar, fPar3, fSetc, fSetc2, fVar, fLit, fOp, fUn, fTup, fTup.datsOf, fLst, fNilA, fConsA, fStarA, fCelA, fOfL, fTru, fAndT, fOrT, fNotT, fAndV, fOrV, fNotV, fIf, fBi, fCall, fCallL, fCallFr, fPerm, callF, celOf, celsOk, norm, aName, aNil, aCons, aTup, setD, fSl, fIt, fItL, fItT, fFor, forGo, fLc, lcGo, fYes, wipeD, fCix, fList, fSlL, fPart, fNoPart, fChain, List.length_cons, List.length_nil, List.getElem?_cons_zero, List.getElem?_cons_succ, List.getElem?_nil, List.set_cons_zero, List.set_cons_succ, List.map_cons, List.map_nil, List.cons_append, List.nil_append, List.append_nil, List.replicate, List.take_zero, List.take_nil, List.take_succ_cons, ↓bsome, ↓msome, Option.bind_some, Option.map_some, Option.bind_none, Option.map_none, Nat.sub_self, Int.cast_ofNat_Int, Nat.reduceAdd, Nat.reduceMul, Nat.reduceSub, Nat.reduceLeDiff, Nat.reduceLT, Nat.zero_add, Nat.add_zero, and_self, and_true, true_and, if_true, if_false, ↓reduceIte, ite_true, Bool.true_eq_false, Bool.false_eq_true, beq_self_eq_true, Bool.and_self, Bool.not_true, Bool.not_false, decide_true, decide_false, gLen, gTyIs, gTyNot, tyOf, gNeg, gPlus, DL.gSub, gCmp, gInt, gAbs, gTuple, gMax, gMin, gGcd, LIM, gIx, ix1_0, ix2_0, ix2_1, ix3_0, ix3_1, ix3_2, ix4_0, ix4_1, ix4_2, ix4_3, ix5_0, ix5_1, ix5_2, ix5_3, ix5_4, ix6_0, ix6_1, ix6_2, ix6_3, ix6_4, ix6_5, cut5_04, cut5_14, cut4_04, cut4_03, cut4_14, Sm.mul, Sm.add, Sm.sub, Sm.neg, Sm.div, Sm.lit, sz_0, sz_1, sz_2, sz_3, sz_4, sz_8, Nat.reduceDiv, Nat.reduceSub, Nat.reduceLT, Nat.reduceLeDiff, Int.reduceLT, Int.reduceNeg, Int.mul_pos, gMul_ok, gDiv_ok, gMod_ok, $as,*])
/-! a while loop with less fuel -/
theorem wh_mono {t : FT} {b : FS} : ∀ (n m : Nat) (st : Sta) (o : Out), whileGo t b n st = some o → n ≤ m → whileGo t b m st = some o
  | 0, _, _, _, h, _ => by cases h
  | n + 1, 0, _, _, _, hm => absurd hm (by omega)
  | n + 1, m + 1, st, o, h, hm => by
    unfold whileGo at h ⊢
    cases ht : t st with
    | none => rw [ht] at h; cases h
    | some p =>
      rw [ht] at h
      simp only [Option.bind_some] at h ⊢
      by_cases hp : p.1 = true
      · rw [if_pos hp] at h ⊢
        cases hb : b ⟨st.ds, p.2⟩ with
        | none => rw [hb] at h; cases h
        | some o2 =>
          rw [hb] at h
          cases o2 with
          | nx st2 => exact wh_mono n m st2 o h (by omega)
          | ct st2 => exact wh_mono n m st2 o h (by omega)
          | bk st2 => exact h
          | rt r c => exact h
      · rw [if_neg hp] at h ⊢
        exact h
theorem wh_ok {t : FT} {b : FS} {n : Nat} {st : Sta} {o : Out} (h : whileGo t b n st = some o) (hn : n ≤ 2 ^ 10000) : fWhile t b st = some o := wh_mono n _ st o h hn
/-! the law's own greatest divisor, by a while -/
abbrev GwT : FT := (fTru (fOp gNe (fVar 4) (fLit (.int 0))))
abbrev GwB : FS := (fPar 3 4 (fConsA (fVar 4) (fConsA (fOp gMod (fBi gInt (fConsA (fVar 3) fNilA)) (fVar 4)) fNilA)))
abbrev gSt (x0 x1 x2 : Option SV) (p q : Nat) : Sta := ⟨[x0, x1, x2, some (.dat (.int (p : Nat))), some (.dat (.int (q : Nat)))], []⟩
theorem gw_t (x0 x1 x2 : Option SV) (p q : Nat) : GwT (gSt x0 x1 x2 p q) = some (!((q : Int) == 0), []) := by
  simp! [gNe_int]
theorem gw_b (x0 x1 x2 : Option SV) (p q : Nat) (hq : q ≠ 0) : GwB (gSt x0 x1 x2 p q) = some (.nx (gSt x0 x1 x2 q (p % q))) := by
  have hm : (0 : Int) < q := by omega
  have hd : gMod (.int (p : Int)) (.int (q : Int)) = some (.int ((p % q : Nat) : Int)) := gMod_ok hm
  simp! [hd]
theorem gw_go (x0 x1 x2 : Option SV) : ∀ (n q p : Nat), q ≤ n → whileGo GwT GwB (n + 1) (gSt x0 x1 x2 p q) = some (.nx (gSt x0 x1 x2 (Nat.gcd p q) 0))
  | n, 0, p, _ => by
    have h := gw_t x0 x1 x2 p 0
    unfold whileGo
    rw [h, Nat.gcd_zero_right]
    rfl
  | 0, q + 1, p, h => absurd h (by omega)
  | n + 1, q + 1, p, h => by
    have ht := gw_t x0 x1 x2 p (q + 1)
    have hb := gw_b x0 x1 x2 p (q + 1) (by omega)
    have hq' : (!(((q + 1 : Nat) : Int) == 0)) = true := by
      rw [beq_eq_false_iff_ne.mpr (by omega)]; rfl
    rw [hq'] at ht
    have eg : Nat.gcd p (q + 1) = Nat.gcd (q + 1) (p % (q + 1)) := by rw [Nat.gcd_comm p (q + 1), Nat.gcd_rec (q + 1) p, Nat.gcd_comm]
    have ih := gw_go x0 x1 x2 n (p % (q + 1)) (q + 1) (by have := Nat.mod_lt p (show 0 < q + 1 by omega); omega)
    unfold whileGo
    rw [ht]
    simp only [Option.bind_some, if_true]
    have hb' : GwB ⟨(gSt x0 x1 x2 p (q + 1)).ds, []⟩ = some (.nx (gSt x0 x1 x2 (q + 1) (p % (q + 1)))) := hb
    rw [hb', eg]
    exact ih
abbrev CwB : FS := (fSeq (fPar 3 4 (fConsA (fVar 1) (fConsA (fBi gAbs (fConsA (fVar 2) fNilA)) fNilA))) (fSeq (fWhile GwT GwB) (fSet 1 (fVar 3))))
theorem cw_1 (x0 x3 x4 : Option SV) (g : Nat) (x : Int) (h : Sm 9000 x) : CwB ⟨[x0, some (.dat (.int (g : Nat))), some (.dat (.int x)), x3, x4], []⟩ = some (.nx ⟨[x0, some (.dat (.int ((Nat.gcd g x.natAbs : Nat) : Int))), some (.dat (.int x)), some (.dat (.int ((Nat.gcd g x.natAbs : Nat) : Int))), some (.dat (.int (0 : Nat)))], []⟩) := by
  have a1 : (fPar 3 4 (fConsA (fVar 1) (fConsA (fBi gAbs (fConsA (fVar 2) fNilA)) fNilA))) ⟨[x0, some (.dat (.int (g : Nat))), some (.dat (.int x)), x3, x4], []⟩ = some (.nx (gSt x0 (some (.dat (.int (g : Nat)))) (some (.dat (.int x))) g x.natAbs)) := by
    have ea : (if x < 0 then -x else x) = ((x.natAbs : Nat) : Int) := by split <;> omega
    simp! [ea]
  have hn : x.natAbs + 1 ≤ 2 ^ 10000 := by
    have h1 : x.natAbs < 2 ^ 9000 := h
    have h2 : (2 : Nat) ^ 9000 ≤ 2 ^ 10000 := Nat.pow_le_pow_right (by decide) (by decide)
    omega
  have a2 := wh_ok (gw_go x0 (some (.dat (.int (g : Nat)))) (some (.dat (.int x))) x.natAbs x.natAbs g (Nat.le_refl _)) hn
  refine (seq_nx a1).trans ((seq_nx a2).trans ?_)
  simp! []
theorem cw_for (x0 : Option SV) : ∀ (v : List Int) (g : Nat) (x2 x3 x4 : Option SV), (∀ x ∈ v, Sm 9000 x) → ∃ y2 y3 y4, forGo (aName 2) CwB (v.map .int) ⟨[x0, some (.dat (.int (g : Nat))), x2, x3, x4], []⟩ = some (.nx ⟨[x0, some (.dat (.int ((Nat.gcd g (gL v) : Nat) : Int))), y2, y3, y4], []⟩)
  | [], g, x2, x3, x4, _ => ⟨x2, x3, x4, by simp [forGo, gL]⟩
  | x :: v, g, x2, x3, x4, h => by
    have e := cw_1 x0 x3 x4 g x (h x List.mem_cons_self)
    obtain ⟨y2, y3, y4, ih⟩ := cw_for x0 v (Nat.gcd g x.natAbs) (some (.dat (.int x))) (some (.dat (.int ((Nat.gcd g x.natAbs : Nat) : Int)))) (some (.dat (.int (0 : Nat)))) fun y m => h y (List.mem_cons_of_mem _ m)
    refine ⟨y2, y3, y4, ?_⟩
    rw [Nat.gcd_assoc] at ih
    generalize CwB = b at e ih ⊢
    simp only [List.map_cons, forGo, aName, setD, List.set_cons_succ, List.set_cons_zero, Option.bind_some, e]
    exact ih
theorem w_common {v : List Int} {r : PyData} (h : IsRow v r) (hs : ∀ x ∈ v, Sm 9000 x) : F__law_common_K36 [.dat r] [] = some (.dat (.int (gL v : Nat)), []) := by
  obtain ⟨y2, y3, y4, e⟩ := cw_for (some (.dat r)) v 0 none none none hs
  rw [Nat.gcd_zero_left] at e
  have e0 : b__law_common_K36 = (fSeq (fSet 1 (fLit (.int (0 : Nat)))) (fSeq (fFor (fIt (fVar 0)) (aName 2) CwB) (fRet (fVar 1)))) := rfl
  generalize CwB = b at e e0
  cases h <;> simp only [F__law_common_K36, mkF, e0, fSeq, fSet, fLit, fFor, fIt, fVar, List.length_cons, List.length_nil, List.map_cons, List.map_nil, List.replicate, List.cons_append, List.nil_append, List.set_cons_zero, List.set_cons_succ, List.getElem?_cons_zero, List.getElem?_cons_succ, Option.bind_some, Option.map_some, e, fRet, Nat.reduceAdd, Nat.reduceSub, and_self, if_true, List.take_zero, Nat.zero_add]
theorem w_low {v : List Int} {r : PyData} (h : IsRow v r) (hs : ∀ x ∈ v, Sm 4000 x) (hl : v.length ≤ 1000) : F__law_low_K36 [.dat r] [] = some (.dat (.tuple ((red v).map .int)), []) := by
  have h1 := mL_pos v
  have h2 := sm_mL (n := 4000) (by decide) fun x m => hs x m
  have h3 := w_common h fun x m => (hs x m).up 9000 (by decide)
  have h4 := lc_div (some (.dat r)) h1 h2 [] v
  have h5 : (v.map PyData.int).length ≤ 100000 := by rw [List.length_map]; omega
  have h6 := mL_max' v
  unfold red
  cases h <;> simp! [F__law_low_K36, b__law_low_K36, h3, h6, h4, h5]
theorem w_ratio {p q : Int} (hq : 0 < q) (hp : Sm 4000 p) (hq' : Sm 4000 q) : F__law_ratio_K36 [.dat (.int p), .dat (.int q)] [] = some (.dat (Rt p q), []) := by
  have e1 := w_common (v := [p, q]) .l (fun x h => by
    simp only [List.mem_cons, List.not_mem_nil, or_false] at h
    rcases h with rfl | rfl
    · exact hp.up 9000 (by decide)
    · exact hq'.up 9000 (by decide))
  have e2 := rg_red (p := p) hq
  have g0 : gL [p, q] ≠ 0 := gL_ne (x := q) (by simp) (by omega)
  have hm : mL [p, q] = ((gL [p, q] : Nat) : Int) := mL_eq g0
  unfold red at e2
  rw [hm] at e2
  simp only [List.map_cons, List.map_nil, List.cons.injEq, and_true] at e2
  have gp : (0 : Int) < ((gL [p, q] : Nat) : Int) := by omega
  have sg := sm_mL (v := [p, q]) (n := 4000) (by decide) (fun x h => by
    simp only [List.mem_cons, List.not_mem_nil, or_false] at h
    rcases h with rfl | rfl
    · exact hp
    · exact hq')
  rw [hm] at sg
  unfold Rt
  rw [e2.1, e2.2]
  generalize ((gL [p, q] : Nat) : Int) = G at *
  have d1 := gDiv_ok (i := p) gp sg
  have d2 := gDiv_ok (i := q) gp sg
  simp only [List.map_cons, List.map_nil] at e1
  simp! [F__law_ratio_K36, b__law_ratio_K36, e1, hq, d1, d2]
/-! where draws come from: the second family -/
structure SrcO (k : Nat) (a s n : Int) : Prop where
  a0 : 0 ≤ a
  s0 : 0 ≤ s
  s1 : s < 2147483629
  n0 : 0 ≤ n
  n1 : n + k < 2 ^ 40
def Src (k : Nat) (t : List PyData) : Prop := ∃ a s n, t = L3 a s n ∧ SrcO k a s n
theorem Src.le {k m : Nat} {t : List PyData} (h : Src k t) (hm : m ≤ k) : Src m t := by
  obtain ⟨a, s, n, e, h⟩ := h
  exact ⟨a, s, n, e, h.a0, h.s0, h.s1, h.n0, by have := h.n1; omega⟩
theorem w_draw {k : Nat} {t : List PyData} {m : Int} (h : Src (k + 1) t) (hm : 0 < m) (hm2 : m < 2 ^ 40) :
    ∃ v t', F__law_draw [.cel 0, .dat (.int m)] [t] = some (.dat (.int v), [t']) ∧ Src k t' ∧ 0 ≤ v ∧ v < m := by
  obtain ⟨a, s, n, rfl, ha, h0, h1, h2, h3⟩ := h
  have st := (sz_of (by omega) (by omega : m < 2 ^ 60)).sm (m := 1000)
  by_cases hp : 0 < a
  · refine ⟨a % m, L3 (a / m) s n, ?_, ⟨_, _, _, rfl, Int.ediv_nonneg ha (by omega), h0, h1, h2, by omega⟩, Int.emod_nonneg _ (by omega), Int.emod_lt_of_pos _ hm⟩
    have hd := dm_ok (i := a) hm st
    simpa! [F__law_draw, b__law_draw, ixN3_0, hp, hd]
  · have m1 := gMul_sm h0 (by omega) (by decide : (0 : Int) ≤ 16807) (by decide)
    have m2 := gMul_sm (by omega : 0 ≤ n + 1) (by omega : n + 1 < 2 ^ 60) (by decide : (0 : Int) ≤ 65539) (by decide)
    have d1 := fun i : Int => gMod_ok (i := i) (by decide : (0 : Int) < 2147483587)
    have d2 := fun i : Int => gMod_ok (i := i) (by decide : (0 : Int) < 2147483629)
    have d3 := fun i : Int => gMod_ok (i := i) hm
    generalize hx : (s * 16807 + (n + 1) * 65539) % 2147483587 = x
    have x0 : 0 ≤ x := by omega
    have x1 : x < 2147483587 := by omega
    have q1 : gDiv (.int x) (.int 11) = some (.int (x / 11)) := gDiv_ok (by decide) (Sz.of40 (by decide)).sm
    have m3 := gMul_sm (by decide : (0 : Int) ≤ 2) (by decide) (by omega : 0 ≤ x / 11) (by omega)
    have m4 := gMul_sm x0 (by omega) (by omega : 0 ≤ 2 * (x / 11) + 30011) (by omega)
    generalize hy : (x * (2 * (x / 11) + 30011) + (n + 1)) % 2147483629 = y
    have q2 : gDiv (.int y) (.int 257) = some (.int (y / 257)) := gDiv_ok (by decide) (Sz.of40 (by decide)).sm
    refine ⟨y / 257 % m, L3 a y (n + 1), ?_, ⟨_, _, _, rfl, ha, by omega, by omega, by omega, by push_cast at h3; omega⟩, Int.emod_nonneg _ (by omega), Int.emod_lt_of_pos _ hm⟩
    simp! [F__law_draw, b__law_draw, gIx, ix3_0, ix3_1, ix3_2, ixN3_0, ixN3_1, ixN3_2, hp, m1, m2, d1, d2, d3, hx, q1, m3, m4, hy, q2]
theorem w_pick {k : Nat} {t : List PyData} {xs : List PyData} (h : Src (k + 1) t) (h0 : 0 < xs.length) (h1 : xs.length < 1000) :
    ∃ x t', F__law_pick_K36 [.cel 0, .dat (.tuple xs)] [t] = some (.dat x, [t']) ∧ Src k t' ∧ x ∈ xs := by
  obtain ⟨v, t', e, h', v0, v1⟩ := w_draw (m := (xs.length : Nat)) h (by omega) (by omega)
  obtain ⟨x, hx, ex⟩ := atI_in v0 v1
  refine ⟨x, t', ?_, h', hx⟩
  simp! [F__law_pick_K36, b__law_pick_K36, e, gIx, ex]
theorem w_pickn {k : Nat} {t : List PyData} (ns : List Int) (h : Src (k + 1) t) (h0 : 0 < ns.length) (h1 : ns.length < 1000) :
    ∃ x t', F__law_pick_K36 [.cel 0, .dat (.tuple (ns.map .int))] [t] = some (.dat (.int x), [t']) ∧ Src k t' ∧ x ∈ ns := by
  obtain ⟨x, t', e, h', hx⟩ := w_pick (xs := ns.map .int) h (by simpa using h0) (by simpa using h1)
  obtain ⟨n, hn, rfl⟩ := List.mem_map.mp hx
  exact ⟨n, t', e, h', hn⟩
theorem w_about {k : Nat} {t : List PyData} {m : Int} (h : Src (k + 1) t) (h0 : 0 ≤ m) (h1 : m ≤ 1000) : ∃ v t', F__law_about [.cel 0, .dat (.int m)] [t] = some (.dat (.int v), [t']) ∧ Src k t' ∧ -m ≤ v ∧ v ≤ m := by
  obtain ⟨v, t', e, h', v0, v1⟩ := w_draw (k := k) (m := 2 * m + 1) h (by omega) (by omega)
  have mm := gMul_sm (by decide : (0 : Int) ≤ 2) (by decide) h0 (by omega)
  refine ⟨v - m, t', ?_, h', by omega, by omega⟩
  simp! [F__law_about, b__law_about, mm, e]
end PL


set_option Elab.async false
set_option linter.all false
set_option maxRecDepth 100000
set_option maxHeartbeats 4000000
set_option exponentiation.threshold 20000
namespace PL
open PySem PySem.Spec L2 DL
local macro_rules | `(tactic| simp! [$as,*]) => `(tactic| simp only [fThaw, fThawT, fThawL, thawD, thawO, noL, noLAll, fAug, gAug, fRev, fFnA, fCallV, fBot, fZip, zipD, gSum, intsOf, List.foldl_cons, List.foldl_nil, mkF, fRet, fRetL, fRetN, fSkip, fSeq, fNever, fSet, fAsg, fNew, fIfS, fDrop, fPar, fPar3, fSetc, fSetc2, fVar, fLit, fOp, fUn, fTup, fTup.datsOf, fLst, fNilA, fConsA, fStarA, fCelA, fOfL, fTru, fAndT, fOrT, fNotT, fAndV, fOrV, fNotV, fIf, fBi, fCall, fCallL, fCallFr, fPerm, callF, celOf, celsOk, norm, aName, aNil, aCons, aTup, setD, fSl, fIt, fItL, fItT, fFor, forGo, fLc, lcGo, fYes, wipeD, fCix, fList, fSlL, fPart, fNoPart, fChain, List.length_cons, List.length_nil, List.getElem?_cons_zero, List.getElem?_cons_succ, List.getElem?_nil, List.set_cons_zero, List.set_cons_succ, List.map_cons, List.map_nil, List.cons_append, List.nil_append, List.append_nil, List.replicate, List.take_zero, List.take_nil, List.take_succ_cons, ↓bsome, ↓msome, Option.bind_some, Option.map_some, Option.bind_none, Option.map_none, Nat.sub_self, Int.cast_ofNat_Int, Nat.reduceAdd, Nat.reduceMul, Nat.reduceSub, Nat.reduceLeDiff, Nat.reduceLT, Nat.zero_add, Nat.add_zero, and_self, and_true, true_and, if_true, if_false, ↓reduceIte, ite_true, Bool.true_eq_false, Bool.false_eq_true, beq_self_eq_true, Bool.and_self, Bool.not_true, Bool.not_false, decide_true, decide_false, gLen, gTyIs, gTyNot, tyOf, gNeg, gPlus, DL.gSub, gCmp, gInt, gAbs, gTuple, gMax, gMin, gGcd, LIM, gIx, $as,*])
abbrev SoB : FS := (fSet 3 (fOp gMod (fBi gInt (fConsA (fOp gPlus (fOp gPlus (fOp gMul (fVar 3) (fLit (.int 48611))) (fOp gMod (fBi gInt (fConsA (fVar 4) fNilA)) (fLit (.int 2147483587)))) (fLit (.int 19))) fNilA)) (fLit (.int 2147483629))))
theorem so_1 {x0 x1 x2 x5 : Option SV} {s x : Int} (h0 : 0 ≤ s) (h1 : s < 2 ^ 40) : ∃ s', SoB ⟨[x0, x1, x2, some (.dat (.int s)), some (.dat (.int x)), x5], []⟩ = some (.nx ⟨[x0, x1, x2, some (.dat (.int s')), some (.dat (.int x)), x5], []⟩) ∧ 0 ≤ s' ∧ s' < 2 ^ 40 := by
  have m1 := gMul_sm h0 (by omega) (by decide : (0 : Int) ≤ 48611) (by decide)
  have d1 : gMod (.int x) (.int 2147483587) = some (.int (x % 2147483587)) := gMod_ok (by decide)
  have d2 := fun i : Int => gMod_ok (i := i) (by decide : (0 : Int) < 2147483629)
  refine ⟨(s * 48611 + x % 2147483587 + 19) % 2147483629, ?_, by omega, by omega⟩
  simp! [m1, d1, d2]
theorem so_for {x0 x1 x2 x5 : Option SV} : ∀ (ms : List Int) (s : Int) (x4 : Option SV), 0 ≤ s → s < 2 ^ 40 → ∃ s' y4, forGo (aName 4) SoB (ms.map .int) ⟨[x0, x1, x2, some (.dat (.int s)), x4, x5], []⟩ = some (.nx ⟨[x0, x1, x2, some (.dat (.int s')), y4, x5], []⟩) ∧ 0 ≤ s' ∧ s' < 2 ^ 40
  | [], s, x4, h0, h1 => ⟨s, x4, rfl, h0, h1⟩
  | x :: ms, s, x4, h0, h1 => by
    obtain ⟨s1, e, g0, g1⟩ := so_1 (x0 := x0) (x1 := x1) (x2 := x2) (x5 := x5) (x := x) h0 h1
    obtain ⟨s2, y4, ih, k0, k1⟩ := so_for (x0 := x0) (x1 := x1) (x2 := x2) (x5 := x5) ms s1 (some (.dat (.int x))) g0 g1
    refine ⟨s2, y4, ?_, k0, k1⟩
    generalize SoB = b at e ih ⊢
    simp only [List.map_cons, forGo, aName, setD, List.set_cons_succ, List.set_cons_zero, Option.bind_some, e]
    exact ih
theorem pow17 : gPow (.int 10) (.int 17) = some (.int 100000000000000000) := rfl
theorem w_source {ns : List Int} {k : Int} (h0 : 0 ≤ k) (h1 : k < 1000) : ∃ t, F__law_source [.dat (.list (ns.map .int)), .dat (.int k)] [] = some (.new t, []) ∧ Src 100000 t := by
  have m0 := gMul_sm (by decide : (0 : Int) ≤ 983) (by decide) h0 (by omega)
  have m1 := gMul_sm (by decide : (0 : Int) ≤ 4001) (by decide) h0 (by omega)
  obtain ⟨ms, em⟩ := cut_ints ns none (some 8)
  have own : ∃ x : Int, (fSet 2 (fIf (fTru (fOp (gCmp fun i j => decide (i < j)) (fVar 1) (fBi gLen (fConsA (fVar 0) fNilA)))) (fBi gInt (fConsA (fOp gIx (fVar 0) (fVar 1)) fNilA)) (fOp gPlus (fOp gMul (fLit (.int 983)) (fVar 1)) (fLit (.int 57))))) ⟨[some (.dat (.list (ns.map .int))), some (.dat (.int k)), none, none, none, none], []⟩ = some (.nx ⟨[some (.dat (.list (ns.map .int))), some (.dat (.int k)), some (.dat (.int x)), none, none, none], []⟩) := by
    by_cases hk : k < ((ns.map PyData.int).length : Nat)
    · obtain ⟨x, hx, ex⟩ := atI_in h0 hk
      obtain ⟨n, hn, rfl⟩ := List.mem_map.mp hx
      refine ⟨n, ?_⟩
      simp! [hk, gIx, ex]
    · refine ⟨983 * k + 57, ?_⟩
      simp! [hk, m0]
  obtain ⟨x, a1⟩ := own
  obtain ⟨s, y4, ef, s0, s1⟩ := so_for (x0 := some (.dat (.list (ns.map .int)))) (x1 := some (.dat (.int k))) (x2 := some (.dat (.int x))) (x5 := none) ms (60013 + 4001 * k) none (by omega) (by omega)
  have a2 : (fSet 3 (fOp gPlus (fLit (.int 60013)) (fOp gMul (fLit (.int 4001)) (fVar 1)))) ⟨[some (.dat (.list (ns.map .int))), some (.dat (.int k)), some (.dat (.int x)), none, none, none], []⟩ = some (.nx ⟨[some (.dat (.list (ns.map .int))), some (.dat (.int k)), some (.dat (.int x)), some (.dat (.int (60013 + 4001 * k))), none, none], []⟩) := by
    simp! [m1]
  have a3 : (fFor (fIt (fSl (fVar 0) fNoPart (fPart (fLit (.int 8))))) (aName 4) SoB) ⟨[some (.dat (.list (ns.map .int))), some (.dat (.int k)), some (.dat (.int x)), some (.dat (.int (60013 + 4001 * k))), none, none], []⟩ = some (.nx ⟨[some (.dat (.list (ns.map .int))), some (.dat (.int k)), some (.dat (.int x)), some (.dat (.int s)), y4, none], []⟩) := by
    have ei : (fIt (fSl (fVar 0) fNoPart (fPart (fLit (.int 8))))) ⟨[some (.dat (.list (ns.map .int))), some (.dat (.int k)), some (.dat (.int x)), some (.dat (.int (60013 + 4001 * k))), none, none], []⟩ = some (ms.map .int, []) := by
      simp! [em]
    unfold fFor
    rw [ei]
    exact ef
  have ea : (if x < 0 then -x else x) = ((x.natAbs : Nat) : Int) := by split <;> omega
  have m2 := gMul_sm s0 (by omega : s < 2 ^ 60) (by decide : (0 : Int) ≤ 83) (by decide)
  have m3 := gMul_sm (by omega : 0 ≤ x % 2147483587) (by omega : x % 2147483587 < 2 ^ 60) (by decide : (0 : Int) ≤ 20011) (by decide)
  have d1 : gMod (.int x) (.int 2147483587) = some (.int (x % 2147483587)) := gMod_ok (by decide)
  have d2 := fun i : Int => gMod_ok (i := i) (by decide : (0 : Int) < 2147483629)
  have a4 : (fSet 5 (fOp gMod (fBi gInt (fConsA (fOp gPlus (fOp gMul (fVar 3) (fLit (.int 83))) (fOp gMul (fOp gMod (fBi gInt (fConsA (fVar 2) fNilA)) (fLit (.int 2147483587))) (fLit (.int 20011)))) fNilA)) (fLit (.int 2147483629)))) ⟨[some (.dat (.list (ns.map .int))), some (.dat (.int k)), some (.dat (.int x)), some (.dat (.int s)), y4, none], []⟩ = some (.nx ⟨[some (.dat (.list (ns.map .int))), some (.dat (.int k)), some (.dat (.int x)), some (.dat (.int s)), y4, some (.dat (.int ((s * 83 + x % 2147483587 * 20011) % 2147483629)))], []⟩) := by
    simp! [m2, m3, d1, d2]
  have r0 : 0 ≤ (s * 83 + x % 2147483587 * 20011) % 2147483629 := by omega
  have r1 : (s * 83 + x % 2147483587 * 20011) % 2147483629 < 2147483629 := by omega
  generalize (s * 83 + x % 2147483587 * 20011) % 2147483629 = r at *
  have e0 : b__law_source = fSeq (fSet 2 (fIf (fTru (fOp (gCmp fun i j => decide (i < j)) (fVar 1) (fBi gLen (fConsA (fVar 0) fNilA)))) (fBi gInt (fConsA (fOp gIx (fVar 0) (fVar 1)) fNilA)) (fOp gPlus (fOp gMul (fLit (.int 983)) (fVar 1)) (fLit (.int 57))))) (fSeq (fSet 3 (fOp gPlus (fLit (.int 60013)) (fOp gMul (fLit (.int 4001)) (fVar 1)))) (fSeq (fFor (fIt (fSl (fVar 0) fNoPart (fPart (fLit (.int 8))))) (aName 4) SoB) (fSeq (fSet 5 (fOp gMod (fBi gInt (fConsA (fOp gPlus (fOp gMul (fVar 3) (fLit (.int 83))) (fOp gMul (fOp gMod (fBi gInt (fConsA (fVar 2) fNilA)) (fLit (.int 2147483587))) (fLit (.int 20011)))) fNilA)) (fLit (.int 2147483629)))) (fRetL (fLst (fConsA (fIf (fOrT (fTru (fOp (gCmp fun i j => decide (i < j)) (fVar 2) (fLit (.int 0)))) (fTru (fOp (gCmp fun i j => decide (j ≤ i)) (fVar 2) (fOp gPow (fLit (.int 10)) (fLit (.int 17)))))) (fBi gAbs (fConsA (fVar 2) fNilA)) (fLit (.int 0))) (fConsA (fVar 5) (fConsA (fLit (.int 0)) fNilA)))))))) := rfl
  by_cases hb : x < 0
  · refine ⟨L3 ((x.natAbs : Nat) : Int) r 0, ?_, _, _, _, rfl, by omega, r0, r1, by decide, by decide⟩
    refine fn_ok (np := 2) (nN := 6) (n0 := 0) (c := []) ?_ ⟨rfl, rfl⟩ rfl
    rw [e0]
    refine (seq_nx a1).trans ((seq_nx a2).trans ((seq_nx a3).trans ((seq_nx a4).trans ?_)))
    have hb' := decide_eq_true hb
    clear r0 r1
    have ea' : -x = ((x.natAbs : Nat) : Int) := by omega
    simp! [hb, ea']
  · by_cases hc : (100000000000000000 : Int) ≤ x
    · refine ⟨L3 ((x.natAbs : Nat) : Int) r 0, ?_, _, _, _, rfl, by omega, r0, r1, by decide, by decide⟩
      refine fn_ok (np := 2) (nN := 6) (n0 := 0) (c := []) ?_ ⟨rfl, rfl⟩ rfl
      rw [e0]
      refine (seq_nx a1).trans ((seq_nx a2).trans ((seq_nx a3).trans ((seq_nx a4).trans ?_)))
      have ea' : x = ((x.natAbs : Nat) : Int) := by omega
      rw [← ea']
      simp! [hb, pow17, hc]
    · refine ⟨L3 0 r 0, ?_, _, _, _, rfl, by decide, r0, r1, by decide, by decide⟩
      refine fn_ok (np := 2) (nN := 6) (n0 := 0) (c := []) ?_ ⟨rfl, rfl⟩ rfl
      rw [e0]
      refine (seq_nx a1).trans ((seq_nx a2).trans ((seq_nx a3).trans ((seq_nx a4).trans ?_)))
      simp! [hb, pow17, hc]
/-! the law, over what checks one turn -/
abbrev srcR (m : Int) : FL := (fRng1 (fConsA (fBi gMax (fConsA (fLit (.int 2)) (fConsA (fBi gMin (fConsA (fBi gLen (fConsA (fVar 0) fNilA)) (fConsA (fLit (.int m)) fNilA))) fNilA))) fNilA))
abbrev srcE (FR : FnS) : FE := (fCallFr FR (fCallL F__law_source (fConsA (fVar 0) (fConsA (fVar 1) fNilA))))
def srcB (FR : FnS) (m : Int) : FS := (fRet (fBi gAll (fConsA (fOfL (fLc (srcR m) (aName 1) fYes (srcE FR) [1])) fNilA)))
theorem srcE_ok {FR : FnS} {ns : List Int} (hR : ∀ t, Src 100000 t → ∃ c, FR [.cel 0] [t] = some (.dat (.bool true), c)) {k : Int} (h0 : 0 ≤ k) (h1 : k < 1000) : srcE FR ⟨[some (.dat (.list (ns.map PyData.int))), some (.dat (.int k))], []⟩ = some (.bool true, []) := by
  obtain ⟨t, e, ht⟩ := w_source (ns := ns) h0 h1
  obtain ⟨c, e2⟩ := hR t ht
  simp! [e, e2]
theorem src_go {FR : FnS} {ns : List Int} (hR : ∀ t, Src 100000 t → ∃ c, FR [.cel 0] [t] = some (.dat (.bool true), c)) : ∀ ks : List Nat, (∀ k ∈ ks, k < 1000) → lcGo (aName 1) fYes (srcE FR) [some (.dat (.list (ns.map PyData.int))), none] (ks.map fun i => PyData.int (0 + (i : Nat))) [] = some (ks.map fun _ => PyData.bool true, [])
  | [], _ => rfl
  | k :: ks, h => by
    have ih := src_go (ns := ns) hR ks fun j hj => h j (List.mem_cons_of_mem _ hj)
    have hk := h k (List.mem_cons_self ..)
    have e := srcE_ok (ns := ns) hR (k := 0 + (k : Nat)) (by omega) (by omega)
    generalize srcE FR = eb at e ih ⊢
    simp only [lcGo, List.map_cons, aName, fYes, setD, List.set_cons_zero, List.set_cons_succ, Option.bind_some, if_true, e, ih, Option.map_some]
theorem src_ok {FR : FnS} {m : Int} (h0 : 0 ≤ m) (h1 : m ≤ 100) (hR : ∀ t, Src 100000 t → ∃ c, FR [.cel 0] [t] = some (.dat (.bool true), c)) (ns : List Int) : ∃ c, mkF 1 2 0 (srcB FR m) [.dat (.list (ns.map PyData.int))] [] = some (.dat (.bool true), c) := by
  obtain ⟨n, hn, en⟩ : ∃ n : Nat, n ≤ 100 ∧ (if (if m < (((ns.map PyData.int).length : Nat) : Int) then m else (((ns.map PyData.int).length : Nat) : Int)) > 2 then (if m < (((ns.map PyData.int).length : Nat) : Int) then m else (((ns.map PyData.int).length : Nat) : Int)) else 2) = (n : Nat) := by
    refine ⟨(if (if m < (((ns.map PyData.int).length : Nat) : Int) then m else (((ns.map PyData.int).length : Nat) : Int)) > 2 then (if m < (((ns.map PyData.int).length : Nat) : Int) then m else (((ns.map PyData.int).length : Nat) : Int)) else 2).toNat, ?_, ?_⟩ <;> (split <;> split <;> omega)
  have e : srcR m ⟨[some (.dat (.list (ns.map PyData.int))), none], []⟩ = some (rangeD 0 n, []) := rg_of (J := n) (by simp! [en]) (by omega)
  have hb := src_go (ns := ns) hR (List.range n) fun k hk => by have := List.mem_range.mp hk; omega
  have hlen : (rangeD 0 n).length ≤ 100000 := by rw [rangeD_len]; omega
  have hb' : lcGo (aName 1) fYes (srcE FR) [some (.dat (.list (ns.map PyData.int))), none] (rangeD 0 n) [] = some ((List.range n).map fun _ => PyData.bool true, []) := hb
  have hall : gAll [.list ((List.range n).map fun _ => PyData.bool true)] = some (.bool true) := by
    show (boolsOf _).map (fun bs => PyData.bool (bs.all id)) = _
    rw [bools_true]
    simp
  refine ⟨[], ?_⟩
  unfold srcB
  generalize srcR m = rg at e
  generalize srcE FR = eb at hb'
  simp! [e, hlen, hb', hall]
/-! settings -/
structure Sg (m : Nat) (a b : Int) : Prop where
  b0 : 0 ≤ b
  z : b = 0 → a = 1
  one : gL [a, b] = 1
  sa : Sz m a
  sb : Sz m b
theorem Sg.up {m n : Nat} {a b : Int} (S : Sg m a b) (h : m ≤ n) : Sg n a b := ⟨S.b0, S.z, S.one, S.sa.by _ h, S.sb.by _ h⟩
theorem w_chset {m : Nat} {p q : Int} (P : Sg m p q) : F_check_setting [.dat (T2 p q)] [] = some (.dat .none, []) := by
  have e1 := e_rrow2 (a := p) (b := q)
  rw [P.one] at e1
  have o1 : ((((1 : Nat) : Int)) == 1) = true := rfl
  have hs : F_is_setting [.dat (T2 p q)] [] = some (.dat (.bool true), []) := by
    by_cases hq : 0 < q
    · simp! [F_is_setting, b_is_setting, e1, o1, gIx, ix2_1, hq]
    · have q0 : q = 0 := by have := P.b0; omega
      subst q0
      have p1 := P.z rfl
      subst p1
      have h1 : gEq (T2 1 0) (T2 1 0) = some (.bool true) := rfl
      simp! [F_is_setting, b_is_setting, e1, o1, gIx, ix2_1, hq, h1]
  simp! [F_check_setting, b_check_setting, hs]
theorem w_slot {k : Nat} {t : List PyData} (h : Src (k + 4) t) : ∃ (a b : Int) (t' : List PyData), F__law_slot [.cel 0] [t] = some (.dat (T2 a b), [t']) ∧ Src k t' ∧ Sg 8 a b := by
  obtain ⟨w, t1, e1, h1, w0, w1⟩ := w_draw (k := k + 3) (m := 4) h (by decide) (by decide)
  obtain ⟨m, t2, e2, h2, hm⟩ := w_pickn (k := k + 2) [1, 2, 3, 9, 100] h1 (by decide) (by decide)
  have hm' : 0 < m ∧ m ≤ 100 := by
    simp only [List.mem_cons, List.not_mem_nil, or_false] at hm
    rcases hm with rfl | rfl | rfl | rfl | rfl <;> decide
  simp only [List.map_cons, List.map_nil] at e2
  by_cases hw : w = 0
  · subst hw
    obtain ⟨x, t3, e3, h3, hx⟩ := w_pick (k := k + 1) (xs := [T2 0 1, T2 1 0, T2 1 1, T2 (-1) 1]) h2 (by decide) (by decide)
    have z : Sz 8 (0 : Int) := sz_0.by _ (by decide)
    have o : Sz 8 (1 : Int) := sz_1.by _ (by decide)
    have w00 : gEq (.int 0) (.int 0) = some (.bool true) := rfl
    simp only [List.mem_cons, List.not_mem_nil, or_false] at hx
    rcases hx with rfl | rfl | rfl | rfl
    · exact ⟨0, 1, t3, by simp! [F__law_slot, b__law_slot, e1, e2, w00, Int.reduceNeg, e3], h3.le (by omega), by decide, by decide, by decide, z, o⟩
    · exact ⟨1, 0, t3, by simp! [F__law_slot, b__law_slot, e1, e2, w00, Int.reduceNeg, e3], h3.le (by omega), by decide, by decide, by decide, o, z⟩
    · exact ⟨1, 1, t3, by simp! [F__law_slot, b__law_slot, e1, e2, w00, Int.reduceNeg, e3], h3.le (by omega), by decide, by decide, by decide, o, o⟩
    · exact ⟨-1, 1, t3, by simp! [F__law_slot, b__law_slot, e1, e2, w00, Int.reduceNeg, e3], h3.le (by omega), by decide, by decide, by decide, o.neg, o⟩
  · have hw' : (w == 0) = false := beq_eq_false_iff_ne.mpr hw
    obtain ⟨v, t3, e3, h3, v0, v1⟩ := w_about (k := k + 1) (m := m) h2 (by omega) (by omega)
    obtain ⟨u, t4, e4, h4, u0, u1⟩ := w_draw (k := k) (m := m) h3 (by omega) (by omega)
    have sv : Sz 8 v := Sm.sz (by unfold Sm; omega)
    have su : Sz 8 (1 + u) := Sm.sz (by unfold Sm; omega)
    have r := w_low (v := [v, 1 + u]) (r := T2 v (1 + u)) .t (m2 sv.sm su.sm) (by simp)
    have rr := rg_red (p := v) (q := 1 + u) (by omega)
    have F := rt_fr (n := 8) (p := v) (q := 1 + u) (by omega) sv su
    rw [← rr] at r
    have q0 := F.q0
    refine ⟨_, _, t4, ?_, h4, ⟨by omega, fun z => absurd z (by omega), F.one, F.sp, F.sq⟩⟩
    simp only [List.map_cons, List.map_nil] at r
    clear F rr sv su q0
    simp! [F__law_slot, b__law_slot, e1, e2, gEq_int, hw', e3, e4, r]
end PL


set_option Elab.async false
set_option linter.all false
set_option maxRecDepth 100000
set_option maxHeartbeats 4000000
set_option exponentiation.threshold 20000
namespace PL
open PySem PySem.Spec L2 DL
local macro_rules | `(tactic| simp! [$as,*]) => `(tactic| simp only [fThaw, fThawT, fThawL, thawD, thawO, noL, noLAll, fAug, gAug, fRev, fFnA, fCallV, fBot, fZip, zipD, gSum, intsOf, List.foldl_cons, List.foldl_nil, mkF, fRet, fRetL, fRetN, fSkip, fSeq, fNever, fSet, fAsg, fNew, fIfS, fDrop, fPar, fPar3, fSetc, fSetc2, fVar, fLit, fOp, fUn, fTup, fTup.datsOf, fLst, fNilA, fConsA, fStarA, fCelA, fOfL, fTru, fAndT, fOrT, fNotT, fAndV, fOrV, fNotV, fIf, fBi, fCall, fCallL, fCallFr, fPerm, callF, celOf, celsOk, norm, aName, aNil, aCons, aTup, setD, fSl, fIt, fItL, fItT, fFor, forGo, fLc, lcGo, fYes, wipeD, fCix, fList, fSlL, fPart, fNoPart, fChain, List.length_cons, List.length_nil, List.getElem?_cons_zero, List.getElem?_cons_succ, List.getElem?_nil, List.set_cons_zero, List.set_cons_succ, List.map_cons, List.map_nil, List.cons_append, List.nil_append, List.append_nil, List.replicate, List.take_zero, List.take_nil, List.take_succ_cons, ↓bsome, ↓msome, Option.bind_some, Option.map_some, Option.bind_none, Option.map_none, Nat.sub_self, Int.cast_ofNat_Int, Nat.reduceAdd, Nat.reduceMul, Nat.reduceSub, Nat.reduceLeDiff, Nat.reduceLT, Nat.zero_add, Nat.add_zero, and_self, and_true, true_and, if_true, if_false, ↓reduceIte, ite_true, Bool.true_eq_false, Bool.false_eq_true, beq_self_eq_true, Bool.and_self, Bool.not_true, Bool.not_false, decide_true, decide_false, gLen, gTyIs, gTyNot, tyOf, gNeg, gPlus, DL.gSub, gCmp, gInt, gAbs, gTuple, gMax, gMin, gGcd, LIM, gIx, $as,*])
/-! polynomials -/
theorem nts_len (v : List Int) : (nts v).length = v.length := by unfold nts; rw [List.length_map]
theorem atI_nts {v : List Int} {j : Nat} (h : j < v.length) : atI (nts v) (j : Nat) = some (.int (v.getD j 0)) := by
  unfold atI ixN
  rw [if_pos (by omega), nts_len, if_pos (by omega)]
  show (nts v)[((j : Nat) : Int).toNat]? = _
  rw [Int.toNat_natCast]
  unfold nts
  rw [List.getElem?_map, List.getElem?_eq_getElem h, List.getD_eq_getElem?_getD, List.getElem?_eq_getElem h]
  rfl
theorem ixN_nat {n j : Nat} (h : j < n) : ixN n (j : Nat) = some j := by
  unfold ixN
  rw [if_pos (by omega), if_pos (by omega), Int.toNat_natCast]
theorem cutD_take {xs : List PyData} {m : Nat} (h : m ≤ xs.length) : cutD xs none (some (m : Nat)) = xs.take m := by
  unfold cutD
  rw [HT.sIx_nat, HT.sIx_none, List.drop_zero, Nat.sub_zero, Nat.min_eq_left h]
abbrev TrT : FT := (fAndT (fTru (fOp (gCmp fun i j => decide (j < i)) (fVar 1) (fLit (.int 0)))) (fTru (fOp gEq (fOp gIx (fVar 0) (fOp gSub (fVar 1) (fLit (.int 1)))) (fLit (.int 0)))))
abbrev TrB : FS := (fAug 1 (gAug fun i j => i - j) (fLit (.int 1)))
theorem tr_go (v : List Int) : ∀ n : Nat, n ≤ v.length → ∃ m, m ≤ n ∧ whileGo TrT TrB (n + 1) ⟨[some (.dat (.list (nts v))), some (.dat (.int (n : Nat)))], []⟩ = some (.nx ⟨[some (.dat (.list (nts v))), some (.dat (.int (m : Nat)))], []⟩) ∧ (∀ k, m ≤ k → k < n → v.getD k 0 = 0) ∧ (m = 0 ∨ v.getD (m - 1) 0 ≠ 0)
  | 0, _ => by
    refine ⟨0, Nat.le_refl _, ?_, fun k h1 h2 => absurd h2 (by omega), .inl rfl⟩
    have q0 : decide ((0 : Int) < 0) = false := rfl
    have ht : TrT ⟨[some (.dat (.list (nts v))), some (.dat (.int ((0 : Nat) : Int)))], []⟩ = some (false, []) := by
      simp! [Int.natCast_zero, Int.ofNat_zero, q0]
    unfold whileGo
    rw [ht]
    rfl
  | n + 1, h => by
    have ha := atI_nts (v := v) (j := n) (by omega)
    have hp : decide ((0 : Int) < ((n + 1 : Nat) : Int)) = true := decide_eq_true (by omega)
    have hs : ((n + 1 : Nat) : Int) - 1 = (n : Nat) := by omega
    have ht : TrT ⟨[some (.dat (.list (nts v))), some (.dat (.int ((n + 1 : Nat) : Int)))], []⟩ = some (v.getD n 0 == 0, []) := by
      generalize hN : ((n + 1 : Nat) : Int) = N at *
      simp! [hp, hs, gIx, ha, gEq_int]
    by_cases hz : v.getD n 0 = 0
    · obtain ⟨m, hm, e, h1, h2⟩ := tr_go v n (by omega)
      refine ⟨m, by omega, ?_, fun k k1 k2 => ?_, h2⟩
      · have hb : TrB ⟨[some (.dat (.list (nts v))), some (.dat (.int ((n + 1 : Nat) : Int)))], []⟩ = some (.nx ⟨[some (.dat (.list (nts v))), some (.dat (.int (n : Nat)))], []⟩) := by
          generalize hN : ((n + 1 : Nat) : Int) = N at *
          simp! [hs]
        have hz' : (v.getD n 0 == 0) = true := beq_iff_eq.mpr hz
        rw [hz'] at ht
        unfold whileGo
        rw [ht]
        simp only [Option.bind_some, if_true]
        rw [hb]
        exact e
      · by_cases hk : k < n
        · exact h1 k k1 hk
        · have : k = n := by omega
          subst this
          exact hz
    · refine ⟨n + 1, Nat.le_refl _, ?_, fun k k1 k2 => absurd k2 (by omega), .inr hz⟩
      have hz' : (v.getD n 0 == 0) = false := beq_eq_false_iff_ne.mpr hz
      rw [hz'] at ht
      unfold whileGo
      rw [ht]
      rfl
theorem w_trimmed {v : List Int} (h : v.length ≤ 1000) : ∃ m, m ≤ v.length ∧ F_trimmed [.dat (.list (nts v))] [] = some (.dat (.tuple (nts (v.take m))), []) ∧ (∀ k, m ≤ k → v.getD k 0 = 0) ∧ (m = 0 ∨ v.getD (m - 1) 0 ≠ 0) := by
  obtain ⟨m, hm, e, h1, h2⟩ := tr_go v v.length (Nat.le_refl _)
  refine ⟨m, hm, ?_, fun k hk => ?_, h2⟩
  · have w := wh_ok e (by
      have : (1001 : Nat) ≤ 2 ^ 10000 := Nat.le_trans (by decide : 1001 ≤ 2 ^ 10) (Nat.pow_le_pow_right (by decide) (by decide))
      omega)
    have a1 : (fSet 1 (fBi gLen (fConsA (fVar 0) fNilA))) ⟨[some (.dat (.list (nts v))), none], []⟩ = some (.nx ⟨[some (.dat (.list (nts v))), some (.dat (.int (v.length : Nat)))], []⟩) := by
      have hl := nts_len v
      simp! [hl]
    have ec : cutD (nts v) none (some ((m : Nat) : Int)) = nts (v.take m) := by
      rw [cutD_take (by rw [nts_len]; exact hm)]
      unfold nts
      rw [List.map_take]
    have e0 : b_trimmed = fSeq (fSet 1 (fBi gLen (fConsA (fVar 0) fNilA))) (fSeq (fWhile TrT TrB) (fRet (fBi gTuple (fConsA (fSl (fVar 0) fNoPart (fPart (fVar 1))) fNilA)))) := rfl
    refine fn_ok (np := 1) (nN := 2) (n0 := 0) (c := []) ?_ ⟨rfl, rfl⟩ rfl
    rw [e0]
    refine (seq_nx a1).trans ((seq_nx w).trans ?_)
    simp! [ec]
  · by_cases hk2 : k < v.length
    · exact h1 k hk hk2
    · rw [List.getD_eq_getElem?_getD, List.getElem?_eq_none (by omega)]
      rfl
/-- the product's numbers -/
def cvs (f : Nat → Int) : Nat → Int
  | 0 => 0
  | n + 1 => cvs f n + f n
def cv (c d : Nat → Int) (k : Nat) : Int := cvs (fun i => c i * d (k - i)) (k + 1)
theorem cvs_zero {f : Nat → Int} : ∀ n, (∀ i, i < n → f i = 0) → cvs f n = 0
  | 0, _ => rfl
  | n + 1, h => by
    unfold cvs
    rw [cvs_zero n fun i hi => h i (by omega), h n (by omega)]; rfl
theorem cvs_sz {m : Nat} {f : Nat → Int} (h : ∀ i, Sz m (f i)) : ∀ n, Sz (m + n) (cvs f n)
  | 0 => sz_0.by _ (by omega)
  | n + 1 => by
    unfold cvs
    exact ((cvs_sz h n).add ((h n).by (m + n) (by omega))).by _ (by omega)
abbrev InB : FS := (fAugC 2 (fOp gPlus (fVar 3) (fVar 5)) (gAug fun i j => i + j) (fOp gMul (fVar 4) (fVar 6)))
theorem in_1 {X Y : PyData} {acc : List Int} {i j : Nat} {x y : Int} (hi : i + j < acc.length) (hm : gMul (.int x) (.int y) = some (.int (x * y))) :
    InB ⟨[some (.dat X), some (.dat Y), some (.cel 0), some (.dat (.int (i : Nat))), some (.dat (.int x)), some (.dat (.int (j : Nat))), some (.dat (.int y))], [nts acc]⟩ =
      some (.nx ⟨[some (.dat X), some (.dat Y), some (.cel 0), some (.dat (.int (i : Nat))), some (.dat (.int x)), some (.dat (.int (j : Nat))), some (.dat (.int y))], [nts (acc.set (i + j) (acc.getD (i + j) 0 + x * y))]⟩) := by
  have ha := atI_nts hi
  have hx : ixN (nts acc).length ((i + j : Nat) : Int) = some (i + j) := ixN_nat (by rw [nts_len]; exact hi)
  have hc : ((i : Nat) : Int) + (j : Nat) = ((i + j : Nat) : Int) := by omega
  have hs : (nts acc).set (i + j) (.int (acc.getD (i + j) 0 + x * y)) = nts (acc.set (i + j) (acc.getD (i + j) 0 + x * y)) := by
    unfold nts
    rw [List.map_set]
  generalize hij : ((i + j : Nat) : Int) = J at *
  unfold InB
  simp! [fAugC, hc, ha, hm, hx, hs]
theorem getD_set {v : List Int} {k j : Nat} {z : Int} (h : j < v.length) : (v.set j z).getD k 0 = if k = j then z else v.getD k 0 := by
  rw [List.getD_eq_getElem?_getD, List.getElem?_set, List.getD_eq_getElem?_getD]
  by_cases hk : j = k
  · subst hk
    rw [if_pos rfl, if_pos h, if_pos rfl]; rfl
  · rw [if_neg hk, if_neg fun e => hk e.symm]
def Dt : Option SV → Prop
  | some (.cel _) => False
  | _ => True
theorem noCel_dt {o : Option SV} (h : Dt o) (k : Nat) (r : Slots) : noCel k (o :: r) = noCel k r := by
  cases o with
  | none => rfl
  | some v => cases v <;> first | rfl | exact False.elim h
theorem in_for {X Y : PyData} {i : Nat} {x : Int} : ∀ (ys : List Int) (j : Nat) (acc : List Int) (x5 x6 : Option SV), Dt x5 → Dt x6 → i + j + ys.length ≤ acc.length → (∀ y ∈ ys, gMul (.int x) (.int y) = some (.int (x * y))) →
    ∃ acc' y5 y6, forGo (aTup 2 (aCons (aName 5) (aCons (aName 6) aNil))) InB (enumD j (nts ys)) ⟨[some (.dat X), some (.dat Y), some (.cel 0), some (.dat (.int (i : Nat))), some (.dat (.int x)), x5, x6], [nts acc]⟩ = some (.nx ⟨[some (.dat X), some (.dat Y), some (.cel 0), some (.dat (.int (i : Nat))), some (.dat (.int x)), y5, y6], [nts acc']⟩) ∧
      Dt y5 ∧ Dt y6 ∧ acc'.length = acc.length ∧ ∀ k, acc'.getD k 0 = acc.getD k 0 + (if i + j ≤ k then x * ys.getD (k - (i + j)) 0 else 0)
  | [], j, acc, x5, x6, d5, d6, _, _ => ⟨acc, x5, x6, rfl, d5, d6, rfl, fun k => by
      have : ([] : List Int).getD (k - (i + j)) 0 = 0 := by simp
      rw [this]
      split <;> simp⟩
  | y :: ys, j, acc, x5, x6, d5, d6, hl, hm => by
    rw [List.length_cons] at hl
    have e := in_1 (X := X) (Y := Y) (acc := acc) (i := i) (j := j) (x := x) (y := y) (by omega) (hm y List.mem_cons_self)
    obtain ⟨acc', y5, y6, ih, e5, e6, h1, h2⟩ := in_for (X := X) (Y := Y) (i := i) (x := x) ys (j + 1) (acc.set (i + j) (acc.getD (i + j) 0 + x * y)) (some (.dat (.int (j : Nat)))) (some (.dat (.int y))) trivial trivial (by rw [List.length_set]; omega) fun z hz => hm z (List.mem_cons_of_mem _ hz)
    refine ⟨acc', y5, y6, ?_, e5, e6, by rw [h1, List.length_set], fun k => ?_⟩
    · have en : enumD j (nts (y :: ys)) = .tuple [.int (j : Nat), .int y] :: enumD (j + 1) (nts ys) := rfl
      rw [en]
      generalize InB = b at e ih ⊢
      simp only [forGo, aTup, aCons, aName, aNil, setD, List.length_cons, List.length_nil, List.set_cons_succ, List.set_cons_zero, Option.bind_some, Nat.reduceAdd, and_self, if_true, ↓reduceIte, e]
      exact ih
    · rw [h2, getD_set (by omega)]
      by_cases hk : k = i + j
      · subst hk
        rw [if_pos rfl, if_neg (by omega), if_pos (Nat.le_refl _), Nat.sub_self]
        simp
      · rw [if_neg hk]
        by_cases hk2 : i + j ≤ k
        · rw [if_pos (by omega), if_pos hk2, show k - (i + j) = (k - (i + (j + 1))) + 1 by omega, List.getD_cons_succ]
        · rw [if_neg (by omega), if_neg hk2]
abbrev OuB : FS := (fFor (fEnum (fConsA (fVar 1) fNilA)) (aTup 2 (aCons (aName 5) (aCons (aName 6) aNil))) InB)
def smx (w : Nat → Int) : Nat → List Int → Nat → Int
  | _, [], _ => 0
  | i, x :: xs, k => (if i ≤ k then x * w (k - i) else 0) + smx w (i + 1) xs k
theorem ou_for {X : PyData} {w : List Int} : ∀ (xs : List Int) (i : Nat) (acc : List Int) (x3 x4 x5 x6 : Option SV), Dt x3 → Dt x4 → Dt x5 → Dt x6 → i + xs.length + w.length ≤ acc.length → (∀ x ∈ xs, ∀ y ∈ w, gMul (.int x) (.int y) = some (.int (x * y))) →
    ∃ acc' y3 y4 y5 y6, forGo (aTup 2 (aCons (aName 3) (aCons (aName 4) aNil))) OuB (enumD i (nts xs)) ⟨[some (.dat X), some (.dat (.tuple (nts w))), some (.cel 0), x3, x4, x5, x6], [nts acc]⟩ = some (.nx ⟨[some (.dat X), some (.dat (.tuple (nts w))), some (.cel 0), y3, y4, y5, y6], [nts acc']⟩) ∧
      Dt y3 ∧ Dt y4 ∧ Dt y5 ∧ Dt y6 ∧ acc'.length = acc.length ∧ ∀ k, acc'.getD k 0 = acc.getD k 0 + smx (fun j => w.getD j 0) i xs k
  | [], i, acc, x3, x4, x5, x6, d3, d4, d5, d6, _, _ => ⟨acc, x3, x4, x5, x6, rfl, d3, d4, d5, d6, rfl, fun k => by unfold smx; omega⟩
  | x :: xs, i, acc, x3, x4, x5, x6, d3, d4, d5, d6, hl, hm => by
    rw [List.length_cons] at hl
    obtain ⟨acc1, z5, z6, e, g5, g6, h1, h2⟩ := in_for (X := X) (Y := .tuple (nts w)) (i := i) (x := x) w 0 acc x5 x6 d5 d6 (by omega) (hm x List.mem_cons_self)
    obtain ⟨acc', y3, y4, y5, y6, ih, e3, e4, e5, e6, h3, h4⟩ := ou_for (X := X) (w := w) xs (i + 1) acc1 (some (.dat (.int (i : Nat)))) (some (.dat (.int x))) z5 z6 trivial trivial g5 g6 (by omega) fun a ha => hm a (List.mem_cons_of_mem _ ha)
    refine ⟨acc', y3, y4, y5, y6, ?_, e3, e4, e5, e6, by omega, fun k => ?_⟩
    · have en : enumD i (nts (x :: xs)) = .tuple [.int (i : Nat), .int x] :: enumD (i + 1) (nts xs) := rfl
      have eo : OuB ⟨[some (.dat X), some (.dat (.tuple (nts w))), some (.cel 0), some (.dat (.int (i : Nat))), some (.dat (.int x)), x5, x6], [nts acc]⟩ = some (.nx ⟨[some (.dat X), some (.dat (.tuple (nts w))), some (.cel 0), some (.dat (.int (i : Nat))), some (.dat (.int x)), z5, z6], [nts acc1]⟩) := e
      rw [en]
      generalize OuB = b at eo ih ⊢
      simp only [forGo, aTup, aCons, aName, aNil, setD, List.length_cons, List.length_nil, List.set_cons_succ, List.set_cons_zero, Option.bind_some, Nat.reduceAdd, and_self, if_true, ↓reduceIte, eo]
      exact ih
    · rw [h4, h2]
      show _ = _ + ((if i ≤ k then x * w.getD (k - i) 0 else 0) + smx _ (i + 1) xs k)
      rw [Nat.add_zero]
      omega
theorem cvs_front (f : Nat → Int) : ∀ n, cvs f (n + 1) = f 0 + cvs (fun t => f (t + 1)) n
  | 0 => by simp [cvs]
  | n + 1 => by
    have h := cvs_front f n
    show cvs f (n + 1) + f (n + 1) = f 0 + (cvs (fun t => f (t + 1)) n + f (n + 1))
    rw [h]; omega
theorem smx_cvs (w : Nat → Int) (k : Nat) : ∀ (xs : List Int) (i : Nat), smx w i xs k = cvs (fun t => xs.getD t 0 * w (k - i - t)) (k + 1 - i)
  | [], i => by
    unfold smx
    rw [cvs_zero]
    intro t _
    simp
  | x :: xs, i => by
    unfold smx
    rw [smx_cvs w k xs (i + 1)]
    by_cases h : i ≤ k
    · rw [if_pos h, show k + 1 - i = (k + 1 - (i + 1)) + 1 by omega, cvs_front]
      have e : ∀ t, k - (i + 1) - t = k - i - (t + 1) := fun t => by omega
      simp only [List.getD_cons_zero, List.getD_cons_succ, Nat.sub_zero, e]
    · rw [if_neg h, show k + 1 - i = 0 by omega, show k + 1 - (i + 1) = 0 by omega]; rfl
theorem smx_cv (w : Nat → Int) (k : Nat) (xs : List Int) : smx w 0 xs k = cv (fun t => xs.getD t 0) w k := smx_cvs w k xs 0
theorem frzk {n0 i k : Nat} {b : FS} {st : Sta} {xs : List PyData} (h1 : st.ds[i]? = some (some (.cel k))) (h2 : n0 ≤ k ∧ k + 1 = st.cs.length) (h3 : st.cs[k]? = some xs) (h4 : noCel k (st.ds.set i (some (.dat (.list xs)))) = true) : fFrz n0 i b st = b ⟨st.ds.set i (some (.dat (.list xs))), st.cs.dropLast⟩ := by
  unfold fFrz
  rw [h1]
  simp only [h3, Option.bind_some]
  rw [if_pos h2, if_pos h4]
/-- the tuple of a polynomial's numbers, of m bits, none behind the d-th -/
def Pol (d m : Nat) (c : Nat → Int) (x : PyData) : Prop := ∃ v : List Int, x = .tuple (nts v) ∧ v.length ≤ d + 1 ∧ (∀ k, v.getD k 0 = c k) ∧ ∀ k, Sz m (c k)
theorem nts_rep (n : Nat) : (List.replicate n [PyData.int 0]).flatten = nts (List.replicate n 0) := by
  unfold nts
  rw [List.map_replicate]
  induction n with
  | zero => rfl
  | succ n ih => rw [List.replicate_succ, List.flatten_cons, ih]; rfl
end PL


set_option Elab.async false
set_option linter.all false
set_option maxRecDepth 100000
set_option maxHeartbeats 4000000
set_option exponentiation.threshold 20000
namespace PL
open PySem PySem.Spec L2 DL
local macro_rules | `(tactic| simp! [$as,*]) => `(tactic| simp only [fThaw, fThawT, fThawL, thawD, thawO, noL, noLAll, fAug, gAug, fRev, fFnA, fCallV, fBot, fZip, zipD, gSum, intsOf, List.foldl_cons, List.foldl_nil, mkF, fRet, fRetL, fRetN, fSkip, fSeq, fNever, fSet, fAsg, fNew, fIfS, fDrop, fPar, fPar3, fSetc, fSetc2, fVar, fLit, fOp, fUn, fTup, fTup.datsOf, fLst, fNilA, fConsA, fStarA, fCelA, fOfL, fTru, fAndT, fOrT, fNotT, fAndV, fOrV, fNotV, fIf, fBi, fCall, fCallL, fCallFr, fPerm, callF, celOf, celsOk, norm, aName, aNil, aCons, aTup, setD, fSl, fIt, fItL, fItT, fFor, forGo, fLc, lcGo, fYes, wipeD, fCix, fList, fSlL, fPart, fNoPart, fChain, List.length_cons, List.length_nil, List.getElem?_cons_zero, List.getElem?_cons_succ, List.getElem?_nil, List.set_cons_zero, List.set_cons_succ, List.map_cons, List.map_nil, List.cons_append, List.nil_append, List.append_nil, List.replicate, List.take_zero, List.take_nil, List.take_succ_cons, ↓bsome, ↓msome, Option.bind_some, Option.map_some, Option.bind_none, Option.map_none, Nat.sub_self, Int.cast_ofNat_Int, Nat.reduceAdd, Nat.reduceMul, Nat.reduceSub, Nat.reduceLeDiff, Nat.reduceLT, Nat.zero_add, Nat.add_zero, and_self, and_true, true_and, if_true, if_false, ↓reduceIte, ite_true, Bool.true_eq_false, Bool.false_eq_true, beq_self_eq_true, Bool.and_self, Bool.not_true, Bool.not_false, decide_true, decide_false, gLen, gTyIs, gTyNot, tyOf, gNeg, gPlus, DL.gSub, gCmp, gInt, gAbs, gTuple, gMax, gMin, gGcd, LIM, gIx, $as,*])
theorem noCel_d (x : PyData) (k : Nat) (r : Slots) : noCel k (some (.dat x) :: r) = noCel k r := rfl
theorem repL_ok {fa : FL} {fb : FE} {st : Sta} {xs : List PyData} {k : Int} {c1 c : Cs} (e1 : fa st = some (xs, c1)) (e2 : fb ⟨st.ds, c1⟩ = some (.int k, c)) (h : rngOk k = true ∧ xs.length * k.toNat ≤ 100000) : fRepL fa fb st = some ((List.replicate k.toNat xs).flatten, c) := by
  unfold fRepL
  rw [e1]
  simp only [Option.bind_some]
  rw [e2]
  simp only [Option.bind_some]
  rw [if_pos h]
theorem len1_ok {n : Nat} (h : n ≤ 1000) : [PyData.int 0].length * (n : Int).toNat ≤ 100000 := by
  rw [Int.toNat_natCast, List.length_singleton, Nat.one_mul]
  exact Nat.le_trans h (by decide)
theorem wp_1 {v w : List Int} (hN : rngOk ((v.length + w.length : Nat) : Int) = true) (hL : v.length + w.length ≤ 1000) : (fNew 2 (fRepL (fLst (fConsA (fLit (.int 0)) fNilA)) (fOp gPlus (fBi gLen (fConsA (fVar 0) fNilA)) (fBi gLen (fConsA (fVar 1) fNilA))))) ⟨[some (.dat (.tuple (nts v))), some (.dat (.tuple (nts w))), none, none, none, none, none], []⟩ = some (.nx ⟨[some (.dat (.tuple (nts v))), some (.dat (.tuple (nts w))), some (.cel 0), none, none, none, none], [nts (List.replicate (v.length + w.length) 0)]⟩) := by
  have l1 := nts_len v
  have l2 := nts_len w
  have hc : ((v.length : Nat) : Int) + (w.length : Nat) = ((v.length + w.length : Nat) : Int) := by omega
  have hr := nts_rep (v.length + w.length)
  have e1 : (fLst (fConsA (fLit (.int 0)) fNilA)) ⟨[some (.dat (.tuple (nts v))), some (.dat (.tuple (nts w))), none, none, none, none, none], []⟩ = some ([.int 0], []) := by simp! []
  have e2 : (fOp gPlus (fBi gLen (fConsA (fVar 0) fNilA)) (fBi gLen (fConsA (fVar 1) fNilA))) ⟨[some (.dat (.tuple (nts v))), some (.dat (.tuple (nts w))), none, none, none, none, none], []⟩ = some (.int ((v.length + w.length : Nat) : Int), []) := by simp! [l1, l2, hc]
  generalize (fLst (fConsA (fLit (.int 0)) fNilA)) = fa at *
  generalize (fOp gPlus (fBi gLen (fConsA (fVar 0) fNilA)) (fBi gLen (fConsA (fVar 1) fNilA))) = fb at *
  have e3 := repL_ok (st := ⟨[some (.dat (.tuple (nts v))), some (.dat (.tuple (nts w))), none, none, none, none, none], []⟩) e1 e2 ⟨hN, len1_ok hL⟩
  rw [Int.toNat_natCast, hr] at e3
  unfold fNew
  rw [e3]
  rfl
theorem wp_2 {v w acc : List Int} {s : Sta} (e : forGo (aTup 2 (aCons (aName 3) (aCons (aName 4) aNil))) OuB (enumD 0 (nts v)) ⟨[some (.dat (.tuple (nts v))), some (.dat (.tuple (nts w))), some (.cel 0), none, none, none, none], [nts acc]⟩ = some (.nx s)) :
    (fFor (fEnum (fConsA (fVar 0) fNilA)) (aTup 2 (aCons (aName 3) (aCons (aName 4) aNil))) OuB) ⟨[some (.dat (.tuple (nts v))), some (.dat (.tuple (nts w))), some (.cel 0), none, none, none, none], [nts acc]⟩ = some (.nx s) := by
  have ee : (fEnum (fConsA (fVar 0) fNilA)) ⟨[some (.dat (.tuple (nts v))), some (.dat (.tuple (nts w))), some (.cel 0), none, none, none, none], [nts acc]⟩ = some (enumD 0 (nts v), [nts acc]) := rfl
  unfold fFor
  rw [ee]
  exact e
theorem wp_3 {X Y : PyData} {acc z : List Int} {y3 y4 y5 y6 : Option SV} (d3 : Dt y3) (d4 : Dt y4) (d5 : Dt y5) (d6 : Dt y6) (e3 : F_trimmed [.dat (.list (nts acc))] [] = some (.dat (.tuple (nts z)), [])) :
    (fFrz 0 2 (fRet (fCall F_trimmed (fConsA (fVar 2) fNilA)))) ⟨[some (.dat X), some (.dat Y), some (.cel 0), y3, y4, y5, y6], [nts acc]⟩ = some (.rt (.dat (.tuple (nts z))) []) := by
  refine (frzk (n0 := 0) (k := 0) (xs := nts acc) rfl ⟨Nat.le_refl _, rfl⟩ rfl ?_).trans ?_
  · show noCel 0 [some (.dat X), some (.dat Y), some (.dat (.list (nts acc))), y3, y4, y5, y6] = true
    rw [noCel_d, noCel_d, noCel_d, noCel_dt d3, noCel_dt d4, noCel_dt d5, noCel_dt d6]
    rfl
  · show (fRet (fCall F_trimmed (fConsA (fVar 2) fNilA))) ⟨[some (.dat X), some (.dat Y), some (.dat (.list (nts acc))), y3, y4, y5, y6], []⟩ = _
    simp! [e3]
theorem w_product {v w : List Int} (hv : v.length ≤ 100) (hw : w.length ≤ 100) (hm : ∀ x ∈ v, ∀ y ∈ w, gMul (.int x) (.int y) = some (.int (x * y))) :
    ∃ z : List Int, F_polynomial_product [.dat (.tuple (nts v)), .dat (.tuple (nts w))] [] = some (.dat (.tuple (nts z)), []) ∧ z.length ≤ v.length + w.length ∧ (∀ k, z.getD k 0 = if k < v.length + w.length then cv (fun t => v.getD t 0) (fun t => w.getD t 0) k else 0) ∧ (z = [] ∨ z.getD (z.length - 1) 0 ≠ 0) := by
  have hN : rngOk ((v.length + w.length : Nat) : Int) = true := rng_ok (by omega) (by omega)
  have hL : v.length + w.length ≤ 1000 := by omega
  obtain ⟨acc, y3, y4, y5, y6, e, d3, d4, d5, d6, h1, h2⟩ := ou_for (X := .tuple (nts v)) (w := w) v 0 (List.replicate (v.length + w.length) 0) none none none none trivial trivial trivial trivial (by rw [List.length_replicate]; omega) hm
  rw [List.length_replicate] at h1
  obtain ⟨m, m0, e3, m1, m2⟩ := w_trimmed (v := acc) (by omega)
  refine ⟨acc.take m, ?_, by rw [List.length_take]; omega, fun k => ?_, ?_⟩
  · have a1 := wp_1 (v := v) (w := w) hN hL
    have a2 := wp_2 e
    have a3 := wp_3 (X := .tuple (nts v)) (Y := .tuple (nts w)) d3 d4 d5 d6 e3
    have e0 : b_polynomial_product = fSeq (fNew 2 (fRepL (fLst (fConsA (fLit (.int 0)) fNilA)) (fOp gPlus (fBi gLen (fConsA (fVar 0) fNilA)) (fBi gLen (fConsA (fVar 1) fNilA))))) (fSeq (fFor (fEnum (fConsA (fVar 0) fNilA)) (aTup 2 (aCons (aName 3) (aCons (aName 4) aNil))) OuB) (fFrz 0 2 (fRet (fCall F_trimmed (fConsA (fVar 2) fNilA))))) := rfl
    refine fn_ok (np := 2) (nN := 7) (n0 := 0) (c := []) ?_ ⟨rfl, rfl⟩ rfl
    rw [e0]
    generalize OuB = ob at *
    exact (seq_nx a1).trans ((seq_nx a2).trans a3)
  · have hr : (List.replicate (v.length + w.length) (0 : Int)).getD k 0 = 0 := by
      rw [List.getD_eq_getElem?_getD, List.getElem?_replicate]
      split <;> rfl
    have ek := h2 k
    rw [hr, Int.zero_add, smx_cv] at ek
    by_cases hk : k < m
    · rw [if_pos (by omega), ← ek, List.getD_eq_getElem?_getD, List.getElem?_take_of_lt hk, List.getD_eq_getElem?_getD]
    · have hz := m1 k (by omega)
      have hz2 : (acc.take m).getD k 0 = 0 := by
        rw [List.getD_eq_getElem?_getD, List.getElem?_eq_none (by rw [List.length_take]; omega)]; rfl
      rw [hz2]
      split
      · rw [← ek, hz]
      · rfl
  · rcases m2 with hm0 | hm0
    · left
      rw [hm0, List.take_zero]
    · right
      by_cases hz : m = 0
      · exact absurd (m1 (m - 1) (by omega)) hm0
      · rw [List.length_take, Nat.min_eq_left m0, List.getD_eq_getElem?_getD, List.getElem?_take_of_lt (by omega), ← List.getD_eq_getElem?_getD]
        exact hm0
theorem pol_zero {d m : Nat} {c : Nat → Int} {x : PyData} (h : Pol d m c x) {k : Nat} (hk : d < k) : c k = 0 := by
  obtain ⟨v, _, hl, hc, _⟩ := h
  rw [← hc k, List.getD_eq_getElem?_getD, List.getElem?_eq_none (by omega)]; rfl
theorem w_pol {d e m n : Nat} {c b : Nat → Int} {x y : PyData} (hx : Pol d m c x) (hy : Pol e n b y) (hd : d + e ≤ 50) (hm : m ≤ 3000) (hn : n ≤ 3000) : ∃ z, F_polynomial_product [.dat x, .dat y] [] = some (.dat z, []) ∧ Pol (d + e) (m + n + d + e + 1) (cv c b) z := by
  have zx := fun k => pol_zero hx (k := k)
  have zy := fun k => pol_zero hy (k := k)
  obtain ⟨v, rfl, hl, hc, hs⟩ := hx
  obtain ⟨w, rfl, hl2, hc2, hs2⟩ := hy
  have sv : ∀ a ∈ v, Sz m a := fun a ha => by
    obtain ⟨k, hk, rfl⟩ := List.getElem_of_mem ha
    have := hc k
    rw [List.getD_eq_getElem?_getD, List.getElem?_eq_getElem hk] at this
    rw [show v[k] = c k from this]
    exact hs k
  have sw : ∀ a ∈ w, Sz n a := fun a ha => by
    obtain ⟨k, hk, rfl⟩ := List.getElem_of_mem ha
    have := hc2 k
    rw [List.getD_eq_getElem?_getD, List.getElem?_eq_getElem hk] at this
    rw [show w[k] = b k from this]
    exact hs2 k
  obtain ⟨z, ez, z1, z2, z3⟩ := w_product (v := v) (w := w) (by omega) (by omega) fun a ha a' ha' => gMul_ok ((sv a ha).sm (by omega)) ((sw a' ha').sm (by omega))
  have ec : (fun t => v.getD t 0) = c := funext hc
  have eb : (fun t => w.getD t 0) = b := funext hc2
  rw [ec, eb] at z2
  have far : ∀ k, d + e < k → cv c b k = 0 := fun k hk => cvs_zero _ fun i _ => by
    by_cases hi : d < i
    · rw [zx i hi, Int.zero_mul]
    · rw [zy (k - i) (by omega), Int.mul_zero]
  have zk : ∀ k, z.getD k 0 = cv c b k := fun k => by
    rw [z2 k]
    split
    · rfl
    · refine (cvs_zero _ fun i _ => ?_).symm
      by_cases hi : i < v.length
      · have : w.getD (k - i) 0 = 0 := by rw [List.getD_eq_getElem?_getD, List.getElem?_eq_none (by omega)]; rfl
        rw [← hc2, this, Int.mul_zero]
      · have : v.getD i 0 = 0 := by rw [List.getD_eq_getElem?_getD, List.getElem?_eq_none (by omega)]; rfl
        rw [← hc, this, Int.zero_mul]
  refine ⟨_, ez, z, rfl, ?_, zk, fun k => ?_⟩
  · rcases z3 with rfl | hz
    · simp
    · refine Classical.byContradiction fun hn => hz ?_
      rw [zk]
      exact far _ (by omega)
  · by_cases hk : k ≤ d + e
    · have := cvs_sz (m := m + n) (f := fun i => c i * b (k - i)) (fun i => (hs i).mul (hs2 (k - i))) (k + 1)
      exact this.by _ (by omega)
    · rw [far k (by omega)]
      exact sz_0.by _ (by omega)
end PL


set_option Elab.async false
set_option linter.all false
set_option maxRecDepth 100000
set_option maxHeartbeats 4000000
set_option exponentiation.threshold 20000
namespace PL
open PySem PySem.Spec L2 DL
local macro_rules | `(tactic| simp! [$as,*]) => `(tactic| simp only [fThaw, fThawT, fThawL, thawD, thawO, noL, noLAll, fAug, gAug, fRev, fFnA, fCallV, fBot, fZip, zipD, gSum, intsOf, List.foldl_cons, List.foldl_nil, mkF, fRet, fRetL, fRetN, fSkip, fSeq, fNever, fSet, fAsg, fNew, fIfS, fDrop, fPar, fPar3, fSetc, fSetc2, fVar, fLit, fOp, fUn, fTup, fTup.datsOf, fLst, fNilA, fConsA, fStarA, fCelA, fOfL, fTru, fAndT, fOrT, fNotT, fAndV, fOrV, fNotV, fIf, fBi, fCall, fCallL, fCallFr, fPerm, callF, celOf, celsOk, norm, aName, aNil, aCons, aTup, setD, fSl, fIt, fItL, fItT, fFor, forGo, fLc, lcGo, fYes, wipeD, fCix, fList, fSlL, fPart, fNoPart, fChain, List.length_cons, List.length_nil, List.getElem?_cons_zero, List.getElem?_cons_succ, List.getElem?_nil, List.set_cons_zero, List.set_cons_succ, List.map_cons, List.map_nil, List.cons_append, List.nil_append, List.append_nil, List.replicate, List.take_zero, List.take_nil, List.take_succ_cons, ↓bsome, ↓msome, Option.bind_some, Option.map_some, Option.bind_none, Option.map_none, Nat.sub_self, Int.cast_ofNat_Int, Nat.reduceAdd, Nat.reduceMul, Nat.reduceSub, Nat.reduceLeDiff, Nat.reduceLT, Nat.zero_add, Nat.add_zero, and_self, and_true, true_and, if_true, if_false, ↓reduceIte, ite_true, Bool.true_eq_false, Bool.false_eq_true, beq_self_eq_true, Bool.and_self, Bool.not_true, Bool.not_false, decide_true, decide_false, gLen, gTyIs, gTyNot, tyOf, gNeg, gPlus, DL.gSub, gCmp, gInt, gAbs, gTuple, gMax, gMin, gGcd, LIM, gIx, $as,*])
def one0 : Nat → Int
  | 0 => 1
  | _ => 0
def lin (a b : Int) : Nat → Int
  | 0 => a
  | 1 => b
  | _ => 0
theorem pol_one : Pol 0 2 one0 (.tuple [.int 1]) := ⟨[1], rfl, by decide, fun k => by cases k <;> rfl, fun k => by
  cases k with
  | zero => exact sz_1.by _ (by decide)
  | succ k => exact sz_0.by _ (by decide)⟩
theorem pol_lin {m : Nat} {a b : Int} (sa : Sz m a) (sb : Sz m b) : Pol 1 m (lin a b) (T2 a b) := ⟨[a, b], rfl, by simp, fun k => by
  match k with
  | 0 => rfl
  | 1 => rfl
  | k + 2 => rfl, fun k => by
  match k with
  | 0 => exact sa
  | 1 => exact sb
  | k + 2 => exact sz_0.by _ (by omega)⟩
end PL


set_option Elab.async false
set_option linter.all false
set_option maxRecDepth 100000
set_option maxHeartbeats 4000000
set_option exponentiation.threshold 20000
namespace PL
open PySem PySem.Spec L2 DL
local macro_rules | `(tactic| simp! [$as,*]) => `(tactic| simp only [fThaw, fThawT, fThawL, thawD, thawO, noL, noLAll, fAug, gAug, fRev, fFnA, fCallV, fBot, fZip, zipD, gSum, intsOf, List.foldl_cons, List.foldl_nil, mkF, fRet, fRetL, fRetN, fSkip, fSeq, fNever, fSet, fAsg, fNew, fIfS, fDrop, fPar, fPar3, fSetc, fSetc2, fVar, fLit, fOp, fUn, fTup, fTup.datsOf, fLst, fNilA, fConsA, fStarA, fCelA, fOfL, fTru, fAndT, fOrT, fNotT, fAndV, fOrV, fNotV, fIf, fBi, fCall, fCallL, fCallFr, fPerm, callF, celOf, celsOk, norm, aName, aNil, aCons, aTup, setD, fSl, fIt, fItL, fItT, fFor, forGo, fLc, lcGo, fYes, wipeD, fCix, fList, fSlL, fPart, fNoPart, fChain, List.length_cons, List.length_nil, List.getElem?_cons_zero, List.getElem?_cons_succ, List.getElem?_nil, List.set_cons_zero, List.set_cons_succ, List.map_cons, List.map_nil, List.cons_append, List.nil_append, List.append_nil, List.replicate, List.take_zero, List.take_nil, List.take_succ_cons, ↓bsome, ↓msome, Option.bind_some, Option.map_some, Option.bind_none, Option.map_none, Nat.sub_self, Int.cast_ofNat_Int, Nat.reduceAdd, Nat.reduceMul, Nat.reduceSub, Nat.reduceLeDiff, Nat.reduceLT, Nat.zero_add, Nat.add_zero, and_self, and_true, true_and, if_true, if_false, ↓reduceIte, ite_true, Bool.true_eq_false, Bool.false_eq_true, beq_self_eq_true, Bool.and_self, Bool.not_true, Bool.not_false, decide_true, decide_false, gLen, gTyIs, gTyNot, tyOf, gNeg, gPlus, DL.gSub, gCmp, gInt, gAbs, gTuple, gMax, gMin, gGcd, LIM, gIx, $as,*])
abbrev T6 (a b c d e f : Int) : PyData := .tuple [.int a, .int b, .int c, .int d, .int e, .int f]
theorem sz_dvd {m : Nat} {a b : Int} (h : Sz m b) (hb : 0 < b) (hd : a ∣ b) (ha : 0 < a) : Sz m a := by
  have h1 : a ≤ b := Int.le_of_dvd hb hd
  have h2 := h.sm (m := m) (Nat.le_refl _)
  refine Sm.sz ?_
  unfold Sm at *
  omega
theorem lcm_ok {m : Nat} {a b : Int} (sa : Sz m a) (sb : Sz m b) (sl : Sz m ((Nat.lcm a.natAbs b.natAbs : Nat) : Int)) (hm : m ≤ 3000) (h0 : 1 ≤ m) (ha : 0 < a) (hb : 0 < b) : gLcm [.int a, .int b] = some (.int ((Nat.lcm a.natAbs b.natAbs : Nat) : Int)) := by
  have a1 : a.natAbs < 2 ^ m := sa.sm (m := m) (Nat.le_refl _)
  have b1 : b.natAbs < 2 ^ m := sb.sm (m := m) (Nat.le_refl _)
  have l1 : ((Nat.lcm a.natAbs b.natAbs : Nat) : Int).natAbs < 2 ^ m := sl.sm (m := m) (Nat.le_refl _)
  rw [Int.natAbs_natCast] at l1
  have lg : ∀ n : Nat, n ≠ 0 → n < 2 ^ m → n.log2 ≤ 3000 := fun n h0 h => by
    have := (Nat.log2_lt h0).mpr h
    omega
  have hl0 : Nat.lcm a.natAbs b.natAbs ≠ 0 := Nat.lcm_ne_zero (by omega) (by omega)
  have ok : lcmOk a b = true := by
    unfold lcmOk
    rw [decide_eq_true_eq]
    refine ⟨?_, ?_, ?_⟩
    · exact Nat.le_trans (lg _ (by omega) (by omega)) (by decide)
    · exact Nat.le_trans (lg _ (by omega) (by omega)) (by decide)
    · exact Nat.lt_of_le_of_lt (lg _ hl0 l1) (by decide)
  show (if lcmOk a b = true then _ else _) = _
  rw [if_pos ok]
abbrev LcB : FS := (fSet 2 (fBi gLcm (fConsA (fVar 2) (fConsA (fOp gIx (fVar 3) (fLit (.int 1))) fNilA))))
theorem lc_for {m : Nat} {N : Int} {X Y : PyData} (sN : Sz m N) (hN : 0 < N) (hm : m ≤ 3000) (h1 : 1 ≤ m) : ∀ (ws : List (Int × Int)) (B : Int) (x3 : Option SV), 0 < B → B ∣ N → (∀ w ∈ ws, 0 < w.2 ∧ w.2 ∣ N) →
    ∃ B' y3, forGo (aName 3) LcB (ws.map fun w => T2 w.1 w.2) ⟨[some (.dat X), some (.dat Y), some (.dat (.int B)), x3, none, none, none], []⟩ = some (.nx ⟨[some (.dat X), some (.dat Y), some (.dat (.int B')), y3, none, none, none], []⟩) ∧ 0 < B' ∧ B' ∣ N ∧ B ∣ B' ∧ ∀ w ∈ ws, w.2 ∣ B'
  | [], B, x3, b0, bN, _ => ⟨B, x3, rfl, b0, bN, Int.dvd_refl _, fun w h => by simp at h⟩
  | w :: ws, B, x3, b0, bN, hw => by
    obtain ⟨w0, wN⟩ := hw w List.mem_cons_self
    have dN : ((Nat.lcm B.natAbs w.2.natAbs : Nat) : Int) ∣ N := by
      rw [← Int.natAbs_dvd_natAbs, Int.natAbs_natCast]
      exact Nat.lcm_dvd (Int.natAbs_dvd_natAbs.mpr bN) (Int.natAbs_dvd_natAbs.mpr wN)
    have l0 : (0 : Int) < ((Nat.lcm B.natAbs w.2.natAbs : Nat) : Int) := by
      have := Nat.lcm_pos (show 0 < B.natAbs by omega) (show 0 < w.2.natAbs by omega)
      omega
    have lc := lcm_ok (sz_dvd sN hN bN b0) (sz_dvd sN hN wN w0) (sz_dvd sN hN dN l0) hm h1 b0 w0
    have d1 : B ∣ ((Nat.lcm B.natAbs w.2.natAbs : Nat) : Int) := by
      rw [← Int.natAbs_dvd_natAbs, Int.natAbs_natCast]; exact Nat.dvd_lcm_left _ _
    have d2 : w.2 ∣ ((Nat.lcm B.natAbs w.2.natAbs : Nat) : Int) := by
      rw [← Int.natAbs_dvd_natAbs, Int.natAbs_natCast]; exact Nat.dvd_lcm_right _ _
    generalize ((Nat.lcm B.natAbs w.2.natAbs : Nat) : Int) = L at *
    obtain ⟨B', y3, ih, p0, pN, pB, pw⟩ := lc_for (X := X) (Y := Y) sN hN hm h1 ws L (some (.dat (T2 w.1 w.2))) l0 dN fun v hv => hw v (List.mem_cons_of_mem _ hv)
    refine ⟨B', y3, ?_, p0, pN, Int.dvd_trans d1 pB, fun v hv => ?_⟩
    · have e : LcB ⟨[some (.dat X), some (.dat Y), some (.dat (.int B)), some (.dat (T2 w.1 w.2)), none, none, none], []⟩ = some (.nx ⟨[some (.dat X), some (.dat Y), some (.dat (.int L)), some (.dat (T2 w.1 w.2)), none, none, none], []⟩) := by
        simp! [gIx, ix2_1, lc]
      generalize LcB = b at e ih ⊢
      simp only [List.map_cons, forGo, aName, setD, List.set_cons_succ, List.set_cons_zero, Option.bind_some, e]
      exact ih
    · rcases List.mem_cons.mp hv with rfl | hv
      · exact Int.dvd_trans d2 pB
      · exact pw v hv
theorem repE_ok {fa : FL} {fb : FE} {st : Sta} {xs : List PyData} {k : Int} {c1 c : Cs} (e1 : fa st = some (xs, c1)) (e2 : fb ⟨st.ds, c1⟩ = some (.int k, c)) (h : rngOk k = true ∧ xs.length * k.toNat ≤ 100000) : fRep fa fb st = some (.list (List.replicate k.toNat xs).flatten, c) := by
  unfold fRep
  rw [e1]
  simp only [Option.bind_some]
  rw [e2]
  simp only [Option.bind_some]
  rw [if_pos h]
theorem rep0 (k : Nat) (h : k ≤ 5) (ds : Slots) {fb : FE} {c : Cs} (e2 : fb ⟨ds, []⟩ = some (.int (k : Nat), c)) : (fRep (fLst (fConsA (fLit (.int 0)) fNilA)) fb) ⟨ds, []⟩ = some (.list (nts (List.replicate k 0)), c) := by
  have e1 : (fLst (fConsA (fLit (.int 0)) fNilA)) ⟨ds, []⟩ = some ([.int 0], []) := by
    simp! []
  have e3 := repE_ok (st := ⟨ds, []⟩) e1 e2 ⟨rng_ok (by omega) (by omega), len1_ok (by omega)⟩
  rw [Int.toNat_natCast, nts_rep] at e3
  exact e3
abbrev WhE : FS := (fSet 6 (fOfL (fLst (fStarA (fVar 5) (fStarA (fRep (fLst (fConsA (fLit (.int 0)) fNilA)) (fOp gSub (fLit (.int 5)) (fBi gLen (fConsA (fVar 5) fNilA)))) fNilA)))))
theorem whole_ok {m : Nat} {c : Nat → Int} {W : PyData} (h : Pol 4 m c W) {x0 x1 x2 x3 x4 x6 : Option SV} : WhE ⟨[x0, x1, x2, x3, x4, some (.dat W), x6], []⟩ = some (.nx ⟨[x0, x1, x2, x3, x4, some (.dat W), some (.dat (L5 (c 0) (c 1) (c 2) (c 3) (c 4)))], []⟩) := by
  obtain ⟨v, rfl, hl, hc, _⟩ := h
  have es : (fOp gSub (fLit (.int 5)) (fBi gLen (fConsA (fVar 5) fNilA))) ⟨[x0, x1, x2, x3, x4, some (.dat (.tuple (nts v))), x6], []⟩ = some (.int ((5 - v.length : Nat) : Int), []) := by
    have l1 := nts_len v
    have hs : (5 : Int) - ((v.length : Nat) : Int) = ((5 - v.length : Nat) : Int) := by omega
    simp! [l1, hs]
  have er := rep0 (5 - v.length) (by omega) [x0, x1, x2, x3, x4, some (.dat (.tuple (nts v))), x6] es
  generalize hfr : (fRep (fLst (fConsA (fLit (.int 0)) fNilA)) (fOp gSub (fLit (.int 5)) (fBi gLen (fConsA (fVar 5) fNilA)))) = fr at er
  have hall : nts v ++ nts (List.replicate (5 - v.length) 0) = [.int (c 0), .int (c 1), .int (c 2), .int (c 3), .int (c 4)] := by
    rw [← hc 0, ← hc 1, ← hc 2, ← hc 3, ← hc 4]
    match v, hl with
    | [], _ => rfl
    | [_], _ => rfl
    | [_, _], _ => rfl
    | [_, _, _], _ => rfl
    | [_, _, _, _], _ => rfl
    | [_, _, _, _, _], _ => rfl
  have ea : (fStarA (fVar 5) (fStarA fr fNilA)) ⟨[x0, x1, x2, x3, x4, some (.dat (.tuple (nts v))), x6], []⟩ = some ([.dat (.int (c 0)), .dat (.int (c 1)), .dat (.int (c 2)), .dat (.int (c 3)), .dat (.int (c 4))], []) := by
    have hm : (nts v).map SV.dat ++ (nts (List.replicate (5 - v.length) 0)).map SV.dat = [.dat (.int (c 0)), .dat (.int (c 1)), .dat (.int (c 2)), .dat (.int (c 3)), .dat (.int (c 4))] := by
      rw [← List.map_append, hall]; rfl
    simp! [er, hm]
  have e0 : WhE = (fSet 6 (fOfL (fLst (fStarA (fVar 5) (fStarA (fRep (fLst (fConsA (fLit (.int 0)) fNilA)) (fOp gSub (fLit (.int 5)) (fBi gLen (fConsA (fVar 5) fNilA)))) fNilA))))) := rfl
  rw [e0, hfr]
  generalize (fStarA (fVar 5) (fStarA fr fNilA)) = fs at ea ⊢
  simp! [ea]
end PL


set_option Elab.async false
set_option linter.all false
set_option maxRecDepth 100000
set_option maxHeartbeats 4000000
set_option exponentiation.threshold 20000
namespace PL
open PySem PySem.Spec L2 DL
local macro_rules | `(tactic| simp! [$as,*]) => `(tactic| simp only [fThaw, fThawT, fThawL, thawD, thawO, noL, noLAll, fAug, gAug, fRev, fFnA, fCallV, fBot, fZip, zipD, gSum, intsOf, List.foldl_cons, List.foldl_nil, mkF, fRet, fRetL, fRetN, fSkip, fSeq, fNever, fSet, fAsg, fNew, fIfS, fDrop, fPar, fPar3, fSetc, fSetc2, fVar, fLit, fOp, fUn, fTup, fTup.datsOf, fLst, fNilA, fConsA, fStarA, fCelA, fOfL, fTru, fAndT, fOrT, fNotT, fAndV, fOrV, fNotV, fIf, fBi, fCall, fCallL, fCallFr, fPerm, callF, celOf, celsOk, norm, aName, aNil, aCons, aTup, setD, fSl, fIt, fItL, fItT, fFor, forGo, fLc, lcGo, fYes, wipeD, fCix, fList, fSlL, fPart, fNoPart, fChain, List.length_cons, List.length_nil, List.getElem?_cons_zero, List.getElem?_cons_succ, List.getElem?_nil, List.set_cons_zero, List.set_cons_succ, List.map_cons, List.map_nil, List.cons_append, List.nil_append, List.append_nil, List.replicate, List.take_zero, List.take_nil, List.take_succ_cons, ↓bsome, ↓msome, Option.bind_some, Option.map_some, Option.bind_none, Option.map_none, Nat.sub_self, Int.cast_ofNat_Int, Nat.reduceAdd, Nat.reduceMul, Nat.reduceSub, Nat.reduceLeDiff, Nat.reduceLT, Nat.zero_add, Nat.add_zero, and_self, and_true, true_and, if_true, if_false, ↓reduceIte, ite_true, Bool.true_eq_false, Bool.false_eq_true, beq_self_eq_true, Bool.and_self, Bool.not_true, Bool.not_false, decide_true, decide_false, gLen, gTyIs, gTyNot, tyOf, gNeg, gPlus, DL.gSub, gCmp, gInt, gAbs, gTuple, gMax, gMin, gGcd, LIM, gIx, $as,*])
theorem w_comb {t0 t1 t2 t3 t4 s c0 c1 c2 c3 c4 : Int} (h0 : Sm 4000 t0) (h1 : Sm 4000 t1) (h2 : Sm 4000 t2) (h3 : Sm 4000 t3) (h4 : Sm 4000 t4) (hs : Sm 4000 s) (k0 : Sm 4000 c0) (k1 : Sm 4000 c1) (k2 : Sm 4000 c2) (k3 : Sm 4000 c3) (k4 : Sm 4000 c4) :
    F_combined [.dat (.int 1), .dat (T5 t0 t1 t2 t3 t4), .dat (.int s), .dat (L5 c0 c1 c2 c3 c4)] [] = some (.dat (T5 (t0 + s * c0) (t1 + s * c1) (t2 + s * c2) (t3 + s * c3) (t4 + s * c4)), []) := by
  have o : ∀ {x : Int}, Sm 4000 x → gMul (.int 1) (.int x) = some (.int x) := fun h => by rw [gMul_ok sz_1.sm h, Int.one_mul]
  have a0 := o h0
  have a1 := o h1
  have a2 := o h2
  have a3 := o h3
  have a4 := o h4
  have b0 := gMul_ok hs k0
  have b1 := gMul_ok hs k1
  have b2 := gMul_ok hs k2
  have b3 := gMul_ok hs k3
  have b4 := gMul_ok hs k4
  simp! [F_combined, b_combined, fZip, zipD, a0, a1, a2, a3, a4, b0, b1, b2, b3, b4]
abbrev WbB : FS := (fSeq WhE (fSet 4 (fCall F_combined (fConsA (fLit (.int 1)) (fConsA (fVar 4) (fConsA (fOp gMul (fOp gIx (fVar 3) (fLit (.int 0))) (fOp gDiv (fVar 2) (fOp gIx (fVar 3) (fLit (.int 1))))) (fConsA (fVar 6) fNilA)))))))
abbrev T5f (t : Nat → Int) : PyData := T5 (t 0) (t 1) (t 2) (t 3) (t 4)
theorem wb_1 {m : Nat} {c t : Nat → Int} {X Y W : PyData} {B p q : Int} {x6 : Option SV} (h : Pol 4 m c W) (hm : m ≤ 3000) (ht : ∀ k, Sm 4000 (t k)) (q0 : 0 < q) (sq : Sm 4000 q) (sB : Sm 4000 (B / q)) (sp : Sm 4000 p) (ss : Sm 4000 (p * (B / q))) :
    WbB ⟨[some (.dat X), some (.dat Y), some (.dat (.int B)), some (.dat (T2 p q)), some (.dat (T5f t)), some (.dat W), x6], []⟩ = some (.nx ⟨[some (.dat X), some (.dat Y), some (.dat (.int B)), some (.dat (T2 p q)), some (.dat (T5f fun k => t k + p * (B / q) * c k)), some (.dat W), some (.dat (L5 (c 0) (c 1) (c 2) (c 3) (c 4)))], []⟩) := by
  have w := whole_ok h (x0 := some (.dat X)) (x1 := some (.dat Y)) (x2 := some (.dat (.int B))) (x3 := some (.dat (T2 p q))) (x4 := some (.dat (T5f t))) (x6 := x6)
  obtain ⟨_, _, _, _, hs⟩ := h
  have d := gDiv_ok (i := B) q0 sq
  have m1 := gMul_ok sp sB
  have cb := w_comb (ht 0) (ht 1) (ht 2) (ht 3) (ht 4) ss ((hs 0).sm (by omega)) ((hs 1).sm (by omega)) ((hs 2).sm (by omega)) ((hs 3).sm (by omega)) ((hs 4).sm (by omega))
  refine (seq_nx w).trans ?_
  show (fSet 4 (fCall F_combined (fConsA (fLit (.int 1)) (fConsA (fVar 4) (fConsA (fOp gMul (fOp gIx (fVar 3) (fLit (.int 0))) (fOp gDiv (fVar 2) (fOp gIx (fVar 3) (fLit (.int 1))))) (fConsA (fVar 6) fNilA)))))) ⟨[some (.dat X), some (.dat Y), some (.dat (.int B)), some (.dat (T2 p q)), some (.dat (T5 (t 0) (t 1) (t 2) (t 3) (t 4))), some (.dat W), some (.dat (L5 (c 0) (c 1) (c 2) (c 3) (c 4)))], []⟩ = some (.nx ⟨[some (.dat X), some (.dat Y), some (.dat (.int B)), some (.dat (T2 p q)), some (.dat (T5 (t 0 + p * (B / q) * c 0) (t 1 + p * (B / q) * c 1) (t 2 + p * (B / q) * c 2) (t 3 + p * (B / q) * c 3) (t 4 + p * (B / q) * c 4))), some (.dat W), some (.dat (L5 (c 0) (c 1) (c 2) (c 3) (c 4)))], []⟩)
  clear w hs ht
  simp! [gIx, ix2_0, ix2_1, d, m1, cb]
structure Wt4 (m M : Nat) (N : Int) (l : (Nat → Int) × PyData × Int × Int) : Prop where
  pol : Pol 4 m l.1 l.2.1
  q0 : 0 < l.2.2.2
  qN : l.2.2.2 ∣ N
  sp : Sz M l.2.2.1
def accL (B : Int) (ls : List ((Nat → Int) × PyData × Int × Int)) (t : Nat → Int) : Nat → Int := ls.foldl (fun u l => fun k => u k + l.2.2.1 * (B / l.2.2.2) * l.1 k) t
theorem wb_for {m M : Nat} {N B : Int} {X Y : PyData} (sN : Sz M N) (hN : 0 < N) (b0 : 0 < B) (bN : B ∣ N) (hm : m + 2 * M ≤ 600) : ∀ (ls : List ((Nat → Int) × PyData × Int × Int)) (t : Nat → Int) (P : Nat) (x3 x5 x6 : Option SV), (∀ l ∈ ls, Wt4 m M N l) → (∀ k, Sz P (t k)) → P + ls.length * (m + 2 * M + 2) ≤ 3900 →
    ∃ y3 y5 y6, forGo (aTup 2 (aCons (aName 5) (aCons (aName 3) aNil))) WbB (ls.map fun l => .tuple [l.2.1, T2 l.2.2.1 l.2.2.2]) ⟨[some (.dat X), some (.dat Y), some (.dat (.int B)), x3, some (.dat (T5f t)), x5, x6], []⟩ = some (.nx ⟨[some (.dat X), some (.dat Y), some (.dat (.int B)), y3, some (.dat (T5f (accL B ls t))), y5, y6], []⟩) ∧ ∀ k, Sz (P + ls.length * (m + 2 * M + 2)) (accL B ls t k)
  | [], t, P, x3, x5, x6, _, ht, _ => ⟨x3, x5, x6, rfl, fun k => by simpa [accL] using ht k⟩
  | l :: ls, t, P, x3, x5, x6, hl, ht, hP => by
    rw [List.length_cons, Nat.add_mul] at hP
    have L := hl l List.mem_cons_self
    have sB := sz_dvd sN hN bN b0
    have sq := sz_dvd sN hN L.qN L.q0
    have sBq : Sz M (B / l.2.2.2) := sB.div
    have ss : Sz (2 * M) (l.2.2.1 * (B / l.2.2.2)) := (L.sp.mul sBq).by _ (by omega)
    have e := wb_1 (X := X) (Y := Y) (B := B) (t := t) (x6 := x6) L.pol (by omega) (fun k => (ht k).sm (by omega)) L.q0 (sq.sm (by omega)) (sBq.sm (by omega)) (L.sp.sm (by omega)) (ss.sm (by omega))
    have ht' : ∀ k, Sz (P + (m + 2 * M + 2)) (t k + l.2.2.1 * (B / l.2.2.2) * l.1 k) := fun k => by
      obtain ⟨_, _, _, _, hs⟩ := L.pol
      exact ((ht k).by (P + (m + 2 * M + 1)) (by omega) |>.add ((ss.mul (hs k)).by (P + (m + 2 * M + 1)) (by omega))).by _ (by omega)
    obtain ⟨y3, y5, y6, ih, hz⟩ := wb_for (X := X) (Y := Y) sN hN b0 bN hm ls (fun k => t k + l.2.2.1 * (B / l.2.2.2) * l.1 k) (P + (m + 2 * M + 2)) (some (.dat (T2 l.2.2.1 l.2.2.2))) (some (.dat l.2.1)) (some (.dat (L5 (l.1 0) (l.1 1) (l.1 2) (l.1 3) (l.1 4)))) (fun v hv => hl v (List.mem_cons_of_mem _ hv)) ht' (by omega)
    refine ⟨y3, y5, y6, ?_, fun k => ?_⟩
    · generalize WbB = b at e ih ⊢
      simp only [List.map_cons, forGo, aTup, aCons, aName, aNil, setD, List.length_cons, List.length_nil, List.set_cons_succ, List.set_cons_zero, Option.bind_some, Nat.reduceAdd, and_self, if_true, ↓reduceIte, e]
      exact ih
    · have := hz k
      rw [List.length_cons, Nat.add_mul]
      exact this.by _ (by omega)
end PL


set_option Elab.async false
set_option linter.all false
set_option maxRecDepth 100000
set_option maxHeartbeats 4000000
set_option exponentiation.threshold 20000
namespace PL
open PySem PySem.Spec L2 DL
local macro_rules | `(tactic| simp! [$as,*]) => `(tactic| simp only [fThaw, fThawT, fThawL, thawD, thawO, noL, noLAll, fAug, gAug, fRev, fFnA, fCallV, fBot, fZip, zipD, gSum, intsOf, List.foldl_cons, List.foldl_nil, mkF, fRet, fRetL, fRetN, fSkip, fSeq, fNever, fSet, fAsg, fNew, fIfS, fDrop, fPar, fPar3, fSetc, fSetc2, fVar, fLit, fOp, fUn, fTup, fTup.datsOf, fLst, fNilA, fConsA, fStarA, fCelA, fOfL, fTru, fAndT, fOrT, fNotT, fAndV, fOrV, fNotV, fIf, fBi, fCall, fCallL, fCallFr, fPerm, callF, celOf, celsOk, norm, aName, aNil, aCons, aTup, setD, fSl, fIt, fItL, fItT, fFor, forGo, fLc, lcGo, fYes, wipeD, fCix, fList, fSlL, fPart, fNoPart, fChain, List.length_cons, List.length_nil, List.getElem?_cons_zero, List.getElem?_cons_succ, List.getElem?_nil, List.set_cons_zero, List.set_cons_succ, List.map_cons, List.map_nil, List.cons_append, List.nil_append, List.append_nil, List.replicate, List.take_zero, List.take_nil, List.take_succ_cons, ↓bsome, ↓msome, Option.bind_some, Option.map_some, Option.bind_none, Option.map_none, Nat.sub_self, Int.cast_ofNat_Int, Nat.reduceAdd, Nat.reduceMul, Nat.reduceSub, Nat.reduceLeDiff, Nat.reduceLT, Nat.zero_add, Nat.add_zero, and_self, and_true, true_and, if_true, if_false, ↓reduceIte, ite_true, Bool.true_eq_false, Bool.false_eq_true, beq_self_eq_true, Bool.and_self, Bool.not_true, Bool.not_false, decide_true, decide_false, gLen, gTyIs, gTyNot, tyOf, gNeg, gPlus, DL.gSub, gCmp, gInt, gAbs, gTuple, gMax, gMin, gGcd, LIM, gIx, $as,*])
local macro_rules | `(tactic| simpa! [$as,*]) => `(tactic| simp (maxDischargeDepth := 40) only [fThaw, fThawT, fThawL, thawD, thawO, noL, noLAll, fAug, gAug, fRev, fFnA, fCallV, fBot, fZip, zipD, gSum, intsOf, List.foldl_cons, List.foldl_nil, mkF, fRet, fRetL, fRetN, fSkip, fSeq, fNever, fSet, fAsg, fNew, fIfS, fDrop, fPar, fPar3, fSetc, fSetc2, fVar, fLit, fOp, fUn, fTup, fTup.datsOf, fLst, fNilA, fConsA, fStarA, fCelA, fOfL, fTru, fAndT, fOrT, fNotT, fAndV, fOrV, fNotV, fIf, fBi, fCall, fCallL, fCallFr, fPerm, callF, celOf, celsOk, norm, aName, aNil, aCons, aTup, setD, fSl, fIt, fItL, fItT, fFor, forGo, fLc, lcGo, fYes, wipeD, fCix, fList, fSlL, fPart, fNoPart, fChain, List.length_cons, List.length_nil, List.getElem?_cons_zero, List.getElem?_cons_succ, List.getElem?_nil, List.set_cons_zero, List.set_cons_succ, List.map_cons, List.map_nil, List.cons_append, List.nil_append, List.append_nil, List.replicate, List.take_zero, List.take_nil, List.take_succ_cons, ↓bsome, ↓msome, Option.bind_some, Option.map_some, Option.bind_none, Option.map_none, Nat.sub_self, Int.cast_ofNat_Int, Nat.reduceAdd, Nat.reduceMul, Nat.reduceSub, Nat.reduceLeDiff, Nat.reduceLT, Nat.zero_add, Nat.add_zero, and_self, and_true, true_and, if_true, if_false, ↓reduceIte, ite_true, Bool.true_eq_false, Bool.false_eq_true, beq_self_eq_true, Bool.and_self, Bool.not_true, Bool.not_false, decide_true, decide_false, gLen, gTyIs, gTyNot, tyOf, gNeg, gPlus, DL.gSub, gCmp, gInt, gAbs, gTuple, gMax, gMin, gGcd, LIM, gIx, ix1_0, ix2_0, ix2_1, ix3_0, ix3_1, ix3_2, ix4_0, ix4_1, ix4_2, ix4_3, ix5_0, ix5_1, ix5_2, ix5_3, ix5_4, ix6_0, ix6_1, ix6_2, ix6_3, ix6_4, ix6_5, cut5_04, cut5_14, cut4_04, cut4_03, cut4_14, Sm.mul, Sm.add, Sm.sub, Sm.neg, Sm.div, Sm.lit, sz_0, sz_1, sz_2, sz_3, sz_4, sz_8, Nat.reduceDiv, Nat.reduceSub, Nat.reduceLT, Nat.reduceLeDiff, Int.reduceLT, Int.reduceNeg, Int.mul_pos, gMul_ok, gDiv_ok, gMod_ok, $as,*])
section
variable {a b c d e f : Int}
theorem e_row6 : F_is_row [.dat (T6 a b c d e f), .dat (.int 6)] [] = some (.dat (.bool true), []) := rfl
theorem e_div6 : F_divisor_of [.dat (T6 a b c d e f)] [] = some (.dat (.int (gL [a, b, c, d, e, f] : Nat)), []) := e_div (v := [a, b, c, d, e, f]) .t
theorem e_rrow6 : F_is_reduced_row [.dat (T6 a b c d e f), .dat (.int 6)] [] = some (.dat (.bool ((gL [a, b, c, d, e, f] : Int) == 1)), []) := by
  simpa! [*, F_is_reduced_row, b_is_reduced_row, e_row6, e_div6, gEq_int]
theorem ix6' : atI [PyData.int a, .int b, .int c, .int d, .int e, .int f] 5 = some (.int f) := rfl
end
/-- a course -/
structure Co (m : Nat) (x0 x1 x2 x3 x4 n : Int) : Prop where
  n0 : 0 < n
  one : gL [x0, x1, x2, x3, x4, n] = 1
  s0 : Sz m x0
  s1 : Sz m x1
  s2 : Sz m x2
  s3 : Sz m x3
  s4 : Sz m x4
  sn : Sz m n
section
variable {m : Nat} {x0 x1 x2 x3 x4 n : Int}
theorem Co.up {k : Nat} (C : Co m x0 x1 x2 x3 x4 n) (h : m ≤ k) : Co k x0 x1 x2 x3 x4 n := ⟨C.n0, C.one, C.s0.by _ h, C.s1.by _ h, C.s2.by _ h, C.s3.by _ h, C.s4.by _ h, C.sn.by _ h⟩
theorem w_isco (C : Co m x0 x1 x2 x3 x4 n) : F_is_course [.dat (T6 x0 x1 x2 x3 x4 n)] [] = some (.dat (.bool true), []) := by
  have e1 := e_rrow6 (a := x0) (b := x1) (c := x2) (d := x3) (e := x4) (f := n)
  rw [C.one] at e1
  have o1 : ((((1 : Nat) : Int)) == 1) = true := rfl
  have n0 := C.n0
  simp! [F_is_course, b_is_course, e1, o1, gIx, ix6', n0]
theorem w_chco (C : Co m x0 x1 x2 x3 x4 n) : F_check_course [.dat (T6 x0 x1 x2 x3 x4 n)] [] = some (.dat .none, []) := by
  have e1 := w_isco C
  simp! [F_check_course, b_check_course, e1]
/-- the form of five numbers -/
def Fo (x0 x1 x2 x3 x4 p q : Int) : Int := x0 * (q * q * q * q) + x1 * (p * q * q * q) + x2 * (p * p * q * q) + x3 * (p * p * p * q) + x4 * (p * p * p * p)
def Ls (a b : Int) : Int := a * a + b * b
theorem sqn (a : Int) : 0 ≤ a * a := by
  rcases Int.le_total 0 a with h | h
  · exact Int.mul_nonneg h h
  · exact Int.mul_nonneg_of_nonpos_of_nonpos h h
theorem fo_scale {t0 t1 t2 t3 t4 G d p q : Int} : Fo t0 t1 t2 t3 t4 p q * (d * G) = Fo (t0 * G) (t1 * G) (t2 * G) (t3 * G) (t4 * G) p q * d := by
  unfold Fo
  grind
theorem ratN {m : Nat} {p q : Int} (hq : 0 < q) (sp : Sz m p) (sq : Sz m q) : ∃ P Q g : Int, Rt p q = T2 P Q ∧ Fr m P Q ∧ 0 < g ∧ P * g = p ∧ Q * g = q := by
  exact ⟨_, _, rg p q, rfl, rt_fr hq sp sq, rg_pos hq, rg_p hq, rg_q hq⟩
theorem rng_5 : rngOk 5 = true := rng_ok (by decide) (by decide)
theorem tn_5 : (5 : Int).toNat = 5 := rfl
theorem rng5D : rangeD 0 5 = [.int 0, .int 1, .int 2, .int 3, .int 4] := rfl
theorem cut6 {a b c d e f : PyData} : cutD [a, b, c, d, e, f] none (some 5) = [a, b, c, d, e] := rfl
end
end PL


set_option Elab.async false
set_option linter.all false
set_option maxRecDepth 100000
set_option maxHeartbeats 4000000
set_option exponentiation.threshold 20000
namespace PL
open PySem PySem.Spec L2 DL
local macro_rules | `(tactic| simp! [$as,*]) => `(tactic| simp only [fThaw, fThawT, fThawL, thawD, thawO, noL, noLAll, fAug, gAug, fRev, fFnA, fCallV, fBot, fZip, zipD, gSum, intsOf, List.foldl_cons, List.foldl_nil, mkF, fRet, fRetL, fRetN, fSkip, fSeq, fNever, fSet, fAsg, fNew, fIfS, fDrop, fPar, fPar3, fSetc, fSetc2, fVar, fLit, fOp, fUn, fTup, fTup.datsOf, fLst, fNilA, fConsA, fStarA, fCelA, fOfL, fTru, fAndT, fOrT, fNotT, fAndV, fOrV, fNotV, fIf, fBi, fCall, fCallL, fCallFr, fPerm, callF, celOf, celsOk, norm, aName, aNil, aCons, aTup, setD, fSl, fIt, fItL, fItT, fFor, forGo, fLc, lcGo, fYes, wipeD, fCix, fList, fSlL, fPart, fNoPart, fChain, List.length_cons, List.length_nil, List.getElem?_cons_zero, List.getElem?_cons_succ, List.getElem?_nil, List.set_cons_zero, List.set_cons_succ, List.map_cons, List.map_nil, List.cons_append, List.nil_append, List.append_nil, List.replicate, List.take_zero, List.take_nil, List.take_succ_cons, ↓bsome, ↓msome, Option.bind_some, Option.map_some, Option.bind_none, Option.map_none, Nat.sub_self, Int.cast_ofNat_Int, Nat.reduceAdd, Nat.reduceMul, Nat.reduceSub, Nat.reduceLeDiff, Nat.reduceLT, Nat.zero_add, Nat.add_zero, and_self, and_true, true_and, if_true, if_false, ↓reduceIte, ite_true, Bool.true_eq_false, Bool.false_eq_true, beq_self_eq_true, Bool.and_self, Bool.not_true, Bool.not_false, decide_true, decide_false, gLen, gTyIs, gTyNot, tyOf, gNeg, gPlus, DL.gSub, gCmp, gInt, gAbs, gTuple, gMax, gMin, gGcd, LIM, gIx, $as,*])
section
variable {m s : Nat} {x0 x1 x2 x3 x4 n t0 t1 t2 t3 t4 d y0 y1 y2 y3 y4 e a b c f p q g A B : Int}
theorem ls_mul : Ls (a * f + c * b) (b * f - a * c) = Ls a b * Ls c f := by unfold Ls; grind
theorem fo_01 : Fo x0 x1 x2 x3 x4 0 1 = x0 := by unfold Fo; omega
theorem fo_10 : Fo x0 x1 x2 x3 x4 1 0 = x4 := by unfold Fo; omega
theorem fo_11 : Fo x0 x1 x2 x3 x4 1 1 = x0 + x1 + x2 + x3 + x4 := by unfold Fo; omega
theorem fo_m1 : Fo x0 x1 x2 x3 x4 (-1) 1 = x0 - x1 + x2 - x3 + x4 := by unfold Fo; omega
theorem fo_21 : Fo x0 x1 x2 x3 x4 2 1 = x0 + 2 * x1 + 4 * x2 + 8 * x3 + 16 * x4 := by unfold Fo; omega
/-! levels -/
theorem ls_pos (S : Sg s a b) : 0 < Ls a b := by
  unfold Ls
  by_cases hb : b = 0
  · have := S.z hb
    subst this
    subst hb
    decide
  · have h1 := Int.mul_pos (show 0 < b by have := S.b0; omega) (show 0 < b by have := S.b0; omega)
    have h2 := sqn a
    omega
theorem ls_sz (sa : Sz s a) (sb : Sz s b) : Sz (2 * s + 1) (Ls a b) := by
  unfold Ls
  exact ((sa.mul sa).add (sb.mul sb)).by _ (by omega)
theorem fo_sz (C : Co m x0 x1 x2 x3 x4 n) (sp : Sz s p) (sq : Sz s q) : Sz (m + 4 * s + 4) (Fo x0 x1 x2 x3 x4 p q) := by
  unfold Fo
  exact (((((C.s0.mul (((sq.mul sq).mul sq).mul sq)).add (C.s1.mul (((sp.mul sq).mul sq).mul sq))).add (C.s2.mul (((sp.mul sp).mul sq).mul sq))).add (C.s3.mul (((sp.mul sp).mul sp).mul sq))).add (C.s4.mul (((sp.mul sp).mul sp).mul sp))).by _ (by omega)
abbrev VaB : FS := (fSeq (fSet 3 (fOp gPlus (fOp gMul (fVar 3) (fOp gIx (fVar 1) (fLit (.int 0)))) (fOp gMul (fVar 2) (fVar 4)))) (fAug 4 gAugM (fOp gIx (fVar 1) (fLit (.int 1)))))
theorem va_1 {X : PyData} {T W x : Int} {mt : Nat} (sT : Sz mt T) (sW : Sz mt W) (sx : Sz mt x) (sp : Sz mt p) (sq : Sz mt q) (hm : mt ≤ 1500) :
    VaB ⟨[some (.dat X), some (.dat (T2 p q)), some (.dat (.int x)), some (.dat (.int T)), some (.dat (.int W))], []⟩ = some (.nx ⟨[some (.dat X), some (.dat (T2 p q)), some (.dat (.int x)), some (.dat (.int (T * p + x * W))), some (.dat (.int (W * q)))], []⟩) := by
  have m1 := gMul_ok (sT.sm (m := 4000) (by omega)) (sp.sm (m := 4000) (by omega))
  have m2 := gMul_ok (sx.sm (m := 4000) (by omega)) (sW.sm (m := 4000) (by omega))
  have m3 : gAugM (.int W) (.int q) = some (.int (W * q)) := by
    have := gMul_ok (sW.sm (m := 4000) (by omega)) (sq.sm (m := 4000) (by omega))
    exact this
  simp! [gIx, ix2_0, ix2_1, m1, m2, m3]
theorem core_value {X0 X1 X2 X3 X4 T1 W1 T2' W2 T3 W3 T4 W4 T5' W5 S : PyData}
    (h1 : ∀ {X : PyData} {x2 : Option SV}, VaB ⟨[some (.dat X), some (.dat S), some (.dat X4), some (.dat (.int 0)), some (.dat (.int 1))], []⟩ = some (.nx ⟨[some (.dat X), some (.dat S), some (.dat X4), some (.dat T1), some (.dat W1)], []⟩))
    (h2 : ∀ {X : PyData}, VaB ⟨[some (.dat X), some (.dat S), some (.dat X3), some (.dat T1), some (.dat W1)], []⟩ = some (.nx ⟨[some (.dat X), some (.dat S), some (.dat X3), some (.dat T2'), some (.dat W2)], []⟩))
    (h3 : ∀ {X : PyData}, VaB ⟨[some (.dat X), some (.dat S), some (.dat X2), some (.dat T2'), some (.dat W2)], []⟩ = some (.nx ⟨[some (.dat X), some (.dat S), some (.dat X2), some (.dat T3), some (.dat W3)], []⟩))
    (h4 : ∀ {X : PyData}, VaB ⟨[some (.dat X), some (.dat S), some (.dat X1), some (.dat T3), some (.dat W3)], []⟩ = some (.nx ⟨[some (.dat X), some (.dat S), some (.dat X1), some (.dat T4), some (.dat W4)], []⟩))
    (h5 : ∀ {X : PyData}, VaB ⟨[some (.dat X), some (.dat S), some (.dat X0), some (.dat T4), some (.dat W4)], []⟩ = some (.nx ⟨[some (.dat X), some (.dat S), some (.dat X0), some (.dat T5'), some (.dat W5)], []⟩)) :
    F_value_at [.dat (.tuple [X0, X1, X2, X3, X4]), .dat S] [] = some (.dat T5', []) := by
  have e0 : b_value_at = fSeq (fAsg (aTup 2 (aCons (aName 3) (aCons (aName 4) aNil))) (fTup (fConsA (fLit (.int 0)) (fConsA (fLit (.int 1)) fNilA)))) (fSeq (fFor (fRev (fVar 0)) (aName 2) VaB) (fRet (fVar 3))) := rfl
  refine fn_ok (np := 2) (nN := 5) (n0 := 0) (c := []) ?_ ⟨rfl, rfl⟩ rfl
  rw [e0]
  have g1 := h1 (X := .tuple [X0, X1, X2, X3, X4]) (x2 := none)
  have g2 := h2 (X := .tuple [X0, X1, X2, X3, X4])
  have g3 := h3 (X := .tuple [X0, X1, X2, X3, X4])
  have g4 := h4 (X := .tuple [X0, X1, X2, X3, X4])
  have g5 := h5 (X := .tuple [X0, X1, X2, X3, X4])
  clear h1 h2 h3 h4 h5
  generalize VaB = b at *
  simp! [fRev, List.reverse_cons, List.reverse_nil, aTup, g1, g2, g3, g4, g5]
theorem w_value (C : Co m x0 x1 x2 x3 x4 n) (sp : Sz s p) (sq : Sz s q) (hm : m + 4 * s ≤ 1000) : F_value_at [.dat (T5 x0 x1 x2 x3 x4), .dat (T2 p q)] [] = some (.dat (.int (Fo x0 x1 x2 x3 x4 p q)), []) := by
  obtain ⟨M, hM⟩ : ∃ M, M = m + 4 * s + 10 := ⟨_, rfl⟩
  have up : ∀ {x : Int} {k : Nat}, Sz k x → k ≤ m + 4 * s + 10 → Sz M x := fun h hk => h.by _ (by omega)
  have P := up sp (by omega)
  have Q := up sq (by omega)
  have o := up sz_1 (by omega)
  have z := up sz_0 (by omega)
  have k1 : Sz (m + s + 2) (0 * p + x4 * 1) := by
    rw [Int.zero_mul, Int.zero_add, Int.mul_one]; exact C.s4.by _ (by omega)
  have w1 : Sz (s + 1) (1 * q) := by rw [Int.one_mul]; exact sq.by _ (by omega)
  have k2 : Sz (m + 2 * s + 4) ((0 * p + x4 * 1) * p + x3 * (1 * q)) := ((k1.mul sp).add (C.s3.mul w1)).by _ (by omega)
  have w2 : Sz (2 * s + 1) (1 * q * q) := (w1.mul sq).by _ (by omega)
  have k3 : Sz (m + 3 * s + 5) (((0 * p + x4 * 1) * p + x3 * (1 * q)) * p + x2 * (1 * q * q)) := ((k2.mul sp).add (C.s2.mul w2)).by _ (by omega)
  have w3 : Sz (3 * s + 1) (1 * q * q * q) := (w2.mul sq).by _ (by omega)
  have k4 : Sz (m + 4 * s + 6) ((((0 * p + x4 * 1) * p + x3 * (1 * q)) * p + x2 * (1 * q * q)) * p + x1 * (1 * q * q * q)) := ((k3.mul sp).add (C.s1.mul w3)).by _ (by omega)
  have w4 : Sz (4 * s + 1) (1 * q * q * q * q) := (w3.mul sq).by _ (by omega)
  have h := core_value (S := T2 p q) (X0 := .int x0) (X1 := .int x1) (X2 := .int x2) (X3 := .int x3) (X4 := .int x4) (fun {X _} => va_1 (X := X) z o (up C.s4 (by omega)) P Q (by omega)) (fun {X} => va_1 (X := X) (up k1 (by omega)) (up w1 (by omega)) (up C.s3 (by omega)) P Q (by omega)) (fun {X} => va_1 (X := X) (up k2 (by omega)) (up w2 (by omega)) (up C.s2 (by omega)) P Q (by omega))
    (fun {X} => va_1 (X := X) (up k3 (by omega)) (up w3 (by omega)) (up C.s1 (by omega)) P Q (by omega)) (fun {X} => va_1 (X := X) (up k4 (by omega)) (up w4 (by omega)) (up C.s0 (by omega)) P Q (by omega))
  have e : ((((0 * p + x4 * 1) * p + x3 * (1 * q)) * p + x2 * (1 * q * q)) * p + x1 * (1 * q * q * q)) * p + x0 * (1 * q * q * q * q) = Fo x0 x1 x2 x3 x4 p q := by unfold Fo; grind
  rw [e] at h
  exact h
end
end PL


set_option Elab.async false
set_option linter.all false
set_option maxRecDepth 100000
set_option maxHeartbeats 4000000
set_option exponentiation.threshold 20000
namespace PL
open PySem PySem.Spec L2 DL
local macro_rules | `(tactic| simp! [$as,*]) => `(tactic| simp only [fThaw, fThawT, fThawL, thawD, thawO, noL, noLAll, fAug, gAug, fRev, fFnA, fCallV, fBot, fZip, zipD, gSum, intsOf, List.foldl_cons, List.foldl_nil, mkF, fRet, fRetL, fRetN, fSkip, fSeq, fNever, fSet, fAsg, fNew, fIfS, fDrop, fPar, fPar3, fSetc, fSetc2, fVar, fLit, fOp, fUn, fTup, fTup.datsOf, fLst, fNilA, fConsA, fStarA, fCelA, fOfL, fTru, fAndT, fOrT, fNotT, fAndV, fOrV, fNotV, fIf, fBi, fCall, fCallL, fCallFr, fPerm, callF, celOf, celsOk, norm, aName, aNil, aCons, aTup, setD, fSl, fIt, fItL, fItT, fFor, forGo, fLc, lcGo, fYes, wipeD, fCix, fList, fSlL, fPart, fNoPart, fChain, List.length_cons, List.length_nil, List.getElem?_cons_zero, List.getElem?_cons_succ, List.getElem?_nil, List.set_cons_zero, List.set_cons_succ, List.map_cons, List.map_nil, List.cons_append, List.nil_append, List.append_nil, List.replicate, List.take_zero, List.take_nil, List.take_succ_cons, ↓bsome, ↓msome, Option.bind_some, Option.map_some, Option.bind_none, Option.map_none, Nat.sub_self, Int.cast_ofNat_Int, Nat.reduceAdd, Nat.reduceMul, Nat.reduceSub, Nat.reduceLeDiff, Nat.reduceLT, Nat.zero_add, Nat.add_zero, and_self, and_true, true_and, if_true, if_false, ↓reduceIte, ite_true, Bool.true_eq_false, Bool.false_eq_true, beq_self_eq_true, Bool.and_self, Bool.not_true, Bool.not_false, decide_true, decide_false, gLen, gTyIs, gTyNot, tyOf, gNeg, gPlus, DL.gSub, gCmp, gInt, gAbs, gTuple, gMax, gMin, gGcd, LIM, gIx, $as,*])
section
variable {m s : Nat} {x0 x1 x2 x3 x4 n t0 t1 t2 t3 t4 d a b c f p q : Int}
theorem w_length (sa : Sz s a) (sb : Sz s b) (hs : s ≤ 400) : F__length_of [.dat (T2 a b)] [] = some (.dat (.int (Ls a b)), []) := by
  have ma := gMul_ok (sa.sm (m := 4000) (by omega)) (sa.sm (m := 4000) (by omega))
  have mb := gMul_ok (sb.sm (m := 4000) (by omega)) (sb.sm (m := 4000) (by omega))
  unfold Ls
  simp! [F__length_of, b__length_of, gIx, ix2_0, ix2_1, ma, mb]
theorem core_level {L V N : Int} {out : PyData} (h1 : F_check_course [.dat (T6 x0 x1 x2 x3 x4 n)] [] = some (.dat .none, [])) (h2 : F_check_setting [.dat (T2 a b)] [] = some (.dat .none, [])) (el : F__length_of [.dat (T2 a b)] [] = some (.dat (.int L), [])) (ev : F_value_at [.dat (T5 x0 x1 x2 x3 x4), .dat (T2 a b)] [] = some (.dat (.int V), []))
    (m1 : gMul (.int n) (.int L) = some (.int (n * L))) (m2 : gMul (.int (n * L)) (.int L) = some (.int N)) (er : F_ratio [.dat (.int V), .dat (.int N)] [] = some (.dat out, [])) : F_level_at [.dat (T6 x0 x1 x2 x3 x4 n), .dat (T2 a b)] [] = some (.dat out, []) := by
  simp! [F_level_at, b_level_at, h1, h2, el, ev, m1, m2, er, gIx, ix6', cut6]
theorem w_level (C : Co m x0 x1 x2 x3 x4 n) (S : Sg s a b) (hm : m + 4 * s ≤ 1000) : F_level_at [.dat (T6 x0 x1 x2 x3 x4 n), .dat (T2 a b)] [] = some (.dat (Rt (Fo x0 x1 x2 x3 x4 a b) (n * Ls a b * Ls a b)), []) := by
  have sL := ls_sz S.sa S.sb
  have N0 : 0 < n * Ls a b * Ls a b := Int.mul_pos (Int.mul_pos C.n0 (ls_pos S)) (ls_pos S)
  exact core_level (w_chco C) (w_chset S) (w_length S.sa S.sb (by omega)) (w_value C S.sa S.sb hm) (gMul_ok (C.sn.sm (by omega)) (sL.sm (by omega))) (gMul_ok ((C.sn.mul sL).sm (by omega)) (sL.sm (by omega)))
    (e_ratio N0 ((fo_sz C S.sa S.sb).sm (by omega)) (((C.sn.mul sL).mul sL).sm (by omega)))
theorem w_form (C : Co m x0 x1 x2 x3 x4 n) (sa : Sz s a) (sb : Sz s b) (hm : m + 4 * s ≤ 1000) : F__law_form [.dat (T6 x0 x1 x2 x3 x4 n), .dat (T2 a b)] [] = some (.dat (.int (Fo x0 x1 x2 x3 x4 a b)), []) := by
  have g : ∀ {x y : Int} {i j : Nat}, Sz i x → Sz j y → i ≤ 1500 → j ≤ 1500 → gMul (.int x) (.int y) = some (.int (x * y)) := fun h k h1 h2 => gMul_ok (h.sm (by omega)) (k.sm (by omega))
  have m1 := g C.s0 sb (by omega) (by omega)
  have m2 := g (C.s0.mul sb) sb (by omega) (by omega)
  have m3 := g C.s1 sa (by omega) (by omega)
  have m4 := g (C.s1.mul sa) sb (by omega) (by omega)
  have m5 := g C.s2 sa (by omega) (by omega)
  have m6 := g (C.s2.mul sa) sa (by omega) (by omega)
  have sE : Sz (m + 2 * s + 2) (x0 * b * b + x1 * a * b + x2 * a * a) := ((((C.s0.mul sb).mul sb).add ((C.s1.mul sa).mul sb)).add ((C.s2.mul sa).mul sa)).by _ (by omega)
  have e : (x0 * b * b + x1 * a * b + x2 * a * a) * b * b + (x3 * b + x4 * a) * a * a * a = Fo x0 x1 x2 x3 x4 a b := by unfold Fo; grind
  have m7 := g sE sb (by omega) (by omega)
  have m8 := g (sE.mul sb) sb (by omega) (by omega)
  have m9 := g C.s3 sb (by omega) (by omega)
  have ma := g C.s4 sa (by omega) (by omega)
  have sF : Sz (m + s + 1) (x3 * b + x4 * a) := ((C.s3.mul sb).add (C.s4.mul sa)).by _ (by omega)
  have mb := g sF sa (by omega) (by omega)
  have mc := g (sF.mul sa) sa (by omega) (by omega)
  have md := g ((sF.mul sa).mul sa) sa (by omega) (by omega)
  rw [← e]
  clear e sE sF g C sa sb
  have i0 : atI [PyData.int x0, .int x1, .int x2, .int x3, .int x4, .int n] 0 = some (.int x0) := rfl
  have i1 : atI [PyData.int x0, .int x1, .int x2, .int x3, .int x4, .int n] 1 = some (.int x1) := rfl
  have i2 : atI [PyData.int x0, .int x1, .int x2, .int x3, .int x4, .int n] 2 = some (.int x2) := rfl
  have i3 : atI [PyData.int x0, .int x1, .int x2, .int x3, .int x4, .int n] 3 = some (.int x3) := rfl
  have i4 : atI [PyData.int x0, .int x1, .int x2, .int x3, .int x4, .int n] 4 = some (.int x4) := rfl
  simp! [F__law_form, b__law_form, aTup, gIx, i0, i1, i2, i3, i4, m1, m2, m3, m4, m5, m6, m7, m8, m9, ma, mb, mc, md]
theorem core_at {L V N : Int} {A B : Int} {out : PyData} (ma : gMul (.int a) (.int a) = some (.int A)) (mb : gMul (.int b) (.int b) = some (.int B)) (hL : A + B = L) (ev : F__law_form [.dat (T6 x0 x1 x2 x3 x4 n), .dat (T2 a b)] [] = some (.dat (.int V), []))
    (m1 : gMul (.int n) (.int L) = some (.int (n * L))) (m2 : gMul (.int (n * L)) (.int L) = some (.int N)) (er : F__law_ratio_K36 [.dat (.int V), .dat (.int N)] [] = some (.dat out, [])) : F__law_at_K36 [.dat (T6 x0 x1 x2 x3 x4 n), .dat (T2 a b)] [] = some (.dat out, []) := by
  simp! [F__law_at_K36, b__law_at_K36, ma, mb, hL, ev, m1, m2, er, gIx, ix2_0, ix2_1, ix6']
theorem w_at (C : Co m x0 x1 x2 x3 x4 n) (S : Sg s a b) (hm : m + 4 * s ≤ 1000) : F__law_at_K36 [.dat (T6 x0 x1 x2 x3 x4 n), .dat (T2 a b)] [] = some (.dat (Rt (Fo x0 x1 x2 x3 x4 a b) (n * Ls a b * Ls a b)), []) := by
  have sL := ls_sz S.sa S.sb
  have N0 : 0 < n * Ls a b * Ls a b := Int.mul_pos (Int.mul_pos C.n0 (ls_pos S)) (ls_pos S)
  exact core_at (gMul_ok (S.sa.sm (by omega)) (S.sa.sm (by omega))) (gMul_ok (S.sb.sm (by omega)) (S.sb.sm (by omega))) rfl (w_form C S.sa S.sb hm) (gMul_ok (C.sn.sm (by omega)) (sL.sm (by omega))) (gMul_ok ((C.sn.mul sL).sm (by omega)) (sL.sm (by omega)))
    (w_ratio N0 ((fo_sz C S.sa S.sb).sm (by omega)) (((C.sn.mul sL).mul sL).sm (by omega)))
/-! the setting along two numbers -/
def sgA (p q : Int) : Int := if q / mL [p, q] = 0 then 1 else if 0 < q / mL [p, q] then p / mL [p, q] else 0 - p / mL [p, q]
def sgB (p q : Int) : Int := if q / mL [p, q] = 0 then 0 else if 0 < q / mL [p, q] then q / mL [p, q] else 0 - q / mL [p, q]
theorem gL_neg2 : gL [0 - p, 0 - q] = gL [p, q] := by
  simp [gL, Int.natAbs_neg]
theorem sg_ok (hn : ¬ (p = 0 ∧ q = 0)) (sp : Sz s p) (sq : Sz s q) (hs : 1 ≤ s) : Sg (s + 1) (sgA p q) (sgB p q) ∧ ∃ g, g ≠ 0 ∧ p = g * sgA p q ∧ q = g * sgB p q := by
  have g0 : gL [p, q] ≠ 0 := fun z => hn ⟨gL_zero z p (by simp), gL_zero z q (by simp)⟩
  have gr := gL_red g0
  have hM := mL_pos [p, q]
  have d1 : p = p / mL [p, q] * mL [p, q] := div_mul (by simp)
  have d2 : q = q / mL [p, q] * mL [p, q] := div_mul (by simp)
  unfold red at gr
  simp only [List.map_cons, List.map_nil] at gr
  have sa : Sz s (p / mL [p, q]) := sp.div
  have sb : Sz s (q / mL [p, q]) := sq.div
  unfold sgA sgB
  generalize mL [p, q] = M at *
  generalize p / M = P, q / M = Q at *
  by_cases hq : Q = 0
  · subst hq
    have h1 : P.natAbs = 1 := by simpa [gL] using gr
    rw [if_pos rfl, if_pos rfl]
    refine ⟨⟨by decide, fun _ => rfl, by decide, sz_1.by _ (by omega), sz_0.by _ (by omega)⟩, P * M, ?_, by omega, by omega⟩
    exact Int.mul_ne_zero (by omega) (by omega)
  · rw [if_neg hq, if_neg hq]
    by_cases hp : 0 < Q
    · rw [if_pos hp, if_pos hp]
      exact ⟨⟨by omega, fun z => absurd z (by omega), gr, sa.by _ (by omega), sb.by _ (by omega)⟩, M, by omega, by rw [Int.mul_comm]; exact d1, by rw [Int.mul_comm]; exact d2⟩
    · rw [if_neg hp, if_neg hp]
      refine ⟨⟨by omega, fun z => absurd z (by omega), by rw [gL_neg2]; exact gr, (sz_0.sub sa).by _ (by omega), (sz_0.sub sb).by _ (by omega)⟩, -M, by omega, ?_, ?_⟩
      · rw [d1]; grind
      · rw [d2]; grind
theorem core_signed {P Q : Int} {X : PyData} (el : F__law_low_K36 [.dat X] [] = some (.dat (T2 P Q), [])) : F__law_signed [.dat X] [] = some (.dat (T2 (if Q = 0 then 1 else if 0 < Q then P else 0 - P) (if Q = 0 then 0 else if 0 < Q then Q else 0 - Q)), []) := by
  by_cases hq : Q = 0
  · subst hq
    have z0 : gEq (.int 0) (.int 0) = some (.bool true) := rfl
    simp! [F__law_signed, b__law_signed, el, aTup, z0]
  · have z0 : (Q == 0) = false := beq_eq_false_iff_ne.mpr hq
    rw [if_neg hq, if_neg hq]
    by_cases hp : 0 < Q
    · rw [if_pos hp, if_pos hp]
      simp! [F__law_signed, b__law_signed, el, aTup, gEq_int, z0, hp]
    · rw [if_neg hp, if_neg hp]
      simp! [F__law_signed, b__law_signed, el, aTup, gEq_int, z0, hp]
theorem w_signed (sp : Sz s p) (sq : Sz s q) (hs : s ≤ 1000) : F__law_signed [.dat (T2 p q)] [] = some (.dat (T2 (sgA p q) (sgB p q)), []) :=
  core_signed (w_low (v := [p, q]) (r := T2 p q) .t (m2 (sp.sm (by omega)) (sq.sm (by omega))) (by simp))
theorem core_summed {X Y Z W : Int} {out : PyData} (m1 : gMul (.int a) (.int f) = some (.int X)) (m2 : gMul (.int c) (.int b) = some (.int Y)) (m3 : gMul (.int b) (.int f) = some (.int Z)) (m4 : gMul (.int a) (.int c) = some (.int W)) (es : F__law_signed [.dat (T2 (X + Y) (Z - W))] [] = some (.dat out, [])) : F__law_summed [.dat (T2 a b), .dat (T2 c f)] [] = some (.dat out, []) := by
  simp! [F__law_summed, b__law_summed, gIx, ix2_0, ix2_1, m1, m2, m3, m4, es]
theorem sum_nz (S : Sg m a b) (T : Sg s c f) : ¬ (a * f + c * b = 0 ∧ b * f - a * c = 0) := fun ⟨h1, h2⟩ => by
  have k := ls_mul (a := a) (b := b) (c := c) (f := f)
  rw [h1, h2] at k
  have := Int.mul_pos (ls_pos S) (ls_pos T)
  rw [← k] at this
  exact absurd this (by decide)
theorem w_summed (S : Sg m a b) (T : Sg m c f) (hm : m ≤ 300) : F__law_summed [.dat (T2 a b), .dat (T2 c f)] [] = some (.dat (T2 (sgA (a * f + c * b) (b * f - a * c)) (sgB (a * f + c * b) (b * f - a * c))), []) :=
  core_summed (gMul_ok (S.sa.sm (by omega)) (T.sb.sm (by omega))) (gMul_ok (T.sa.sm (by omega)) (S.sb.sm (by omega))) (gMul_ok (S.sb.sm (by omega)) (T.sb.sm (by omega))) (gMul_ok (S.sa.sm (by omega)) (T.sa.sm (by omega)))
    (w_signed (s := 2 * m + 1) (((S.sa.mul T.sb).add (T.sa.mul S.sb)).by _ (by omega)) (((S.sb.mul T.sb).sub (S.sa.mul T.sa)).by _ (by omega)) (by omega))
theorem core_setsum {X Y Z W P Q : Int} (h1 : F_check_setting [.dat (T2 a b)] [] = some (.dat .none, [])) (h2 : F_check_setting [.dat (T2 c f)] [] = some (.dat .none, [])) (m1 : gMul (.int a) (.int f) = some (.int X)) (m2 : gMul (.int c) (.int b) = some (.int Y)) (m3 : gMul (.int b) (.int f) = some (.int Z)) (m4 : gMul (.int a) (.int c) = some (.int W))
    (er : F_reduced [.dat (T2 (X + Y) (Z - W))] [] = some (.dat (T2 P Q), [])) (h1Q : Q = 0 → P.natAbs = 1) : F_setting_sum [.dat (T2 a b), .dat (T2 c f)] [] = some (.dat (T2 (if Q = 0 then 1 else if 0 < Q then P else 0 - P) (if Q = 0 then 0 else if 0 < Q then Q else 0 - Q)), []) := by
  by_cases hq : Q = 0
  · subst hq
    have k := h1Q rfl
    have z0 : gEq (.int 0) (.int 0) = some (.bool true) := rfl
    have q0 : decide ((0 : Int) < 0) = false := rfl
    have q1 : decide ((1 : Int) < 0) = false := rfl
    have q2 : decide ((-1 : Int) < 0) = true := rfl
    have hP : P = 1 ∨ P = -1 := by omega
    have n0 : -(0 : Int) = 0 := rfl
    have n1 : -(-1 : Int) = 1 := rfl
    rcases hP with rfl | rfl
    · simp! [F_setting_sum, b_setting_sum, h1, h2, gIx, ix2_0, ix2_1, m1, m2, m3, m4, er, aTup, q0, z0, q1]
    · simp! [F_setting_sum, b_setting_sum, h1, h2, gIx, ix2_0, ix2_1, m1, m2, m3, m4, er, aTup, q0, z0, q2, n0, n1]
  · have z0 : (Q == 0) = false := beq_eq_false_iff_ne.mpr hq
    rw [if_neg hq, if_neg hq]
    by_cases hp : 0 < Q
    · have hn : decide (Q < 0) = false := decide_eq_false (by omega)
      rw [if_pos hp, if_pos hp]
      simp! [F_setting_sum, b_setting_sum, h1, h2, gIx, ix2_0, ix2_1, m1, m2, m3, m4, er, aTup, hn, gEq_int, z0]
    · have hn : decide (Q < 0) = true := decide_eq_true (by omega)
      rw [if_neg hp, if_neg hp, Int.zero_sub, Int.zero_sub]
      simp! [F_setting_sum, b_setting_sum, h1, h2, gIx, ix2_0, ix2_1, m1, m2, m3, m4, er, aTup, hn]
theorem w_setsum (S : Sg m a b) (T : Sg m c f) (hm : m ≤ 300) : F_setting_sum [.dat (T2 a b), .dat (T2 c f)] [] = some (.dat (T2 (sgA (a * f + c * b) (b * f - a * c)) (sgB (a * f + c * b) (b * f - a * c))), []) := by
  have s1 : Sz (2 * m + 1) (a * f + c * b) := ((S.sa.mul T.sb).add (T.sa.mul S.sb)).by _ (by omega)
  have s2 : Sz (2 * m + 1) (b * f - a * c) := ((S.sb.mul T.sb).sub (S.sa.mul T.sa)).by _ (by omega)
  have hn := sum_nz S T
  refine core_setsum (w_chset S) (w_chset T) (gMul_ok (S.sa.sm (by omega)) (T.sb.sm (by omega))) (gMul_ok (T.sa.sm (by omega)) (S.sb.sm (by omega))) (gMul_ok (S.sb.sm (by omega)) (T.sb.sm (by omega))) (gMul_ok (S.sa.sm (by omega)) (T.sa.sm (by omega)))
    (e_reduced (v := [a * f + c * b, b * f - a * c]) (r := T2 (a * f + c * b) (b * f - a * c)) .t (m2 (s1.sm (by omega)) (s2.sm (by omega))) (by simp)) fun hz => ?_
  generalize a * f + c * b = p at *
  generalize b * f - a * c = q at *
  have g0 : gL [p, q] ≠ 0 := fun z => hn ⟨gL_zero z p (by simp), gL_zero z q (by simp)⟩
  have gr := gL_red g0
  unfold red at gr
  simp only [List.map_cons, List.map_nil] at gr
  rw [hz] at gr
  simpa [gL] using gr
theorem w_back (S : Sg s a b) : ∃ A B, F_setting_back [.dat (T2 a b)] [] = some (.dat (T2 A B), []) ∧ Sg s A B ∧ ∃ g, g ≠ 0 ∧ a * B + A * b = g * 0 ∧ b * B - a * A = g * 1 := by
  have h1 := w_chset S
  by_cases hb : b = 0
  · have ha := S.z hb
    subst hb
    subst ha
    have z0 : gEq (.int 0) (.int 0) = some (.bool true) := rfl
    refine ⟨1, 0, ?_, S, -1, by decide, by decide, by decide⟩
    simp! [F_setting_back, b_setting_back, h1, gIx, ix2_1, z0]
  · have z0 : (b == 0) = false := beq_eq_false_iff_ne.mpr hb
    refine ⟨-a, b, ?_, ⟨S.b0, fun z => absurd z hb, ?_, S.sa.neg, S.sb⟩, Ls a b, ?_, ?_, ?_⟩
    · simp! [F_setting_back, b_setting_back, h1, gIx, ix2_0, ix2_1, gEq_int, z0]
    · have := S.one
      simpa [gL, Int.natAbs_neg] using this
    · have := ls_pos S
      omega
    · grind
    · unfold Ls; grind
end
end PL


set_option Elab.async false
set_option linter.all false
set_option maxRecDepth 100000
set_option maxHeartbeats 4000000
set_option exponentiation.threshold 20000
namespace PL
open PySem PySem.Spec L2 DL
local macro_rules | `(tactic| simp! [$as,*]) => `(tactic| simp only [fThaw, fThawT, fThawL, thawD, thawO, noL, noLAll, fAug, gAug, fRev, fFnA, fCallV, fBot, fZip, zipD, gSum, intsOf, List.foldl_cons, List.foldl_nil, mkF, fRet, fRetL, fRetN, fSkip, fSeq, fNever, fSet, fAsg, fNew, fIfS, fDrop, fPar, fPar3, fSetc, fSetc2, fVar, fLit, fOp, fUn, fTup, fTup.datsOf, fLst, fNilA, fConsA, fStarA, fCelA, fOfL, fTru, fAndT, fOrT, fNotT, fAndV, fOrV, fNotV, fIf, fBi, fCall, fCallL, fCallFr, fPerm, callF, celOf, celsOk, norm, aName, aNil, aCons, aTup, setD, fSl, fIt, fItL, fItT, fFor, forGo, fLc, lcGo, fYes, wipeD, fCix, fList, fSlL, fPart, fNoPart, fChain, List.length_cons, List.length_nil, List.getElem?_cons_zero, List.getElem?_cons_succ, List.getElem?_nil, List.set_cons_zero, List.set_cons_succ, List.map_cons, List.map_nil, List.cons_append, List.nil_append, List.append_nil, List.replicate, List.take_zero, List.take_nil, List.take_succ_cons, ↓bsome, ↓msome, Option.bind_some, Option.map_some, Option.bind_none, Option.map_none, Nat.sub_self, Int.cast_ofNat_Int, Nat.reduceAdd, Nat.reduceMul, Nat.reduceSub, Nat.reduceLeDiff, Nat.reduceLT, Nat.zero_add, Nat.add_zero, and_self, and_true, true_and, if_true, if_false, ↓reduceIte, ite_true, Bool.true_eq_false, Bool.false_eq_true, beq_self_eq_true, Bool.and_self, Bool.not_true, Bool.not_false, decide_true, decide_false, gLen, gTyIs, gTyNot, tyOf, gNeg, gPlus, DL.gSub, gCmp, gInt, gAbs, gTuple, gMax, gMin, gGcd, LIM, gIx, $as,*])
section
variable {m s k : Nat} {x0 x1 x2 x3 x4 n t0 t1 t2 t3 t4 d a b c f p q : Int} {t : List PyData}
theorem w_dot5 {a0 a1 a2 a3 a4 b0 b1 b2 b3 b4 : Int} (h0 : Sm 4000 a0) (h1 : Sm 4000 a1) (h2 : Sm 4000 a2) (h3 : Sm 4000 a3) (h4 : Sm 4000 a4) (k0 : Sm 4000 b0) (k1 : Sm 4000 b1) (k2 : Sm 4000 b2) (k3 : Sm 4000 b3) (k4 : Sm 4000 b4) : F_dot [.dat (T5 a0 a1 a2 a3 a4), .dat (T5 b0 b1 b2 b3 b4)] [] = some (.dat (.int (a0 * b0 + a1 * b1 + a2 * b2 + a3 * b3 + a4 * b4)), []) := by
  have m0 := gMul_ok h0 k0
  have m1 := gMul_ok h1 k1
  have m2 := gMul_ok h2 k2
  have m3 := gMul_ok h3 k3
  have m4 := gMul_ok h4 k4
  simp! [F_dot, b_dot, fZip, zipD, m0, m1, m2, m3, m4, gSum, intsOf, List.sum_cons, List.sum_nil, Int.add_zero, Int.add_assoc]
theorem core_parts {D v0 v1 v2 v3 v4 : Int} {r0 r1 r2 r3 r4 : PyData} (h1 : F_check_course [.dat (T6 t0 t1 t2 t3 t4 d)] [] = some (.dat .none, []))
    (d0 : F_dot [.dat (T5 3 0 1 0 3), .dat (T5 t0 t1 t2 t3 t4)] [] = some (.dat (.int v0), [])) (d1 : F_dot [.dat (T5 4 0 0 0 (-4)), .dat (T5 t0 t1 t2 t3 t4)] [] = some (.dat (.int v1), [])) (d2 : F_dot [.dat (T5 0 2 0 2 0), .dat (T5 t0 t1 t2 t3 t4)] [] = some (.dat (.int v2), [])) (d3 : F_dot [.dat (T5 1 0 (-1) 0 1), .dat (T5 t0 t1 t2 t3 t4)] [] = some (.dat (.int v3), [])) (d4 : F_dot [.dat (T5 0 1 0 (-1) 0), .dat (T5 t0 t1 t2 t3 t4)] [] = some (.dat (.int v4), []))
    (m8 : gMul (.int 8) (.int d) = some (.int D)) (e0 : F_ratio [.dat (.int v0), .dat (.int D)] [] = some (.dat r0, [])) (e1 : F_ratio [.dat (.int v1), .dat (.int D)] [] = some (.dat r1, [])) (e2 : F_ratio [.dat (.int v2), .dat (.int D)] [] = some (.dat r2, [])) (e3 : F_ratio [.dat (.int v3), .dat (.int D)] [] = some (.dat r3, [])) (e4 : F_ratio [.dat (.int v4), .dat (.int D)] [] = some (.dat r4, [])) :
    F_course_parts [.dat (T6 t0 t1 t2 t3 t4 d)] [] = some (.dat (.tuple [r0, r1, r2, r3, r4]), []) := by
  simp! [F_course_parts, b_course_parts, c__ROWS_OF_PARTS, h1, cut6, d0, d1, d2, d3, d4, m8, e0, e1, e2, e3, e4, gIx, ix6']
/-! what is drawn -/
theorem w_quad (h : Src (k + 5) t) : ∃ (u v w : Int) (t' : List PyData), F__law_quad [.cel 0] [t] = some (.dat (T3 u v w), [t']) ∧ Src k t' ∧ Sz 8 u ∧ Sz 8 v ∧ Sz 8 w := by
  obtain ⟨w, t1, e1, h1, w0, w1⟩ := w_draw (k := k + 4) (m := 5) h (by decide) (by decide)
  obtain ⟨M, t2, e2, h2, hm⟩ := w_pickn (k := k + 3) [1, 2, 3, 7] h1 (by decide) (by decide)
  have hm' : 0 < M ∧ M ≤ 7 := by
    simp only [List.mem_cons, List.not_mem_nil, or_false] at hm
    rcases hm with rfl | rfl | rfl | rfl <;> decide
  simp only [List.map_cons, List.map_nil] at e2
  obtain ⟨p, t3, e3, h3, p0, p1⟩ := w_about (k := k + 2) (m := M) h2 (by omega) (by omega)
  obtain ⟨q, t4, e4, h4, q0, q1⟩ := w_about (k := k + 1) (m := M) h3 (by omega) (by omega)
  obtain ⟨r, t5, e5, h5, r0, r1⟩ := w_about (k := k) (m := M) h4 (by omega) (by omega)
  have sp : Sz 3 p := Sm.sz (by unfold Sm; omega)
  have sq : Sz 3 q := Sm.sz (by unfold Sm; omega)
  have sr : Sz 3 r := Sm.sz (by unfold Sm; omega)
  have m1 := gMul_ok (sp.sm (m := 4000)) (sp.sm (m := 4000))
  have m2 := gMul_ok (sz_2.sm (m := 4000)) (sp.sm (m := 4000))
  have m3 := gMul_ok ((sz_2.mul sp).sm (m := 4000)) (sq.sm (m := 4000))
  have m4 := gMul_ok (sq.sm (m := 4000)) (sq.sm (m := 4000))
  have m5 := gMul_ok (sp.sm (m := 4000)) (sq.sm (m := 4000))
  have m6 := gMul_ok (sp.sm (m := 4000)) (sr.sm (m := 4000))
  have s1 : Sz 8 (p * p) := (sp.mul sp).by _ (by decide)
  have s2 : Sz 8 (2 * p * q) := ((sz_2.mul sp).mul sq).by _ (by decide)
  have s3 : Sz 8 (q * q) := (sq.mul sq).by _ (by decide)
  have s4 : Sz 8 (p * q) := (sp.mul sq).by _ (by decide)
  have s5 : Sz 8 (p * r + q) := ((sp.mul sr).add sq).by _ (by decide)
  have s6 : Sz 8 (1 + p * p) := (sz_1.add (sp.mul sp)).by _ (by decide)
  have s7 : Sz 8 (0 - 2 * p) := (sz_0.sub (sz_2.mul sp)).by _ (by decide)
  have hc : w = 0 ∨ w = 1 ∨ w = 2 ∨ w = 3 ∨ w = 4 := by omega
  have r00 : gEq (.int 0) (.int 0) = some (.bool true) := rfl
  have r10 : gEq (.int 1) (.int 0) = some (.bool false) := rfl
  have r11 : gEq (.int 1) (.int 1) = some (.bool true) := rfl
  have r20 : gEq (.int 2) (.int 0) = some (.bool false) := rfl
  have r21 : gEq (.int 2) (.int 1) = some (.bool false) := rfl
  have r30 : gEq (.int 3) (.int 0) = some (.bool false) := rfl
  have r31 : gEq (.int 3) (.int 1) = some (.bool false) := rfl
  have r40 : gEq (.int 4) (.int 0) = some (.bool false) := rfl
  have r41 : gEq (.int 4) (.int 1) = some (.bool false) := rfl
  have c2 : decide ((2 : Int) < 4) = true := rfl
  have c3 : decide ((3 : Int) < 4) = true := rfl
  have c4 : decide ((4 : Int) < 4) = false := rfl
  rcases hc with rfl | rfl | rfl | rfl | rfl
  · exact ⟨_, _, _, t5, by simp! [F__law_quad, b__law_quad, e1, e2, e3, e4, e5, m1, m2, m3, m4, r00], h5, s1, s2, s3⟩
  · exact ⟨_, _, _, t5, by simp! [F__law_quad, b__law_quad, e1, e2, e3, e4, e5, m5, m6, r10, r11], h5, s4, s5, sr.by _ (by decide)⟩
  · exact ⟨_, _, _, t5, by simp! [F__law_quad, b__law_quad, e1, e2, e3, e4, e5, r20, r21, c2], h5, sp.by _ (by decide), sq.by _ (by decide), sr.by _ (by decide)⟩
  · exact ⟨_, _, _, t5, by simp! [F__law_quad, b__law_quad, e1, e2, e3, e4, e5, r30, r31, c3], h5, sp.by _ (by decide), sq.by _ (by decide), sr.by _ (by decide)⟩
  · exact ⟨_, _, _, t5, by simp! [F__law_quad, b__law_quad, e1, e2, e3, e4, e5, r40, r41, c4, m1, m2], h5, s6, s7, sz_1.by _ (by decide)⟩
theorem w_folded {u v w u' v' w' : Int} (hu : Sz 8 u) (hv : Sz 8 v) (hw : Sz 8 w) (hu' : Sz 8 u') (hv' : Sz 8 v') (hw' : Sz 8 w') : ∃ f0 f1 f2 f3 f4 : Int, F__law_folded [.dat (T3 u v w), .dat (T3 u' v' w')] [] = some (.dat (L5 f0 f1 f2 f3 f4), []) ∧ Sz 20 f0 ∧ Sz 20 f1 ∧ Sz 20 f2 ∧ Sz 20 f3 ∧ Sz 20 f4 := by
  have g : ∀ {x y : Int}, Sz 8 x → Sz 8 y → gMul (.int x) (.int y) = some (.int (x * y)) := fun h k => gMul_ok h.sm k.sm
  have m1 := g hu hu'
  have m2 := g hu hv'
  have m3 := g hv hu'
  have m4 := g hu hw'
  have m5 := g hv hv'
  have m6 := g hw hu'
  have m7 := g hv hw'
  have m8 := g hw hv'
  have m9 := g hw hw'
  refine ⟨u * u', u * v' + v * u', u * w' + v * v' + w * u', v * w' + w * v', w * w', ?_, (hu.mul hu').by _ (by decide), ((hu.mul hv').add (hv.mul hu')).by _ (by decide), (((hu.mul hw').add (hv.mul hv')).add (hw.mul hu')).by _ (by decide), ((hv.mul hw').add (hw.mul hv')).by _ (by decide), (hw.mul hw').by _ (by decide)⟩
  simp! [F__law_folded, b__law_folded, gIx, ix3_0, ix3_1, ix3_2, m1, m2, m3, m4, m5, m6, m7, m8, m9]
theorem co_of {y0 y1 y2 y3 y4 N : Int} (N0 : 0 < N) (h0 : Sz m y0) (h1 : Sz m y1) (h2 : Sz m y2) (h3 : Sz m y3) (h4 : Sz m y4) (hN : Sz m N) (hm : m ≤ 3000) : ∃ x0 x1 x2 x3 x4 n : Int, F__law_low_K36 [.dat (.list [.int y0, .int y1, .int y2, .int y3, .int y4, .int N])] [] = some (.dat (T6 x0 x1 x2 x3 x4 n), []) ∧ Co m x0 x1 x2 x3 x4 n := by
  have r := w_low (v := [y0, y1, y2, y3, y4, N]) .l (fun x hx => by
    simp only [List.mem_cons, List.not_mem_nil, or_false] at hx
    rcases hx with rfl | rfl | rfl | rfl | rfl | rfl
    · exact h0.sm (by omega)
    · exact h1.sm (by omega)
    · exact h2.sm (by omega)
    · exact h3.sm (by omega)
    · exact h4.sm (by omega)
    · exact hN.sm (by omega)) (by simp)
  have gr := gL_red (v := [y0, y1, y2, y3, y4, N]) (gL_ne (x := N) (by simp) (by omega))
  have dp := Int.ediv_pos_of_pos_of_dvd N0 (by have := mL_pos [y0, y1, y2, y3, y4, N]; omega) (mL_dvd (v := [y0, y1, y2, y3, y4, N]) (x := N) (by simp))
  exact ⟨_, _, _, _, _, _, r, dp, gr, h0.div, h1.div, h2.div, h3.div, h4.div, hN.div⟩
end
end PL


set_option Elab.async false
set_option linter.all false
set_option maxRecDepth 100000
set_option maxHeartbeats 4000000
set_option exponentiation.threshold 20000
namespace PL
open PySem PySem.Spec L2 DL
local macro_rules | `(tactic| simp! [$as,*]) => `(tactic| simp only [fThaw, fThawT, fThawL, thawD, thawO, noL, noLAll, fAug, gAug, fRev, fFnA, fCallV, fBot, fZip, zipD, gSum, intsOf, List.foldl_cons, List.foldl_nil, mkF, fRet, fRetL, fRetN, fSkip, fSeq, fNever, fSet, fAsg, fNew, fIfS, fDrop, fPar, fPar3, fSetc, fSetc2, fVar, fLit, fOp, fUn, fTup, fTup.datsOf, fLst, fNilA, fConsA, fStarA, fCelA, fOfL, fTru, fAndT, fOrT, fNotT, fAndV, fOrV, fNotV, fIf, fBi, fCall, fCallL, fCallFr, fPerm, callF, celOf, celsOk, norm, aName, aNil, aCons, aTup, setD, fSl, fIt, fItL, fItT, fFor, forGo, fLc, lcGo, fYes, wipeD, fCix, fList, fSlL, fPart, fNoPart, fChain, List.length_cons, List.length_nil, List.getElem?_cons_zero, List.getElem?_cons_succ, List.getElem?_nil, List.set_cons_zero, List.set_cons_succ, List.map_cons, List.map_nil, List.cons_append, List.nil_append, List.append_nil, List.replicate, List.take_zero, List.take_nil, List.take_succ_cons, ↓bsome, ↓msome, Option.bind_some, Option.map_some, Option.bind_none, Option.map_none, Nat.sub_self, Int.cast_ofNat_Int, Nat.reduceAdd, Nat.reduceMul, Nat.reduceSub, Nat.reduceLeDiff, Nat.reduceLT, Nat.zero_add, Nat.add_zero, and_self, and_true, true_and, if_true, if_false, ↓reduceIte, ite_true, Bool.true_eq_false, Bool.false_eq_true, beq_self_eq_true, Bool.and_self, Bool.not_true, Bool.not_false, decide_true, decide_false, gLen, gTyIs, gTyNot, tyOf, gNeg, gPlus, DL.gSub, gCmp, gInt, gAbs, gTuple, gMax, gMin, gGcd, LIM, gIx, $as,*])
section
variable {m s k : Nat} {x0 x1 x2 x3 x4 n t0 t1 t2 t3 t4 d a b c f p q : Int} {t : List PyData}
theorem gE01 : gEq (.int 0) (.int 1) = some (.bool false) := rfl
theorem gE05 : gEq (.int 0) (.int 5) = some (.bool false) := rfl
theorem gL02 : decide ((0 : Int) < 2) = true := rfl
theorem gE11 : gEq (.int 1) (.int 1) = some (.bool true) := rfl
theorem gE15 : gEq (.int 1) (.int 5) = some (.bool false) := rfl
theorem gL12 : decide ((1 : Int) < 2) = true := rfl
theorem gE21 : gEq (.int 2) (.int 1) = some (.bool false) := rfl
theorem gE25 : gEq (.int 2) (.int 5) = some (.bool false) := rfl
theorem gL22 : decide ((2 : Int) < 2) = false := rfl
theorem gE31 : gEq (.int 3) (.int 1) = some (.bool false) := rfl
theorem gE35 : gEq (.int 3) (.int 5) = some (.bool false) := rfl
theorem gL32 : decide ((3 : Int) < 2) = false := rfl
theorem gE41 : gEq (.int 4) (.int 1) = some (.bool false) := rfl
theorem gE45 : gEq (.int 4) (.int 5) = some (.bool false) := rfl
theorem gL42 : decide ((4 : Int) < 2) = false := rfl
theorem gE51 : gEq (.int 5) (.int 1) = some (.bool false) := rfl
theorem gE55 : gEq (.int 5) (.int 5) = some (.bool true) := rfl
theorem gL52 : decide ((5 : Int) < 2) = false := rfl
theorem core_course0 {M u : Int} {one X fr : PyData} {f0 f1 f2 f3 f4 : Int} {t t1 t2 t3 t4 : List PyData}
    (y1 : F__law_draw [.cel 0, .dat (.int 6)] [t] = some (.dat (.int 0), [t1])) (y2 : F__law_about [.cel 0, .dat (.int 6)] [t1] = some (.dat (.int M), [t2])) (y3 : F__law_draw [.cel 0, .dat (.int 5)] [t2] = some (.dat (.int u), [t3])) (y4 : F__law_quad [.cel 0] [t3] = some (.dat one, [t4]))
     (yf : F__law_folded [.dat one, .dat one] [] = some (.dat (L5 f0 f1 f2 f3 f4), [])) (m2 : gMul (.int 2) (.int M) = some (.int (2 * M)))
    (yl : F__law_low_K36 [.dat (.list [.int (f0 + M), .int (f1 + 0), .int (f2 + 2 * M), .int (f3 + 0), .int (f4 + M), .int (1 + u)])] [] = some (.dat X, [])) (yr : F__law_ratio_K36 [.dat (.int M), .dat (.int (1 + u))] [] = some (.dat fr, [])) : F__law_course [.cel 0] [t] = some (.dat (.tuple [X, fr]), [t4]) := by
  have c0 : (fPar3 5 6 7 (fConsA (fCall F__law_draw (fCelA 0 (fConsA (fLit (.int 6)) fNilA))) (fConsA (fCall F__law_about (fCelA 0 (fConsA (fLit (.int 6)) fNilA))) (fConsA (fOp gPlus (fLit (.int 1)) (fCall F__law_draw (fCelA 0 (fConsA (fLit (.int 5)) fNilA)))) fNilA)))) ⟨[some (.cel 0), none, none, none, none, none, none, none, none, none], [t]⟩ = some (.nx ⟨[some (.cel 0), none, none, none, none, some (.dat (.int 0)), some (.dat (.int M)), some (.dat (.int (1 + u))), none, none], [t3]⟩) := by
    simp! [y1, y2, y3]
  have c1 : (fSet 1 (fCall F__law_quad (fCelA 0 fNilA))) ⟨[some (.cel 0), none, none, none, none, some (.dat (.int 0)), some (.dat (.int M)), some (.dat (.int (1 + u))), none, none], [t3]⟩ = some (.nx ⟨[some (.cel 0), some (.dat one), none, none, none, some (.dat (.int 0)), some (.dat (.int M)), some (.dat (.int (1 + u))), none, none], [t4]⟩) := by
    simp! [y4]
  have c2 : (fSet 2 (fIf (fTru (fOp (gCmp fun i j => decide (i < j)) (fVar 5) (fLit (.int 2)))) (fVar 1) (fCall F__law_quad (fCelA 0 fNilA)))) ⟨[some (.cel 0), some (.dat one), none, none, none, some (.dat (.int 0)), some (.dat (.int M)), some (.dat (.int (1 + u))), none, none], [t4]⟩ = some (.nx ⟨[some (.cel 0), some (.dat one), some (.dat one), none, none, some (.dat (.int 0)), some (.dat (.int M)), some (.dat (.int (1 + u))), none, none], [t4]⟩) := by
    simp! [gL02]
  have c3 : (fSet 3 (fCall F__law_folded (fConsA (fVar 1) (fConsA (fVar 2) fNilA)))) ⟨[some (.cel 0), some (.dat one), some (.dat one), none, none, some (.dat (.int 0)), some (.dat (.int M)), some (.dat (.int (1 + u))), none, none], [t4]⟩ = some (.nx ⟨[some (.cel 0), some (.dat one), some (.dat one), some (.dat (L5 f0 f1 f2 f3 f4)), none, some (.dat (.int 0)), some (.dat (.int M)), some (.dat (.int (1 + u))), none, none], [t4]⟩) := by
    simp! [yf]
  have c4 : (fIfS (fTru (fOp gEq (fVar 5) (fLit (.int 1)))) (fSet 3 (fOfL (fLc (fIt (fVar 3)) (aName 8) fYes (fOp gSub (fLit (.int 0)) (fVar 8)) [8]))) fSkip) ⟨[some (.cel 0), some (.dat one), some (.dat one), some (.dat (L5 f0 f1 f2 f3 f4)), none, some (.dat (.int 0)), some (.dat (.int M)), some (.dat (.int (1 + u))), none, none], [t4]⟩ = some (.nx ⟨[some (.cel 0), some (.dat one), some (.dat one), some (.dat (L5 f0 f1 f2 f3 f4)), none, some (.dat (.int 0)), some (.dat (.int M)), some (.dat (.int (1 + u))), none, none], [t4]⟩) := by
    simp! [gE01]
  have c5 : (fIfS (fTru (fOp gEq (fVar 5) (fLit (.int 5)))) (fSet 3 (fOfL (fLc (fRng1 (fConsA (fLit (.int 5)) fNilA)) (aName 9) fYes (fCall F__law_about (fCelA 0 (fConsA (fLit (.int 9)) fNilA))) [9]))) fSkip) ⟨[some (.cel 0), some (.dat one), some (.dat one), some (.dat (L5 f0 f1 f2 f3 f4)), none, some (.dat (.int 0)), some (.dat (.int M)), some (.dat (.int (1 + u))), none, none], [t4]⟩ = some (.nx ⟨[some (.cel 0), some (.dat one), some (.dat one), some (.dat (L5 f0 f1 f2 f3 f4)), none, some (.dat (.int 0)), some (.dat (.int M)), some (.dat (.int (1 + u))), none, none], [t4]⟩) := by
    simp! [gE05]
  have c6 : (fSet 4 (fOfL (fLst (fConsA (fVar 6) (fConsA (fLit (.int 0)) (fConsA (fOp gMul (fLit (.int 2)) (fVar 6)) (fConsA (fLit (.int 0)) (fConsA (fVar 6) fNilA)))))))) ⟨[some (.cel 0), some (.dat one), some (.dat one), some (.dat (L5 f0 f1 f2 f3 f4)), none, some (.dat (.int 0)), some (.dat (.int M)), some (.dat (.int (1 + u))), none, none], [t4]⟩ = some (.nx ⟨[some (.cel 0), some (.dat one), some (.dat one), some (.dat (L5 f0 f1 f2 f3 f4)), some (.dat (L5 M 0 (2 * M) 0 M)), some (.dat (.int 0)), some (.dat (.int M)), some (.dat (.int (1 + u))), none, none], [t4]⟩) := by
    simp! [m2]
  have c7 : (fRet (fTup (fConsA (fCall F__law_low_K36 (fConsA (fOp gPlus (fOfL (fLc (fRng1 (fConsA (fLit (.int 5)) fNilA)) (aName 9) fYes (fOp gPlus (fOp gIx (fVar 3) (fVar 9)) (fOp gIx (fVar 4) (fVar 9))) [9])) (fOfL (fLst (fConsA (fVar 7) fNilA)))) fNilA)) (fConsA (fCall F__law_ratio_K36 (fConsA (fVar 6) (fConsA (fVar 7) fNilA))) fNilA)))) ⟨[some (.cel 0), some (.dat one), some (.dat one), some (.dat (L5 f0 f1 f2 f3 f4)), some (.dat (L5 M 0 (2 * M) 0 M)), some (.dat (.int 0)), some (.dat (.int M)), some (.dat (.int (1 + u))), none, none], [t4]⟩ = some (.rt (.dat (.tuple [X, fr])) [t4]) := by
    simp! [fRng1, rng_5, tn_5, rng5D, gIx, ix5_0, ix5_1, ix5_2, ix5_3, ix5_4, yl, yr]
  exact fn_ok (np := 1) (nN := 10) (n0 := 1) ((seq_nx c0).trans ((seq_nx c1).trans ((seq_nx c2).trans ((seq_nx c3).trans ((seq_nx c4).trans ((seq_nx c5).trans ((seq_nx c6).trans (c7)))))))) ⟨rfl, rfl⟩ rfl
theorem core_course1 {M u : Int} {one X fr : PyData} {f0 f1 f2 f3 f4 : Int} {t t1 t2 t3 t4 : List PyData}
    (y1 : F__law_draw [.cel 0, .dat (.int 6)] [t] = some (.dat (.int 1), [t1])) (y2 : F__law_about [.cel 0, .dat (.int 6)] [t1] = some (.dat (.int M), [t2])) (y3 : F__law_draw [.cel 0, .dat (.int 5)] [t2] = some (.dat (.int u), [t3])) (y4 : F__law_quad [.cel 0] [t3] = some (.dat one, [t4]))
     (yf : F__law_folded [.dat one, .dat one] [] = some (.dat (L5 f0 f1 f2 f3 f4), [])) (m2 : gMul (.int 2) (.int M) = some (.int (2 * M)))
    (yl : F__law_low_K36 [.dat (.list [.int ((0 - f0) + M), .int ((0 - f1) + 0), .int ((0 - f2) + 2 * M), .int ((0 - f3) + 0), .int ((0 - f4) + M), .int (1 + u)])] [] = some (.dat X, [])) (yr : F__law_ratio_K36 [.dat (.int M), .dat (.int (1 + u))] [] = some (.dat fr, [])) : F__law_course [.cel 0] [t] = some (.dat (.tuple [X, fr]), [t4]) := by
  have c0 : (fPar3 5 6 7 (fConsA (fCall F__law_draw (fCelA 0 (fConsA (fLit (.int 6)) fNilA))) (fConsA (fCall F__law_about (fCelA 0 (fConsA (fLit (.int 6)) fNilA))) (fConsA (fOp gPlus (fLit (.int 1)) (fCall F__law_draw (fCelA 0 (fConsA (fLit (.int 5)) fNilA)))) fNilA)))) ⟨[some (.cel 0), none, none, none, none, none, none, none, none, none], [t]⟩ = some (.nx ⟨[some (.cel 0), none, none, none, none, some (.dat (.int 1)), some (.dat (.int M)), some (.dat (.int (1 + u))), none, none], [t3]⟩) := by
    simp! [y1, y2, y3]
  have c1 : (fSet 1 (fCall F__law_quad (fCelA 0 fNilA))) ⟨[some (.cel 0), none, none, none, none, some (.dat (.int 1)), some (.dat (.int M)), some (.dat (.int (1 + u))), none, none], [t3]⟩ = some (.nx ⟨[some (.cel 0), some (.dat one), none, none, none, some (.dat (.int 1)), some (.dat (.int M)), some (.dat (.int (1 + u))), none, none], [t4]⟩) := by
    simp! [y4]
  have c2 : (fSet 2 (fIf (fTru (fOp (gCmp fun i j => decide (i < j)) (fVar 5) (fLit (.int 2)))) (fVar 1) (fCall F__law_quad (fCelA 0 fNilA)))) ⟨[some (.cel 0), some (.dat one), none, none, none, some (.dat (.int 1)), some (.dat (.int M)), some (.dat (.int (1 + u))), none, none], [t4]⟩ = some (.nx ⟨[some (.cel 0), some (.dat one), some (.dat one), none, none, some (.dat (.int 1)), some (.dat (.int M)), some (.dat (.int (1 + u))), none, none], [t4]⟩) := by
    simp! [gL12]
  have c3 : (fSet 3 (fCall F__law_folded (fConsA (fVar 1) (fConsA (fVar 2) fNilA)))) ⟨[some (.cel 0), some (.dat one), some (.dat one), none, none, some (.dat (.int 1)), some (.dat (.int M)), some (.dat (.int (1 + u))), none, none], [t4]⟩ = some (.nx ⟨[some (.cel 0), some (.dat one), some (.dat one), some (.dat (L5 f0 f1 f2 f3 f4)), none, some (.dat (.int 1)), some (.dat (.int M)), some (.dat (.int (1 + u))), none, none], [t4]⟩) := by
    simp! [yf]
  have c4 : (fIfS (fTru (fOp gEq (fVar 5) (fLit (.int 1)))) (fSet 3 (fOfL (fLc (fIt (fVar 3)) (aName 8) fYes (fOp gSub (fLit (.int 0)) (fVar 8)) [8]))) fSkip) ⟨[some (.cel 0), some (.dat one), some (.dat one), some (.dat (L5 f0 f1 f2 f3 f4)), none, some (.dat (.int 1)), some (.dat (.int M)), some (.dat (.int (1 + u))), none, none], [t4]⟩ = some (.nx ⟨[some (.cel 0), some (.dat one), some (.dat one), some (.dat (L5 (0 - f0) (0 - f1) (0 - f2) (0 - f3) (0 - f4))), none, some (.dat (.int 1)), some (.dat (.int M)), some (.dat (.int (1 + u))), none, none], [t4]⟩) := by
    simp! [gE11]
  have c5 : (fIfS (fTru (fOp gEq (fVar 5) (fLit (.int 5)))) (fSet 3 (fOfL (fLc (fRng1 (fConsA (fLit (.int 5)) fNilA)) (aName 9) fYes (fCall F__law_about (fCelA 0 (fConsA (fLit (.int 9)) fNilA))) [9]))) fSkip) ⟨[some (.cel 0), some (.dat one), some (.dat one), some (.dat (L5 (0 - f0) (0 - f1) (0 - f2) (0 - f3) (0 - f4))), none, some (.dat (.int 1)), some (.dat (.int M)), some (.dat (.int (1 + u))), none, none], [t4]⟩ = some (.nx ⟨[some (.cel 0), some (.dat one), some (.dat one), some (.dat (L5 (0 - f0) (0 - f1) (0 - f2) (0 - f3) (0 - f4))), none, some (.dat (.int 1)), some (.dat (.int M)), some (.dat (.int (1 + u))), none, none], [t4]⟩) := by
    simp! [gE15]
  have c6 : (fSet 4 (fOfL (fLst (fConsA (fVar 6) (fConsA (fLit (.int 0)) (fConsA (fOp gMul (fLit (.int 2)) (fVar 6)) (fConsA (fLit (.int 0)) (fConsA (fVar 6) fNilA)))))))) ⟨[some (.cel 0), some (.dat one), some (.dat one), some (.dat (L5 (0 - f0) (0 - f1) (0 - f2) (0 - f3) (0 - f4))), none, some (.dat (.int 1)), some (.dat (.int M)), some (.dat (.int (1 + u))), none, none], [t4]⟩ = some (.nx ⟨[some (.cel 0), some (.dat one), some (.dat one), some (.dat (L5 (0 - f0) (0 - f1) (0 - f2) (0 - f3) (0 - f4))), some (.dat (L5 M 0 (2 * M) 0 M)), some (.dat (.int 1)), some (.dat (.int M)), some (.dat (.int (1 + u))), none, none], [t4]⟩) := by
    simp! [m2]
  have c7 : (fRet (fTup (fConsA (fCall F__law_low_K36 (fConsA (fOp gPlus (fOfL (fLc (fRng1 (fConsA (fLit (.int 5)) fNilA)) (aName 9) fYes (fOp gPlus (fOp gIx (fVar 3) (fVar 9)) (fOp gIx (fVar 4) (fVar 9))) [9])) (fOfL (fLst (fConsA (fVar 7) fNilA)))) fNilA)) (fConsA (fCall F__law_ratio_K36 (fConsA (fVar 6) (fConsA (fVar 7) fNilA))) fNilA)))) ⟨[some (.cel 0), some (.dat one), some (.dat one), some (.dat (L5 (0 - f0) (0 - f1) (0 - f2) (0 - f3) (0 - f4))), some (.dat (L5 M 0 (2 * M) 0 M)), some (.dat (.int 1)), some (.dat (.int M)), some (.dat (.int (1 + u))), none, none], [t4]⟩ = some (.rt (.dat (.tuple [X, fr])) [t4]) := by
    simp! [fRng1, rng_5, tn_5, rng5D, gIx, ix5_0, ix5_1, ix5_2, ix5_3, ix5_4, yl, yr]
  exact fn_ok (np := 1) (nN := 10) (n0 := 1) ((seq_nx c0).trans ((seq_nx c1).trans ((seq_nx c2).trans ((seq_nx c3).trans ((seq_nx c4).trans ((seq_nx c5).trans ((seq_nx c6).trans (c7)))))))) ⟨rfl, rfl⟩ rfl
theorem core_course2 {M u : Int} {one two X fr : PyData} {f0 f1 f2 f3 f4 : Int} {t t1 t2 t3 t4 t5 : List PyData}
    (y1 : F__law_draw [.cel 0, .dat (.int 6)] [t] = some (.dat (.int 2), [t1])) (y2 : F__law_about [.cel 0, .dat (.int 6)] [t1] = some (.dat (.int M), [t2])) (y3 : F__law_draw [.cel 0, .dat (.int 5)] [t2] = some (.dat (.int u), [t3])) (y4 : F__law_quad [.cel 0] [t3] = some (.dat one, [t4]))
    (y5 : F__law_quad [.cel 0] [t4] = some (.dat two, [t5])) (yf : F__law_folded [.dat one, .dat two] [] = some (.dat (L5 f0 f1 f2 f3 f4), [])) (m2 : gMul (.int 2) (.int M) = some (.int (2 * M)))
    (yl : F__law_low_K36 [.dat (.list [.int (f0 + M), .int (f1 + 0), .int (f2 + 2 * M), .int (f3 + 0), .int (f4 + M), .int (1 + u)])] [] = some (.dat X, [])) (yr : F__law_ratio_K36 [.dat (.int M), .dat (.int (1 + u))] [] = some (.dat fr, [])) : F__law_course [.cel 0] [t] = some (.dat (.tuple [X, fr]), [t5]) := by
  have c0 : (fPar3 5 6 7 (fConsA (fCall F__law_draw (fCelA 0 (fConsA (fLit (.int 6)) fNilA))) (fConsA (fCall F__law_about (fCelA 0 (fConsA (fLit (.int 6)) fNilA))) (fConsA (fOp gPlus (fLit (.int 1)) (fCall F__law_draw (fCelA 0 (fConsA (fLit (.int 5)) fNilA)))) fNilA)))) ⟨[some (.cel 0), none, none, none, none, none, none, none, none, none], [t]⟩ = some (.nx ⟨[some (.cel 0), none, none, none, none, some (.dat (.int 2)), some (.dat (.int M)), some (.dat (.int (1 + u))), none, none], [t3]⟩) := by
    simp! [y1, y2, y3]
  have c1 : (fSet 1 (fCall F__law_quad (fCelA 0 fNilA))) ⟨[some (.cel 0), none, none, none, none, some (.dat (.int 2)), some (.dat (.int M)), some (.dat (.int (1 + u))), none, none], [t3]⟩ = some (.nx ⟨[some (.cel 0), some (.dat one), none, none, none, some (.dat (.int 2)), some (.dat (.int M)), some (.dat (.int (1 + u))), none, none], [t4]⟩) := by
    simp! [y4]
  have c2 : (fSet 2 (fIf (fTru (fOp (gCmp fun i j => decide (i < j)) (fVar 5) (fLit (.int 2)))) (fVar 1) (fCall F__law_quad (fCelA 0 fNilA)))) ⟨[some (.cel 0), some (.dat one), none, none, none, some (.dat (.int 2)), some (.dat (.int M)), some (.dat (.int (1 + u))), none, none], [t4]⟩ = some (.nx ⟨[some (.cel 0), some (.dat one), some (.dat two), none, none, some (.dat (.int 2)), some (.dat (.int M)), some (.dat (.int (1 + u))), none, none], [t5]⟩) := by
    simp! [gL22, y5]
  have c3 : (fSet 3 (fCall F__law_folded (fConsA (fVar 1) (fConsA (fVar 2) fNilA)))) ⟨[some (.cel 0), some (.dat one), some (.dat two), none, none, some (.dat (.int 2)), some (.dat (.int M)), some (.dat (.int (1 + u))), none, none], [t5]⟩ = some (.nx ⟨[some (.cel 0), some (.dat one), some (.dat two), some (.dat (L5 f0 f1 f2 f3 f4)), none, some (.dat (.int 2)), some (.dat (.int M)), some (.dat (.int (1 + u))), none, none], [t5]⟩) := by
    simp! [yf]
  have c4 : (fIfS (fTru (fOp gEq (fVar 5) (fLit (.int 1)))) (fSet 3 (fOfL (fLc (fIt (fVar 3)) (aName 8) fYes (fOp gSub (fLit (.int 0)) (fVar 8)) [8]))) fSkip) ⟨[some (.cel 0), some (.dat one), some (.dat two), some (.dat (L5 f0 f1 f2 f3 f4)), none, some (.dat (.int 2)), some (.dat (.int M)), some (.dat (.int (1 + u))), none, none], [t5]⟩ = some (.nx ⟨[some (.cel 0), some (.dat one), some (.dat two), some (.dat (L5 f0 f1 f2 f3 f4)), none, some (.dat (.int 2)), some (.dat (.int M)), some (.dat (.int (1 + u))), none, none], [t5]⟩) := by
    simp! [gE21]
  have c5 : (fIfS (fTru (fOp gEq (fVar 5) (fLit (.int 5)))) (fSet 3 (fOfL (fLc (fRng1 (fConsA (fLit (.int 5)) fNilA)) (aName 9) fYes (fCall F__law_about (fCelA 0 (fConsA (fLit (.int 9)) fNilA))) [9]))) fSkip) ⟨[some (.cel 0), some (.dat one), some (.dat two), some (.dat (L5 f0 f1 f2 f3 f4)), none, some (.dat (.int 2)), some (.dat (.int M)), some (.dat (.int (1 + u))), none, none], [t5]⟩ = some (.nx ⟨[some (.cel 0), some (.dat one), some (.dat two), some (.dat (L5 f0 f1 f2 f3 f4)), none, some (.dat (.int 2)), some (.dat (.int M)), some (.dat (.int (1 + u))), none, none], [t5]⟩) := by
    simp! [gE25]
  have c6 : (fSet 4 (fOfL (fLst (fConsA (fVar 6) (fConsA (fLit (.int 0)) (fConsA (fOp gMul (fLit (.int 2)) (fVar 6)) (fConsA (fLit (.int 0)) (fConsA (fVar 6) fNilA)))))))) ⟨[some (.cel 0), some (.dat one), some (.dat two), some (.dat (L5 f0 f1 f2 f3 f4)), none, some (.dat (.int 2)), some (.dat (.int M)), some (.dat (.int (1 + u))), none, none], [t5]⟩ = some (.nx ⟨[some (.cel 0), some (.dat one), some (.dat two), some (.dat (L5 f0 f1 f2 f3 f4)), some (.dat (L5 M 0 (2 * M) 0 M)), some (.dat (.int 2)), some (.dat (.int M)), some (.dat (.int (1 + u))), none, none], [t5]⟩) := by
    simp! [m2]
  have c7 : (fRet (fTup (fConsA (fCall F__law_low_K36 (fConsA (fOp gPlus (fOfL (fLc (fRng1 (fConsA (fLit (.int 5)) fNilA)) (aName 9) fYes (fOp gPlus (fOp gIx (fVar 3) (fVar 9)) (fOp gIx (fVar 4) (fVar 9))) [9])) (fOfL (fLst (fConsA (fVar 7) fNilA)))) fNilA)) (fConsA (fCall F__law_ratio_K36 (fConsA (fVar 6) (fConsA (fVar 7) fNilA))) fNilA)))) ⟨[some (.cel 0), some (.dat one), some (.dat two), some (.dat (L5 f0 f1 f2 f3 f4)), some (.dat (L5 M 0 (2 * M) 0 M)), some (.dat (.int 2)), some (.dat (.int M)), some (.dat (.int (1 + u))), none, none], [t5]⟩ = some (.rt (.dat (.tuple [X, fr])) [t5]) := by
    simp! [fRng1, rng_5, tn_5, rng5D, gIx, ix5_0, ix5_1, ix5_2, ix5_3, ix5_4, yl, yr]
  exact fn_ok (np := 1) (nN := 10) (n0 := 1) ((seq_nx c0).trans ((seq_nx c1).trans ((seq_nx c2).trans ((seq_nx c3).trans ((seq_nx c4).trans ((seq_nx c5).trans ((seq_nx c6).trans (c7)))))))) ⟨rfl, rfl⟩ rfl
theorem core_course3 {M u : Int} {one two X fr : PyData} {f0 f1 f2 f3 f4 : Int} {t t1 t2 t3 t4 t5 : List PyData}
    (y1 : F__law_draw [.cel 0, .dat (.int 6)] [t] = some (.dat (.int 3), [t1])) (y2 : F__law_about [.cel 0, .dat (.int 6)] [t1] = some (.dat (.int M), [t2])) (y3 : F__law_draw [.cel 0, .dat (.int 5)] [t2] = some (.dat (.int u), [t3])) (y4 : F__law_quad [.cel 0] [t3] = some (.dat one, [t4]))
    (y5 : F__law_quad [.cel 0] [t4] = some (.dat two, [t5])) (yf : F__law_folded [.dat one, .dat two] [] = some (.dat (L5 f0 f1 f2 f3 f4), [])) (m2 : gMul (.int 2) (.int M) = some (.int (2 * M)))
    (yl : F__law_low_K36 [.dat (.list [.int (f0 + M), .int (f1 + 0), .int (f2 + 2 * M), .int (f3 + 0), .int (f4 + M), .int (1 + u)])] [] = some (.dat X, [])) (yr : F__law_ratio_K36 [.dat (.int M), .dat (.int (1 + u))] [] = some (.dat fr, [])) : F__law_course [.cel 0] [t] = some (.dat (.tuple [X, fr]), [t5]) := by
  have c0 : (fPar3 5 6 7 (fConsA (fCall F__law_draw (fCelA 0 (fConsA (fLit (.int 6)) fNilA))) (fConsA (fCall F__law_about (fCelA 0 (fConsA (fLit (.int 6)) fNilA))) (fConsA (fOp gPlus (fLit (.int 1)) (fCall F__law_draw (fCelA 0 (fConsA (fLit (.int 5)) fNilA)))) fNilA)))) ⟨[some (.cel 0), none, none, none, none, none, none, none, none, none], [t]⟩ = some (.nx ⟨[some (.cel 0), none, none, none, none, some (.dat (.int 3)), some (.dat (.int M)), some (.dat (.int (1 + u))), none, none], [t3]⟩) := by
    simp! [y1, y2, y3]
  have c1 : (fSet 1 (fCall F__law_quad (fCelA 0 fNilA))) ⟨[some (.cel 0), none, none, none, none, some (.dat (.int 3)), some (.dat (.int M)), some (.dat (.int (1 + u))), none, none], [t3]⟩ = some (.nx ⟨[some (.cel 0), some (.dat one), none, none, none, some (.dat (.int 3)), some (.dat (.int M)), some (.dat (.int (1 + u))), none, none], [t4]⟩) := by
    simp! [y4]
  have c2 : (fSet 2 (fIf (fTru (fOp (gCmp fun i j => decide (i < j)) (fVar 5) (fLit (.int 2)))) (fVar 1) (fCall F__law_quad (fCelA 0 fNilA)))) ⟨[some (.cel 0), some (.dat one), none, none, none, some (.dat (.int 3)), some (.dat (.int M)), some (.dat (.int (1 + u))), none, none], [t4]⟩ = some (.nx ⟨[some (.cel 0), some (.dat one), some (.dat two), none, none, some (.dat (.int 3)), some (.dat (.int M)), some (.dat (.int (1 + u))), none, none], [t5]⟩) := by
    simp! [gL32, y5]
  have c3 : (fSet 3 (fCall F__law_folded (fConsA (fVar 1) (fConsA (fVar 2) fNilA)))) ⟨[some (.cel 0), some (.dat one), some (.dat two), none, none, some (.dat (.int 3)), some (.dat (.int M)), some (.dat (.int (1 + u))), none, none], [t5]⟩ = some (.nx ⟨[some (.cel 0), some (.dat one), some (.dat two), some (.dat (L5 f0 f1 f2 f3 f4)), none, some (.dat (.int 3)), some (.dat (.int M)), some (.dat (.int (1 + u))), none, none], [t5]⟩) := by
    simp! [yf]
  have c4 : (fIfS (fTru (fOp gEq (fVar 5) (fLit (.int 1)))) (fSet 3 (fOfL (fLc (fIt (fVar 3)) (aName 8) fYes (fOp gSub (fLit (.int 0)) (fVar 8)) [8]))) fSkip) ⟨[some (.cel 0), some (.dat one), some (.dat two), some (.dat (L5 f0 f1 f2 f3 f4)), none, some (.dat (.int 3)), some (.dat (.int M)), some (.dat (.int (1 + u))), none, none], [t5]⟩ = some (.nx ⟨[some (.cel 0), some (.dat one), some (.dat two), some (.dat (L5 f0 f1 f2 f3 f4)), none, some (.dat (.int 3)), some (.dat (.int M)), some (.dat (.int (1 + u))), none, none], [t5]⟩) := by
    simp! [gE31]
  have c5 : (fIfS (fTru (fOp gEq (fVar 5) (fLit (.int 5)))) (fSet 3 (fOfL (fLc (fRng1 (fConsA (fLit (.int 5)) fNilA)) (aName 9) fYes (fCall F__law_about (fCelA 0 (fConsA (fLit (.int 9)) fNilA))) [9]))) fSkip) ⟨[some (.cel 0), some (.dat one), some (.dat two), some (.dat (L5 f0 f1 f2 f3 f4)), none, some (.dat (.int 3)), some (.dat (.int M)), some (.dat (.int (1 + u))), none, none], [t5]⟩ = some (.nx ⟨[some (.cel 0), some (.dat one), some (.dat two), some (.dat (L5 f0 f1 f2 f3 f4)), none, some (.dat (.int 3)), some (.dat (.int M)), some (.dat (.int (1 + u))), none, none], [t5]⟩) := by
    simp! [gE35]
  have c6 : (fSet 4 (fOfL (fLst (fConsA (fVar 6) (fConsA (fLit (.int 0)) (fConsA (fOp gMul (fLit (.int 2)) (fVar 6)) (fConsA (fLit (.int 0)) (fConsA (fVar 6) fNilA)))))))) ⟨[some (.cel 0), some (.dat one), some (.dat two), some (.dat (L5 f0 f1 f2 f3 f4)), none, some (.dat (.int 3)), some (.dat (.int M)), some (.dat (.int (1 + u))), none, none], [t5]⟩ = some (.nx ⟨[some (.cel 0), some (.dat one), some (.dat two), some (.dat (L5 f0 f1 f2 f3 f4)), some (.dat (L5 M 0 (2 * M) 0 M)), some (.dat (.int 3)), some (.dat (.int M)), some (.dat (.int (1 + u))), none, none], [t5]⟩) := by
    simp! [m2]
  have c7 : (fRet (fTup (fConsA (fCall F__law_low_K36 (fConsA (fOp gPlus (fOfL (fLc (fRng1 (fConsA (fLit (.int 5)) fNilA)) (aName 9) fYes (fOp gPlus (fOp gIx (fVar 3) (fVar 9)) (fOp gIx (fVar 4) (fVar 9))) [9])) (fOfL (fLst (fConsA (fVar 7) fNilA)))) fNilA)) (fConsA (fCall F__law_ratio_K36 (fConsA (fVar 6) (fConsA (fVar 7) fNilA))) fNilA)))) ⟨[some (.cel 0), some (.dat one), some (.dat two), some (.dat (L5 f0 f1 f2 f3 f4)), some (.dat (L5 M 0 (2 * M) 0 M)), some (.dat (.int 3)), some (.dat (.int M)), some (.dat (.int (1 + u))), none, none], [t5]⟩ = some (.rt (.dat (.tuple [X, fr])) [t5]) := by
    simp! [fRng1, rng_5, tn_5, rng5D, gIx, ix5_0, ix5_1, ix5_2, ix5_3, ix5_4, yl, yr]
  exact fn_ok (np := 1) (nN := 10) (n0 := 1) ((seq_nx c0).trans ((seq_nx c1).trans ((seq_nx c2).trans ((seq_nx c3).trans ((seq_nx c4).trans ((seq_nx c5).trans ((seq_nx c6).trans (c7)))))))) ⟨rfl, rfl⟩ rfl
theorem core_course4 {M u : Int} {one two X fr : PyData} {f0 f1 f2 f3 f4 : Int} {t t1 t2 t3 t4 t5 : List PyData}
    (y1 : F__law_draw [.cel 0, .dat (.int 6)] [t] = some (.dat (.int 4), [t1])) (y2 : F__law_about [.cel 0, .dat (.int 6)] [t1] = some (.dat (.int M), [t2])) (y3 : F__law_draw [.cel 0, .dat (.int 5)] [t2] = some (.dat (.int u), [t3])) (y4 : F__law_quad [.cel 0] [t3] = some (.dat one, [t4]))
    (y5 : F__law_quad [.cel 0] [t4] = some (.dat two, [t5])) (yf : F__law_folded [.dat one, .dat two] [] = some (.dat (L5 f0 f1 f2 f3 f4), [])) (m2 : gMul (.int 2) (.int M) = some (.int (2 * M)))
    (yl : F__law_low_K36 [.dat (.list [.int (f0 + M), .int (f1 + 0), .int (f2 + 2 * M), .int (f3 + 0), .int (f4 + M), .int (1 + u)])] [] = some (.dat X, [])) (yr : F__law_ratio_K36 [.dat (.int M), .dat (.int (1 + u))] [] = some (.dat fr, [])) : F__law_course [.cel 0] [t] = some (.dat (.tuple [X, fr]), [t5]) := by
  have c0 : (fPar3 5 6 7 (fConsA (fCall F__law_draw (fCelA 0 (fConsA (fLit (.int 6)) fNilA))) (fConsA (fCall F__law_about (fCelA 0 (fConsA (fLit (.int 6)) fNilA))) (fConsA (fOp gPlus (fLit (.int 1)) (fCall F__law_draw (fCelA 0 (fConsA (fLit (.int 5)) fNilA)))) fNilA)))) ⟨[some (.cel 0), none, none, none, none, none, none, none, none, none], [t]⟩ = some (.nx ⟨[some (.cel 0), none, none, none, none, some (.dat (.int 4)), some (.dat (.int M)), some (.dat (.int (1 + u))), none, none], [t3]⟩) := by
    simp! [y1, y2, y3]
  have c1 : (fSet 1 (fCall F__law_quad (fCelA 0 fNilA))) ⟨[some (.cel 0), none, none, none, none, some (.dat (.int 4)), some (.dat (.int M)), some (.dat (.int (1 + u))), none, none], [t3]⟩ = some (.nx ⟨[some (.cel 0), some (.dat one), none, none, none, some (.dat (.int 4)), some (.dat (.int M)), some (.dat (.int (1 + u))), none, none], [t4]⟩) := by
    simp! [y4]
  have c2 : (fSet 2 (fIf (fTru (fOp (gCmp fun i j => decide (i < j)) (fVar 5) (fLit (.int 2)))) (fVar 1) (fCall F__law_quad (fCelA 0 fNilA)))) ⟨[some (.cel 0), some (.dat one), none, none, none, some (.dat (.int 4)), some (.dat (.int M)), some (.dat (.int (1 + u))), none, none], [t4]⟩ = some (.nx ⟨[some (.cel 0), some (.dat one), some (.dat two), none, none, some (.dat (.int 4)), some (.dat (.int M)), some (.dat (.int (1 + u))), none, none], [t5]⟩) := by
    simp! [gL42, y5]
  have c3 : (fSet 3 (fCall F__law_folded (fConsA (fVar 1) (fConsA (fVar 2) fNilA)))) ⟨[some (.cel 0), some (.dat one), some (.dat two), none, none, some (.dat (.int 4)), some (.dat (.int M)), some (.dat (.int (1 + u))), none, none], [t5]⟩ = some (.nx ⟨[some (.cel 0), some (.dat one), some (.dat two), some (.dat (L5 f0 f1 f2 f3 f4)), none, some (.dat (.int 4)), some (.dat (.int M)), some (.dat (.int (1 + u))), none, none], [t5]⟩) := by
    simp! [yf]
  have c4 : (fIfS (fTru (fOp gEq (fVar 5) (fLit (.int 1)))) (fSet 3 (fOfL (fLc (fIt (fVar 3)) (aName 8) fYes (fOp gSub (fLit (.int 0)) (fVar 8)) [8]))) fSkip) ⟨[some (.cel 0), some (.dat one), some (.dat two), some (.dat (L5 f0 f1 f2 f3 f4)), none, some (.dat (.int 4)), some (.dat (.int M)), some (.dat (.int (1 + u))), none, none], [t5]⟩ = some (.nx ⟨[some (.cel 0), some (.dat one), some (.dat two), some (.dat (L5 f0 f1 f2 f3 f4)), none, some (.dat (.int 4)), some (.dat (.int M)), some (.dat (.int (1 + u))), none, none], [t5]⟩) := by
    simp! [gE41]
  have c5 : (fIfS (fTru (fOp gEq (fVar 5) (fLit (.int 5)))) (fSet 3 (fOfL (fLc (fRng1 (fConsA (fLit (.int 5)) fNilA)) (aName 9) fYes (fCall F__law_about (fCelA 0 (fConsA (fLit (.int 9)) fNilA))) [9]))) fSkip) ⟨[some (.cel 0), some (.dat one), some (.dat two), some (.dat (L5 f0 f1 f2 f3 f4)), none, some (.dat (.int 4)), some (.dat (.int M)), some (.dat (.int (1 + u))), none, none], [t5]⟩ = some (.nx ⟨[some (.cel 0), some (.dat one), some (.dat two), some (.dat (L5 f0 f1 f2 f3 f4)), none, some (.dat (.int 4)), some (.dat (.int M)), some (.dat (.int (1 + u))), none, none], [t5]⟩) := by
    simp! [gE45]
  have c6 : (fSet 4 (fOfL (fLst (fConsA (fVar 6) (fConsA (fLit (.int 0)) (fConsA (fOp gMul (fLit (.int 2)) (fVar 6)) (fConsA (fLit (.int 0)) (fConsA (fVar 6) fNilA)))))))) ⟨[some (.cel 0), some (.dat one), some (.dat two), some (.dat (L5 f0 f1 f2 f3 f4)), none, some (.dat (.int 4)), some (.dat (.int M)), some (.dat (.int (1 + u))), none, none], [t5]⟩ = some (.nx ⟨[some (.cel 0), some (.dat one), some (.dat two), some (.dat (L5 f0 f1 f2 f3 f4)), some (.dat (L5 M 0 (2 * M) 0 M)), some (.dat (.int 4)), some (.dat (.int M)), some (.dat (.int (1 + u))), none, none], [t5]⟩) := by
    simp! [m2]
  have c7 : (fRet (fTup (fConsA (fCall F__law_low_K36 (fConsA (fOp gPlus (fOfL (fLc (fRng1 (fConsA (fLit (.int 5)) fNilA)) (aName 9) fYes (fOp gPlus (fOp gIx (fVar 3) (fVar 9)) (fOp gIx (fVar 4) (fVar 9))) [9])) (fOfL (fLst (fConsA (fVar 7) fNilA)))) fNilA)) (fConsA (fCall F__law_ratio_K36 (fConsA (fVar 6) (fConsA (fVar 7) fNilA))) fNilA)))) ⟨[some (.cel 0), some (.dat one), some (.dat two), some (.dat (L5 f0 f1 f2 f3 f4)), some (.dat (L5 M 0 (2 * M) 0 M)), some (.dat (.int 4)), some (.dat (.int M)), some (.dat (.int (1 + u))), none, none], [t5]⟩ = some (.rt (.dat (.tuple [X, fr])) [t5]) := by
    simp! [fRng1, rng_5, tn_5, rng5D, gIx, ix5_0, ix5_1, ix5_2, ix5_3, ix5_4, yl, yr]
  exact fn_ok (np := 1) (nN := 10) (n0 := 1) ((seq_nx c0).trans ((seq_nx c1).trans ((seq_nx c2).trans ((seq_nx c3).trans ((seq_nx c4).trans ((seq_nx c5).trans ((seq_nx c6).trans (c7)))))))) ⟨rfl, rfl⟩ rfl
theorem core_course5 {M u : Int} {one two X fr : PyData} {f0 f1 f2 f3 f4 g0 g1 g2 g3 g4 : Int} {t t1 t2 t3 t4 t5 t6 t7 t8 t9 ta : List PyData}
    (y1 : F__law_draw [.cel 0, .dat (.int 6)] [t] = some (.dat (.int 5), [t1])) (y2 : F__law_about [.cel 0, .dat (.int 6)] [t1] = some (.dat (.int M), [t2])) (y3 : F__law_draw [.cel 0, .dat (.int 5)] [t2] = some (.dat (.int u), [t3])) (y4 : F__law_quad [.cel 0] [t3] = some (.dat one, [t4]))
    (y5 : F__law_quad [.cel 0] [t4] = some (.dat two, [t5])) (b0 : F__law_about [.cel 0, .dat (.int 9)] [t5] = some (.dat (.int g0), [t6])) (b1 : F__law_about [.cel 0, .dat (.int 9)] [t6] = some (.dat (.int g1), [t7])) (b2 : F__law_about [.cel 0, .dat (.int 9)] [t7] = some (.dat (.int g2), [t8])) (b3 : F__law_about [.cel 0, .dat (.int 9)] [t8] = some (.dat (.int g3), [t9])) (b4 : F__law_about [.cel 0, .dat (.int 9)] [t9] = some (.dat (.int g4), [ta])) (yf : F__law_folded [.dat one, .dat two] [] = some (.dat (L5 f0 f1 f2 f3 f4), [])) (m2 : gMul (.int 2) (.int M) = some (.int (2 * M)))
    (yl : F__law_low_K36 [.dat (.list [.int (g0 + M), .int (g1 + 0), .int (g2 + 2 * M), .int (g3 + 0), .int (g4 + M), .int (1 + u)])] [] = some (.dat X, [])) (yr : F__law_ratio_K36 [.dat (.int M), .dat (.int (1 + u))] [] = some (.dat fr, [])) : F__law_course [.cel 0] [t] = some (.dat (.tuple [X, fr]), [ta]) := by
  have c0 : (fPar3 5 6 7 (fConsA (fCall F__law_draw (fCelA 0 (fConsA (fLit (.int 6)) fNilA))) (fConsA (fCall F__law_about (fCelA 0 (fConsA (fLit (.int 6)) fNilA))) (fConsA (fOp gPlus (fLit (.int 1)) (fCall F__law_draw (fCelA 0 (fConsA (fLit (.int 5)) fNilA)))) fNilA)))) ⟨[some (.cel 0), none, none, none, none, none, none, none, none, none], [t]⟩ = some (.nx ⟨[some (.cel 0), none, none, none, none, some (.dat (.int 5)), some (.dat (.int M)), some (.dat (.int (1 + u))), none, none], [t3]⟩) := by
    simp! [y1, y2, y3]
  have c1 : (fSet 1 (fCall F__law_quad (fCelA 0 fNilA))) ⟨[some (.cel 0), none, none, none, none, some (.dat (.int 5)), some (.dat (.int M)), some (.dat (.int (1 + u))), none, none], [t3]⟩ = some (.nx ⟨[some (.cel 0), some (.dat one), none, none, none, some (.dat (.int 5)), some (.dat (.int M)), some (.dat (.int (1 + u))), none, none], [t4]⟩) := by
    simp! [y4]
  have c2 : (fSet 2 (fIf (fTru (fOp (gCmp fun i j => decide (i < j)) (fVar 5) (fLit (.int 2)))) (fVar 1) (fCall F__law_quad (fCelA 0 fNilA)))) ⟨[some (.cel 0), some (.dat one), none, none, none, some (.dat (.int 5)), some (.dat (.int M)), some (.dat (.int (1 + u))), none, none], [t4]⟩ = some (.nx ⟨[some (.cel 0), some (.dat one), some (.dat two), none, none, some (.dat (.int 5)), some (.dat (.int M)), some (.dat (.int (1 + u))), none, none], [t5]⟩) := by
    simp! [gL52, y5]
  have c3 : (fSet 3 (fCall F__law_folded (fConsA (fVar 1) (fConsA (fVar 2) fNilA)))) ⟨[some (.cel 0), some (.dat one), some (.dat two), none, none, some (.dat (.int 5)), some (.dat (.int M)), some (.dat (.int (1 + u))), none, none], [t5]⟩ = some (.nx ⟨[some (.cel 0), some (.dat one), some (.dat two), some (.dat (L5 f0 f1 f2 f3 f4)), none, some (.dat (.int 5)), some (.dat (.int M)), some (.dat (.int (1 + u))), none, none], [t5]⟩) := by
    simp! [yf]
  have c4 : (fIfS (fTru (fOp gEq (fVar 5) (fLit (.int 1)))) (fSet 3 (fOfL (fLc (fIt (fVar 3)) (aName 8) fYes (fOp gSub (fLit (.int 0)) (fVar 8)) [8]))) fSkip) ⟨[some (.cel 0), some (.dat one), some (.dat two), some (.dat (L5 f0 f1 f2 f3 f4)), none, some (.dat (.int 5)), some (.dat (.int M)), some (.dat (.int (1 + u))), none, none], [t5]⟩ = some (.nx ⟨[some (.cel 0), some (.dat one), some (.dat two), some (.dat (L5 f0 f1 f2 f3 f4)), none, some (.dat (.int 5)), some (.dat (.int M)), some (.dat (.int (1 + u))), none, none], [t5]⟩) := by
    simp! [gE51]
  have c5 : (fIfS (fTru (fOp gEq (fVar 5) (fLit (.int 5)))) (fSet 3 (fOfL (fLc (fRng1 (fConsA (fLit (.int 5)) fNilA)) (aName 9) fYes (fCall F__law_about (fCelA 0 (fConsA (fLit (.int 9)) fNilA))) [9]))) fSkip) ⟨[some (.cel 0), some (.dat one), some (.dat two), some (.dat (L5 f0 f1 f2 f3 f4)), none, some (.dat (.int 5)), some (.dat (.int M)), some (.dat (.int (1 + u))), none, none], [t5]⟩ = some (.nx ⟨[some (.cel 0), some (.dat one), some (.dat two), some (.dat (L5 g0 g1 g2 g3 g4)), none, some (.dat (.int 5)), some (.dat (.int M)), some (.dat (.int (1 + u))), none, none], [ta]⟩) := by
    simp! [gE55, fRng1, rng_5, tn_5, rng5D, b0, b1, b2, b3, b4]
  have c6 : (fSet 4 (fOfL (fLst (fConsA (fVar 6) (fConsA (fLit (.int 0)) (fConsA (fOp gMul (fLit (.int 2)) (fVar 6)) (fConsA (fLit (.int 0)) (fConsA (fVar 6) fNilA)))))))) ⟨[some (.cel 0), some (.dat one), some (.dat two), some (.dat (L5 g0 g1 g2 g3 g4)), none, some (.dat (.int 5)), some (.dat (.int M)), some (.dat (.int (1 + u))), none, none], [ta]⟩ = some (.nx ⟨[some (.cel 0), some (.dat one), some (.dat two), some (.dat (L5 g0 g1 g2 g3 g4)), some (.dat (L5 M 0 (2 * M) 0 M)), some (.dat (.int 5)), some (.dat (.int M)), some (.dat (.int (1 + u))), none, none], [ta]⟩) := by
    simp! [m2]
  have c7 : (fRet (fTup (fConsA (fCall F__law_low_K36 (fConsA (fOp gPlus (fOfL (fLc (fRng1 (fConsA (fLit (.int 5)) fNilA)) (aName 9) fYes (fOp gPlus (fOp gIx (fVar 3) (fVar 9)) (fOp gIx (fVar 4) (fVar 9))) [9])) (fOfL (fLst (fConsA (fVar 7) fNilA)))) fNilA)) (fConsA (fCall F__law_ratio_K36 (fConsA (fVar 6) (fConsA (fVar 7) fNilA))) fNilA)))) ⟨[some (.cel 0), some (.dat one), some (.dat two), some (.dat (L5 g0 g1 g2 g3 g4)), some (.dat (L5 M 0 (2 * M) 0 M)), some (.dat (.int 5)), some (.dat (.int M)), some (.dat (.int (1 + u))), none, none], [ta]⟩ = some (.rt (.dat (.tuple [X, fr])) [ta]) := by
    simp! [fRng1, rng_5, tn_5, rng5D, gIx, ix5_0, ix5_1, ix5_2, ix5_3, ix5_4, yl, yr]
  exact fn_ok (np := 1) (nN := 10) (n0 := 1) ((seq_nx c0).trans ((seq_nx c1).trans ((seq_nx c2).trans ((seq_nx c3).trans ((seq_nx c4).trans ((seq_nx c5).trans ((seq_nx c6).trans (c7)))))))) ⟨rfl, rfl⟩ rfl
theorem w_course (h : Src (k + 18) t) : ∃ (x0 x1 x2 x3 x4 n : Int) (fr : PyData) (t' : List PyData), F__law_course [.cel 0] [t] = some (.dat (.tuple [T6 x0 x1 x2 x3 x4 n, fr]), [t']) ∧ Src k t' ∧ Co 24 x0 x1 x2 x3 x4 n := by
  obtain ⟨w, t1, e1, h1, w0, w1⟩ := w_draw (k := k + 17) (m := 6) h (by decide) (by decide)
  obtain ⟨M, t2, e2, h2, M0, M1⟩ := w_about (k := k + 16) (m := 6) h1 (by decide) (by decide)
  obtain ⟨u, t3, e3, h3, u0, u1⟩ := w_draw (k := k + 15) (m := 5) h2 (by decide) (by decide)
  obtain ⟨a, b, c, t4, e4, h4, sa, sb, sc⟩ := w_quad (k := k + 10) h3
  have sM : Sz 20 M := Sm.sz (by unfold Sm; omega)
  have s2M : Sz 20 (2 * M) := Sm.sz (by unfold Sm; omega)
  have su : Sz 20 (1 + u) := Sm.sz (by unfold Sm; omega)
  have z : Sz 20 (0 : Int) := sz_0.by _ (by decide)
  have m2 := gMul_ok (sz_2.sm (m := 4000)) (sM.sm (m := 4000))
  have yr := w_ratio (p := M) (q := 1 + u) (by omega) sM.sm su.sm
  have fin : ∀ {g0 g1 g2 g3 g4 : Int}, Sz 21 g0 → Sz 21 g1 → Sz 21 g2 → Sz 21 g3 → Sz 21 g4 → ∃ x0 x1 x2 x3 x4 n : Int, F__law_low_K36 [.dat (.list [.int (g0 + M), .int (g1 + 0), .int (g2 + 2 * M), .int (g3 + 0), .int (g4 + M), .int (1 + u)])] [] = some (.dat (T6 x0 x1 x2 x3 x4 n), []) ∧ Co 24 x0 x1 x2 x3 x4 n := fun {g0 g1 g2 g3 g4} a0 a1 a2 a3 a4 =>
    co_of (m := 24) (by omega) ((a0.add sM).by _ (by decide)) ((a1.add z).by _ (by decide)) ((a2.add s2M).by _ (by decide)) ((a3.add z).by _ (by decide)) ((a4.add sM).by _ (by decide)) (su.by _ (by decide)) (by decide)
  have up : ∀ {x : Int}, Sz 20 x → Sz 21 x := fun h => h.by _ (by decide)
  have ng : ∀ {x : Int}, Sz 20 x → Sz 21 (0 - x) := fun h => (sz_0.sub h).by _ (by decide)
  by_cases hw : w < 2
  · obtain ⟨f0, f1, f2, f3, f4, ef, b0, b1, b2, b3, b4⟩ := w_folded sa sb sc sa sb sc
    have hc : w = 0 ∨ w = 1 := by omega
    rcases hc with rfl | rfl
    · obtain ⟨x0, x1, x2, x3, x4, n, el, C⟩ := fin (up b0) (up b1) (up b2) (up b3) (up b4)
      exact ⟨x0, x1, x2, x3, x4, n, _, t4, core_course0 e1 e2 e3 e4 ef m2 el yr, h4.le (by omega), C⟩
    · obtain ⟨x0, x1, x2, x3, x4, n, el, C⟩ := fin (ng b0) (ng b1) (ng b2) (ng b3) (ng b4)
      exact ⟨x0, x1, x2, x3, x4, n, _, t4, core_course1 e1 e2 e3 e4 ef m2 el yr, h4.le (by omega), C⟩
  · obtain ⟨a', b', c', t5, e5, h5, sa', sb', sc'⟩ := w_quad (k := k + 5) h4
    obtain ⟨f0, f1, f2, f3, f4, ef, b0, b1, b2, b3, b4⟩ := w_folded sa sb sc sa' sb' sc'
    have hc : w = 2 ∨ w = 3 ∨ w = 4 ∨ w = 5 := by omega
    rcases hc with rfl | rfl | rfl | rfl
    · obtain ⟨x0, x1, x2, x3, x4, n, el, C⟩ := fin (up b0) (up b1) (up b2) (up b3) (up b4)
      exact ⟨x0, x1, x2, x3, x4, n, _, t5, core_course2 e1 e2 e3 e4 e5 ef m2 el yr, h5.le (by omega), C⟩
    · obtain ⟨x0, x1, x2, x3, x4, n, el, C⟩ := fin (up b0) (up b1) (up b2) (up b3) (up b4)
      exact ⟨x0, x1, x2, x3, x4, n, _, t5, core_course3 e1 e2 e3 e4 e5 ef m2 el yr, h5.le (by omega), C⟩
    · obtain ⟨x0, x1, x2, x3, x4, n, el, C⟩ := fin (up b0) (up b1) (up b2) (up b3) (up b4)
      exact ⟨x0, x1, x2, x3, x4, n, _, t5, core_course4 e1 e2 e3 e4 e5 ef m2 el yr, h5.le (by omega), C⟩
    · obtain ⟨g0, t6, k0, h6, i0, j0⟩ := w_about (k := k + 4) (m := 9) h5 (by decide) (by decide)
      obtain ⟨g1, t7, k1, h7, i1, j1⟩ := w_about (k := k + 3) (m := 9) h6 (by decide) (by decide)
      obtain ⟨g2, t8, k2, h8, i2, j2⟩ := w_about (k := k + 2) (m := 9) h7 (by decide) (by decide)
      obtain ⟨g3, t9, k3, h9, i3, j3⟩ := w_about (k := k + 1) (m := 9) h8 (by decide) (by decide)
      obtain ⟨g4, ta, k4, ha, i4, j4⟩ := w_about (k := k) (m := 9) h9 (by decide) (by decide)
      have q : ∀ {x : Int}, -9 ≤ x → x ≤ 9 → Sz 21 x := fun h1 h2 => Sm.sz (by unfold Sm; omega)
      obtain ⟨x0, x1, x2, x3, x4, n, el, C⟩ := fin (q i0 j0) (q i1 j1) (q i2 j2) (q i3 j3) (q i4 j4)
      exact ⟨x0, x1, x2, x3, x4, n, _, ta, core_course5 e1 e2 e3 e4 e5 k0 k1 k2 k3 k4 ef m2 el yr, ha, C⟩
end
end PL


set_option Elab.async false
set_option linter.all false
set_option maxRecDepth 100000
set_option maxHeartbeats 4000000
set_option exponentiation.threshold 20000
namespace PL
open PySem PySem.Spec L2 DL
local macro_rules | `(tactic| simp! [$as,*]) => `(tactic| simp only [fThaw, fThawT, fThawL, thawD, thawO, noL, noLAll, fAug, gAug, fRev, fFnA, fCallV, fBot, fZip, zipD, gSum, intsOf, List.foldl_cons, List.foldl_nil, mkF, fRet, fRetL, fRetN, fSkip, fSeq, fNever, fSet, fAsg, fNew, fIfS, fDrop, fPar, fPar3, fSetc, fSetc2, fVar, fLit, fOp, fUn, fTup, fTup.datsOf, fLst, fNilA, fConsA, fStarA, fCelA, fOfL, fTru, fAndT, fOrT, fNotT, fAndV, fOrV, fNotV, fIf, fBi, fCall, fCallL, fCallFr, fPerm, callF, celOf, celsOk, norm, aName, aNil, aCons, aTup, setD, fSl, fIt, fItL, fItT, fFor, forGo, fLc, lcGo, fYes, wipeD, fCix, fList, fSlL, fPart, fNoPart, fChain, List.length_cons, List.length_nil, List.getElem?_cons_zero, List.getElem?_cons_succ, List.getElem?_nil, List.set_cons_zero, List.set_cons_succ, List.map_cons, List.map_nil, List.cons_append, List.nil_append, List.append_nil, List.replicate, List.take_zero, List.take_nil, List.take_succ_cons, ↓bsome, ↓msome, Option.bind_some, Option.map_some, Option.bind_none, Option.map_none, Nat.sub_self, Int.cast_ofNat_Int, Nat.reduceAdd, Nat.reduceMul, Nat.reduceSub, Nat.reduceLeDiff, Nat.reduceLT, Nat.zero_add, Nat.add_zero, and_self, and_true, true_and, if_true, if_false, ↓reduceIte, ite_true, Bool.true_eq_false, Bool.false_eq_true, beq_self_eq_true, Bool.and_self, Bool.not_true, Bool.not_false, decide_true, decide_false, gLen, gTyIs, gTyNot, tyOf, gNeg, gPlus, DL.gSub, gCmp, gInt, gAbs, gTuple, gMax, gMin, gGcd, LIM, gIx, $as,*])
section
variable {m s k : Nat} {x0 x1 x2 x3 x4 n t0 t1 t2 t3 t4 d a b c f p q : Int} {t : List PyData}
abbrev TbB : FS := (fSeq (fSet 5 (fCall F__law_at_K36 (fConsA (fVar 1) (fConsA (fCall F__law_summed (fConsA (fVar 4) (fConsA (fVar 2) fNilA))) fNilA)))) (fIfS (fOrT (fTru (fOp gNe (fCall F__law_at_K36 (fConsA (fVar 0) (fConsA (fVar 4) fNilA))) (fVar 5))) (fTru (fOp gNe (fBi gRepr (fConsA (fCall F_level_at (fConsA (fVar 0) (fConsA (fVar 4) fNilA))) fNilA)) (fBi gRepr (fConsA (fVar 5) fNilA))))) (fRet (fLit (.bool false))) fSkip))
/-- what is asked of one place -/
structure Pl (T X S P R : PyData) : Prop where
  ok : ∀ (Y : PyData) (z5 : Option SV), TbB ⟨[some (.dat T), some (.dat X), some (.dat S), some (.dat Y), some (.dat P), z5, none], []⟩ = some (.nx ⟨[some (.dat T), some (.dat X), some (.dat S), some (.dat Y), some (.dat P), some (.dat R), none], []⟩)
end
end PL


set_option Elab.async false
set_option linter.all false
set_option maxRecDepth 100000
set_option maxHeartbeats 4000000
/-! x, y = e1, e2 and x, y, z = e1, e2, e3, where new lists become lists of one's own -/
namespace DL
open PySem PySem.Spec L2 HT
open PyProof.Rows hiding St
inductive NV where
  | dat (d : PyData)
  | new (xs : List PyData)
abbrev FN := Sta → Option (List NV × Cs)
section
variable (K : PySem.W.Frag)
inductive PN (hs : List Addr) (H : Hp) : List Addr → List V → List NV → Prop
  | nil : PN hs H [] [] []
  | dat {qs : List Addr} {v : V} {vs : List V} {d : PyData} {ns : List NV} : Dp K (hid hs H) v d → PN hs H qs vs ns → PN hs H qs (v :: vs) (.dat d :: ns)
  | new {qs : List Addr} {p : Addr} {us vs : List V} {xs : List PyData} {ns : List NV} : H p = some (.lst us) → DpAll K (hid hs H) us xs → PN hs H qs vs ns → PN hs H (p :: qs) (.ref p :: vs) (.new xs :: ns)
def EDN (ta : TA) (st : Sta) (ns : List NV) (cs' : Cs) : Prop :=
  ∀ hs ps σ H, Rel K hs ps σ H st → ∀ Q : List V → Hp → Prop, (∀ vs qs hs2 H2, (∀ a ∈ hs, a ∈ hs2) → (∀ a ∈ hs2, a ∉ hs → H a = none) → (∀ q ∈ qs, q ∈ hs2 ∧ H q = none) → qs.Nodup → Step ps H H2 → Rel K hs2 ps σ H2 ⟨st.ds, cs'⟩ → PN K hs2 H2 qs vs ns → Q vs H2) → ta σ H Q
end
structure RN (X : Cx) (es : List Expr) (f : FN) : Prop where
  h : ∀ st d c, f st = some (d, c) → EDN X.K (wA X es) st d c
theorem RN.of {X : Cx} {es : List Expr} {t : TA} {st : Sta} {c : Cs} {d : List NV} (p : PA X es t) (k : EDN X.K t st d c) : EDN X.K (wA X es) st d c := fun hs ps σ H R Q q pos pins s I => p.run pos pins s σ H Q I (k hs ps σ H R Q q)
def fNNil : FN := fun st => some ([], st.cs)
def fNNew (a : FL) (r : FN) : FN := fun st => (a st).bind fun p => (r ⟨st.ds, p.2⟩).map fun q => (.new p.1 :: q.1, q.2)
/-- what was free before a step is free of the cells after it -/
theorem free_back {K : PySem.W.Frag} {hs ps : List Addr} {σ : St} {H H1 : Hp} {st : Sta} (R : Rel K hs ps σ H1 st) (s : Step ps H H1) {q : Addr} (h : H1 q = none) : H q = none := by
  cases e : H q with
  | none => rfl
  | some o =>
    by_cases m : q ∈ ps
    · exact absurd h (R.hr.trk q (R.hr.sub q m))
    · rw [s q o m e] at h; cases h
section
variable {X : Cx} {n0 : Nat} {e : Expr} {es : List Expr} {fa : FE} {fl : FL} {fn : FN}
theorem rn_nil : RN X [] fNNil := .mk fun st d c h => by
  cases h
  refine RN.of pa_nil fun hs ps σ H R Q q => ?_
  exact q [] [] hs H (fun _ m => m) (fun _ m n => absurd m n) (fun _ m => by cases m) List.nodup_nil (Step.refl H) R .nil
theorem rn_new (ha : RL X e fl) (hr : RN X es fn) (hs : starEach (e :: es) X.env = (false, eval e X.env) :: starEach es X.env) : RN X (e :: es) (fNNew fl fn) := .mk fun st d c h => by
  obtain ⟨⟨x, c1⟩, h1, h⟩ := bind_some h
  obtain ⟨⟨xs, c2⟩, h2, e⟩ := map_some h
  cases e
  refine RN.of (pa_cons (pwE _) (pwA es) hs) fun hs ps σ H R Q q => ha _ _ _ h1 hs ps σ H R _ fun p us H1 hp s1 R1 e1 d1 => ?_
  refine hr.h _ _ _ h2 (p :: hs) ps σ H1 R1 _ fun vs qs hs2 H2 i1 i2 i3 nd s2 R2 pn => ?_
  have npp : p ∉ ps := fun m => R.hr.trk p (R.hr.sub p m) hp
  have e2 : H2 p = some (.lst us) := s2 p _ npp e1
  refine q (.ref p :: vs) (p :: qs) hs2 H2 (fun a m => i1 a (List.mem_cons_of_mem _ m)) (fun a m n => ?_) (fun a m => ?_) ?_ (s1.trans s2) R2 (.new e2 (d1.up (s2.hd R1.hr.sub i2)) pn)
  · by_cases z : a = p
    · rw [z]; exact hp
    · exact free_back R1 s1 (i2 a m (by rw [List.mem_cons]; exact fun k => k.elim z n))
  · rcases List.mem_cons.mp m with z | m
    · subst z; exact ⟨i1 _ List.mem_cons_self, hp⟩
    · exact ⟨(i3 a m).1, free_back R1 s1 (i3 a m).2⟩
  · rw [List.nodup_cons]
    exact ⟨fun m => (by have := (i3 p m).2; rw [e1] at this; cases this), nd⟩
end
/-- what is stored under a name -/
def putN (i : Nat) : NV → Sta → Sta
  | .dat d, st => ⟨st.ds.set i (some (.dat d)), st.cs⟩
  | .new xs, st => ⟨st.ds.set i (some (.cel st.cs.length)), st.cs ++ [xs]⟩
section
variable {K : PySem.W.Frag} {hs ps hs0 ps0 : List Addr} {σ : St} {H H0 : Hp} {st : Sta}
theorem Rel.own' {p : Addr} {vs : List V} {xs : List PyData} (i : Nat) (R : Rel K hs ps σ H st) (hp : p ∈ hs) (npp : p ∉ ps) (e : H p = some (.lst vs)) (da : DpAll K (hid hs H) vs xs) :
    Rel K hs (ps ++ [p]) (σ.set i (some (.ref p))) H ⟨st.ds.set i (some (.cel st.cs.length)), st.cs ++ [xs]⟩ := by
  have HR2 : HR K hs (ps ++ [p]) H (st.cs ++ [xs]) := by
    refine ⟨fun a m => ?_, ?_, by simp [R.hr.len], R.hr.trk, fun j q ys k1 k2 => ?_⟩
    · rcases List.mem_append.mp m with m | m
      · exact R.hr.sub a m
      · rw [List.mem_singleton.mp m]; exact hp
    · rw [List.nodup_append]
      exact ⟨R.hr.nd, by simp, fun a ma b mb => by rw [List.mem_singleton.mp mb]; exact fun z => npp (z ▸ ma)⟩
    · by_cases hj : j < ps.length
      · rw [List.getElem?_append_left hj] at k1
        rw [List.getElem?_append_left (by rw [← R.hr.len]; exact hj)] at k2
        exact R.hr.cel j q ys k1 k2
      · rw [List.getElem?_append_right (by omega)] at k1
        rw [List.getElem?_append_right (by rw [← R.hr.len]; omega)] at k2
        have hj2 : j = ps.length := by
          by_cases z : j - ps.length = 0
          · omega
          · rw [List.getElem?_eq_none (by simp; omega)] at k1; cases k1
        subst hj2
        rw [Nat.sub_self] at k1
        rw [← R.hr.len, Nat.sub_self] at k2
        cases k1
        cases k2
        exact ⟨vs, e, da⟩
  have R3 : Rel K hs (ps ++ [p]) σ H ⟨st.ds, st.cs ++ [xs]⟩ := ⟨HR2, R.len, fun j x ex => by
    obtain ⟨v, h1, h2⟩ := R.slot j x ex
    refine ⟨v, h1, ?_⟩
    cases x with
    | dat d => exact h2
    | fn y => exact h2
    | cel c =>
      obtain ⟨q, h3, h4⟩ := h2
      refine ⟨q, ?_, h4⟩
      rw [List.getElem?_append_left (by
        by_cases hl : c < ps.length
        · exact hl
        · rw [List.getElem?_eq_none (by omega)] at h3; cases h3)]
      exact h3⟩
  exact R3.set i (x := .cel st.cs.length) ⟨p, by rw [← R.hr.len]; simp, rfl⟩
/-- new addresses that are hidden, but no cells yet -/
def Fresh (hs ps : List Addr) (H0 : Hp) (qs : List Addr) : Prop := qs.Nodup ∧ ∀ q ∈ qs, q ∈ hs ∧ q ∉ ps ∧ H0 q = none
theorem putN_ok (i : Nat) {qs : List Addr} {v : V} {vs : List V} {n : NV} {ns : List NV} (L : Lv hs0 ps0 H0 hs ps H) (R : Rel K hs ps σ H st) (F : Fresh hs ps H0 qs) (pn : PN K hs H qs (v :: vs) (n :: ns)) :
    ∃ ps' qs', Lv hs0 ps0 H0 hs ps' H ∧ Rel K hs ps' (σ.set i (some v)) H (putN i n st) ∧ Fresh hs ps' H0 qs' ∧ PN K hs H qs' vs ns := by
  cases pn with
  | dat d1 pn => exact ⟨ps, qs, L, R.set i (x := .dat _) d1, F, pn⟩
  | @new qs' p us _ xs _ e da pn =>
    obtain ⟨m, npp, h0⟩ := F.2 p List.mem_cons_self
    obtain ⟨l, el⟩ := L.pre
    refine ⟨ps ++ [p], qs', ⟨⟨l ++ [p], by rw [el]; simp⟩, fun a m n => ?_, L.nhs, L.hss, L.stp⟩, R.own' i m npp e da, ⟨(List.nodup_cons.mp F.1).2, fun q mq => ?_⟩, pn⟩
    · rcases List.mem_append.mp m with m | m
      · exact L.nps a m n
      · rw [List.mem_singleton.mp m]; exact h0
    · obtain ⟨a1, a2, a3⟩ := F.2 q (List.mem_cons_of_mem _ mq)
      refine ⟨a1, fun z => ?_, a3⟩
      rcases List.mem_append.mp z with z | z
      · exact a2 z
      · rw [List.mem_singleton.mp z] at mq; exact (List.nodup_cons.mp F.1).1 mq
theorem fresh_in {qs hs2 : List Addr} {H2 : Hp} {st2 : Sta} (L : Lv hs0 ps0 H0 hs ps H) (R : Rel K hs ps σ H st) (s : Step ps H H2) (i1 : ∀ a ∈ hs, a ∈ hs2) (i2 : ∀ a ∈ hs2, a ∉ hs → H a = none) (i3 : ∀ q ∈ qs, q ∈ hs2 ∧ H q = none) (nd : qs.Nodup) :
    Lv hs0 ps0 H0 hs2 ps H2 ∧ Fresh hs2 ps H0 qs := by
  have L2 := L.step s
  have back : ∀ a, H a = none → H0 a = none := fun a h => by
    cases q : H0 a with
    | none => rfl
    | some o =>
      by_cases m : a ∈ ps0
      · obtain ⟨l, el⟩ := L.pre
        exact absurd h (R.hr.trk a (R.hr.sub a (by rw [el]; exact List.mem_append_left _ m)))
      · rw [L.stp a o m q] at h; cases h
  refine ⟨⟨L2.pre, L2.nps, fun a m n => ?_, fun a m => i1 a (L2.hss a m), L2.stp⟩, nd, fun q m => ⟨(i3 q m).1, fun z => R.hr.trk q (R.hr.sub q z) (i3 q m).2, back q (i3 q m).2⟩⟩
  by_cases z : a ∈ hs
  · exact L.nhs a z n
  · exact back a (i2 a m z)
end
def fParN (i j : Nat) (a : FN) : FS := fun st => (a st).bind fun p => match p.1 with
  | [x, y] => some (.nx (putN j y (putN i x ⟨st.ds, p.2⟩)))
  | _ => none
section
variable {X : Cx} {n0 : Nat} {a b c : Expr} {fn : FN} {pos : Pos}
theorem rs_parN {i j : Nat} {x y : Str} {px py pt : Pos} {kt k2 pt2} (ha : RN X [a, b] fn)
    {P : PS X (.Assign [.Tuple [.Name x px, .Name y py] kt pt] (.Tuple [a, b] k2 pt2) pos) (tPar i j (wA X [a, b]))} : RS X n0 (.Assign [.Tuple [.Name x px, .Name y py] kt pt] (.Tuple [a, b] k2 pt2) pos) (fParN i j fn) := .mk fun st o hq => by
  obtain ⟨⟨xs, c⟩, e1, hq⟩ := bind_some hq
  simp only at hq
  split at hq
  · cases hq
    refine RS.of P fun hs0 ps0 H0 i1 i2 hs ps σ H L R D q => ha.h _ _ _ e1 hs ps σ H R _ fun vs qs hs2 H2 k1 k2 k3 nd s2 R2 pn => ?_
    obtain ⟨L2, F⟩ := fresh_in (st2 := st) L R s2 k1 k2 k3 nd
    obtain ⟨v, w, rfl⟩ : ∃ v w, vs = [v, w] := by
      cases pn with
      | dat _ pn => cases pn with
        | dat _ pn => cases pn; exact ⟨_, _, rfl⟩
        | new _ _ pn => cases pn; exact ⟨_, _, rfl⟩
      | new _ _ pn => cases pn with
        | dat _ pn => cases pn; exact ⟨_, _, rfl⟩
        | new _ _ pn => cases pn; exact ⟨_, _, rfl⟩
    obtain ⟨p1, q1, L3, R3, F3, pn3⟩ := putN_ok i L2 R2 F pn
    obtain ⟨p2, q2, L4, R4, F4, pn4⟩ := putN_ok j L3 R3 F3 pn3
    exact ⟨v, w, rfl, q _ _ _ H2 L4 R4⟩
  · cases hq
end
/-! (not) in, over lists of tuples -/
def gNotInD : PyData → PyData → Option PyData
  | x, .list xs => if SeqAt.shaped x = true ∧ SeqAt.shaped (.list xs) = true then some (.bool (!xs.any fun z => PyData.eqv z x)) else none
  | _, _ => none
theorem rd_notInD {K : PySem.W.Frag} {x y z : PyData} (h : gNotInD x y = some z) : RD K (rNotInD K) x y z := by
  unfold gNotInD at h
  split at h
  · split at h <;> cases h
    rename_i hs
    exact fun _ H v w _ h1 h2 Q q => ⟨x, _, h1.up hid_sub, h2.up hid_sub, hs.1, hs.2, q _ H (Step.refl H) (.bl _)⟩
  · cases h
theorem rt_notInD {X : Cx} {a b : Expr} {pos : Pos} {fa fb : FE} (hu : X.A.units + 65 < cLine) (ha : RE X a fa) (hb : RE X b fb) (hm : behindInMarks .NotIn b = false := by with_unfolding_all rfl) : RT X (.Compare a [.NotIn] [b] pos) (fTru (fOp gNotInD fa fb)) := rt_cmp (op_notInD hu) (fun _ _ _ h => rd_notInD h) ha hb hm
theorem rt_inD {X : Cx} {a b : Expr} {pos : Pos} {fa fb : FE} (hu : X.A.units + 65 < cLine) (ha : RE X a fa) (hb : RE X b fb) (hm : behindInMarks .In b = false := by with_unfolding_all rfl) : RT X (.Compare a [.In] [b] pos) (fTru (fOp gInD fa fb)) := rt_cmp (OpR.or (op_inTD hu) (op_inD hu)) (fun _ _ _ h => rd_inD h) ha hb hm
end DL


set_option Elab.async false
set_option linter.all false
set_option maxRecDepth 100000
set_option maxHeartbeats 400000
namespace PL
open PySem PySem.Spec L2 DL
open PyProof.Rows hiding St
end PL


set_option Elab.async false
set_option linter.all false
set_option maxRecDepth 100000
set_option maxHeartbeats 400000
namespace PL
open PySem PySem.Spec L2 DL
open PyProof.Rows hiding St
end PL


set_option Elab.async false
set_option linter.all false
set_option maxRecDepth 100000
set_option maxHeartbeats 400000
namespace PL
open PySem PySem.Spec L2 DL
open PyProof.Rows hiding St
def b_check_fraction : FS := (fIfS (fNotT (fTru (fCall F_is_fraction (fConsA (fVar 0) fNilA)))) fNever fSkip)
def F_check_fraction : FnS := mkF 1 1 0 b_check_fraction
end PL


set_option Elab.async false
set_option linter.all false
set_option maxRecDepth 100000
set_option maxHeartbeats 400000
namespace PL
open PySem PySem.Spec L2 DL
open PyProof.Rows hiding St
def b_check_below : FS := (fIfS (fOrT (fNotT (fTru (fCall F_is_whole (fConsA (fVar 0) fNilA)))) (fTru (fOp (gCmp fun i j => decide (i ≤ j)) (fVar 0) (fLit (.int 0))))) fNever fSkip)
def F_check_below : FnS := mkF 1 1 0 b_check_below
end PL


set_option Elab.async false
set_option linter.all false
set_option maxRecDepth 100000
set_option maxHeartbeats 400000
namespace PL
open PySem PySem.Spec L2 DL
open PyProof.Rows hiding St
def b_course_of : FS := (fSeq (fIfS (fNotT (fTru (fCall F_is_row (fConsA (fVar 0) (fConsA (fLit (.int 5)) fNilA))))) fNever fSkip)
  (fSeq (fDrop (fCall F_check_below (fConsA (fVar 1) fNilA)))
  (fRet (fCall F_reduced (fConsA (fTup (fStarA (fVar 0) (fConsA (fVar 1) fNilA))) fNilA)))))
def F_course_of : FnS := mkF 2 2 0 b_course_of
def c__ROUND : PyData := (.tuple [(.int 1), (.int 0), (.int 2), (.int 0), (.int 1)])
def b_level_course : FS := (fSeq (fDrop (fCall F_check_fraction (fConsA (fVar 0) fNilA)))
  (fRet (fCall F_reduced (fConsA (fTup (fStarA (fOfL (fLc (fIt (fLit c__ROUND)) (aName 1) fYes (fOp gMul (fOp gIx (fVar 0) (fLit (.int 0))) (fVar 1)) [1])) (fConsA (fOp gIx (fVar 0) (fLit (.int 1))) fNilA))) fNilA))))
def F_level_course : FnS := mkF 1 2 0 b_level_course
def b_course_less : FS := (fSeq (fDrop (fCall F_check_course (fConsA (fVar 0) fNilA)))
  (fSeq (fDrop (fCall F_check_course (fConsA (fVar 1) fNilA)))
  (fSeq (fSet 2 (fCall F_combined (fConsA (fOp gIx (fVar 1) (fLit (.int 5))) (fConsA (fSl (fVar 0) fNoPart (fPart (fLit (.int 5)))) (fConsA (fUn gNeg (fOp gIx (fVar 0) (fLit (.int 5)))) (fConsA (fSl (fVar 1) fNoPart (fPart (fLit (.int 5)))) fNilA))))))
  (fRet (fCall F_reduced (fConsA (fTup (fStarA (fVar 2) (fConsA (fOp gMul (fOp gIx (fVar 0) (fLit (.int 5))) (fOp gIx (fVar 1) (fLit (.int 5)))) fNilA))) fNilA))))))
def F_course_less : FnS := mkF 2 3 0 b_course_less
def b_first_wrong__is_fraction : FS := (fSeq (fFor (fEnum (fConsA (fVar 0) fNilA)) (aTup 2 (aCons (aName 3) (aCons (aName 4) aNil))) (fIfS (fOrT (fTru (fOp gEq (fVar 3) (fVar 2))) (fNotT (fTru (fCallV 1 "is_fraction" F_is_fraction (fConsA (fVar 4) fNilA))))) (fRet (fVar 3)) fSkip))
  (fRet (fLit .none)))
def F_first_wrong__is_fraction : FnS := mkF 3 5 0 b_first_wrong__is_fraction
def c__COURSES_OF_PARTS : PyData := (.tuple [(.tuple [(.int 1), (.int 0), (.int 2), (.int 0), (.int 1)]), (.tuple [(.int 1), (.int 0), (.int 0), (.int 0), (.int (-1))]), (.tuple [(.int 0), (.int 2), (.int 0), (.int 2), (.int 0)]), (.tuple [(.int 1), (.int 0), (.int (-6)), (.int 0), (.int 1)]), (.tuple [(.int 0), (.int 4), (.int 0), (.int (-4)), (.int 0)])])
def b_course_of_parts : FS := (fSeq (fIfS (fOrT (fTru (fUn (gTyNot "tuple") (fVar 0))) (fTru (fOp gNe (fBi gLen (fConsA (fVar 0) fNilA)) (fLit (.int 5))))) fNever fSkip)
  (fSeq (fSet 1 (fCall F_first_wrong__is_fraction (fConsA (fVar 0) (fFnA "is_fraction" (fConsA (fLit (.int 5)) fNilA)))))
  (fSeq (fIfS (fTru (fOp gNotN (fVar 1) (fLit .none))) fNever fSkip)
  (fRet (fCall F__weighed_course (fConsA (fLit c__COURSES_OF_PARTS) (fConsA (fVar 0) fNilA)))))))
def F_course_of_parts : FnS := mkF 1 2 0 b_course_of_parts
def b__is_sample : FS := (fRet (fAndV (fUn (gTyIs "tuple") (fVar 0)) (fAndV (fOp gEq (fBi gLen (fConsA (fVar 0) fNilA)) (fLit (.int 2))) (fAndV (fCall F_is_setting (fConsA (fOp gIx (fVar 0) (fLit (.int 0))) fNilA)) (fCall F_is_fraction (fConsA (fOp gIx (fVar 0) (fLit (.int 1))) fNilA))))))
def F__is_sample : FnS := mkF 1 1 0 b__is_sample
def b__check_samples : FS := (fSeq (fIfS (fOrT (fTru (fUn (gTyNot "tuple") (fVar 0))) (fTru (fOp gNe (fBi gLen (fConsA (fVar 0) fNilA)) (fLit (.int 5))))) fNever fSkip)
  (fSeq (fNew 1 (fLst fNilA))
  (fSeq (fFor (fEnum (fConsA (fVar 0) fNilA)) (aTup 2 (aCons (aName 2) (aCons (aName 3) aNil))) (fSeq (fIfS (fOrT (fNotT (fTru (fCall F__is_sample (fConsA (fVar 3) fNilA)))) (fThawT (fTru (fOp gInD (fOp gIx (fVar 3) (fLit (.int 0))) (fVar 1))))) fNever fSkip)
  (fApp 1 (fOp gIx (fVar 3) (fLit (.int 0))))))
  (fFrz 0 1 fSkip))))
def F__check_samples : FnS := mkF 1 4 0 b__check_samples
def b_course_through : FS := (fSeq (fDrop (fCall F__check_samples (fConsA (fVar 0) fNilA)))
  (fSeq (fParN 1 2 (fNNew (fLst fNilA) (fNNew (fLst fNilA) fNNil)))
  (fSeq (fFor (fIt (fVar 0)) (aTup 2 (aCons (aName 3) (aCons (aName 4) aNil))) (fSeq (fSet 5 (fTup (fConsA (fLit (.int 1)) fNilA)))
  (fSeq (fFor (fIt (fVar 0)) (aTup 2 (aCons (aName 8) (aCons (aName 9) aNil))) (fIfS (fTru (fOp gNe (fVar 8) (fVar 3))) (fSet 5 (fCall F_polynomial_product (fConsA (fVar 5) (fConsA (fTup (fConsA (fUn gNeg (fOp gIx (fVar 8) (fLit (.int 0)))) (fConsA (fOp gIx (fVar 8) (fLit (.int 1))) fNilA))) fNilA)))) fSkip))
  (fSeq (fSet 6 (fOfL (fLst (fStarA (fVar 5) (fStarA (fRep (fLst (fConsA (fLit (.int 0)) fNilA)) (fOp gSub (fLit (.int 5)) (fBi gLen (fConsA (fVar 5) fNilA)))) fNilA)))))
  (fSeq (fSet 7 (fCall F__length_of (fConsA (fVar 3) fNilA)))
  (fSeq (fApp 1 (fVar 6))
  (fApp 2 (fCall F_ratio (fConsA (fOp gMul (fOp gMul (fOp gIx (fVar 4) (fLit (.int 0))) (fVar 7)) (fVar 7)) (fConsA (fOp gMul (fOp gIx (fVar 4) (fLit (.int 1))) (fCall F_value_at (fConsA (fVar 6) (fConsA (fVar 3) fNilA)))) fNilA))))))))))
  (fFrz 0 2 (fFrz 0 1 (fRet (fCall F__weighed_course (fConsA (fVar 1) (fConsA (fVar 2) fNilA)))))))))
def F_course_through : FnS := mkF 1 10 0 b_course_through
def b__law_fraction : FS := (fSeq (fSet 1 (fCall F__law_pick_K36 (fCelA 0 (fConsA (fTup (fConsA (fLit (.int 2)) (fConsA (fLit (.int 5)) (fConsA (fLit (.int 12)) (fConsA (fLit (.int 1000)) fNilA))))) fNilA))))
  (fRet (fCall F__law_ratio_K36 (fConsA (fCall F__law_about (fCelA 0 (fConsA (fVar 1) fNilA))) (fConsA (fOp gPlus (fLit (.int 1)) (fCall F__law_draw (fCelA 0 (fConsA (fVar 1) fNilA)))) fNilA)))))
def F__law_fraction : FnS := mkF 1 2 1 b__law_fraction
def b__law_slots : FS := (fSeq (fNew 1 (fLst fNilA))
  (fSeq (fFor (fRng1 (fConsA (fLit (.int 5)) fNilA)) (aName 2) (fApp 1 (fCall F__law_slot (fCelA 0 fNilA))))
  (fSeq (fFor (fIt (fTup (fConsA (fTup (fConsA (fLit (.int 0)) (fConsA (fLit (.int 1)) fNilA))) (fConsA (fTup (fConsA (fLit (.int 1)) (fConsA (fLit (.int 0)) fNilA))) (fConsA (fTup (fConsA (fLit (.int 1)) (fConsA (fLit (.int 1)) fNilA))) (fConsA (fTup (fConsA (fUn gNeg (fLit (.int 1))) (fConsA (fLit (.int 1)) fNilA))) (fConsA (fTup (fConsA (fLit (.int 1)) (fConsA (fLit (.int 2)) fNilA))) fNilA))))))) (aName 3) (fApp 1 (fVar 3)))
  (fFrz 1 1 (fSeq (fNew 4 (fLst fNilA))
  (fSeq (fFor (fIt (fVar 1)) (aName 3) (fIfS (fThawT (fTru (fOp gNotInD (fVar 3) (fVar 4)))) (fApp 4 (fVar 3)) fSkip))
  (fFrz 1 4 (fRet (fSl (fVar 4) fNoPart (fPart (fLit (.int 5))))))))))))
def F__law_slots : FnS := mkF 1 5 1 b__law_slots
def b__law_parts : FS := (fSeq (fAsg (aTup 6 (aCons (aName 2) (aCons (aName 3) (aCons (aName 4) (aCons (aName 5) (aCons (aName 6) (aCons (aName 7) aNil))))))) (fVar 0))
  (fSeq (fSet 1 (fOfL (fLst (fConsA (fCall F__law_ratio_K36 (fConsA (fOp gPlus (fOp gPlus (fOp gMul (fLit (.int 3)) (fVar 2)) (fVar 4)) (fOp gMul (fLit (.int 3)) (fVar 6))) (fConsA (fOp gMul (fLit (.int 8)) (fVar 7)) fNilA))) (fConsA (fCall F__law_ratio_K36 (fConsA (fOp gSub (fVar 2) (fVar 6)) (fConsA (fOp gMul (fLit (.int 2)) (fVar 7)) fNilA))) (fConsA (fCall F__law_ratio_K36 (fConsA (fOp gPlus (fVar 3) (fVar 5)) (fConsA (fOp gMul (fLit (.int 4)) (fVar 7)) fNilA))) fNilA))))))
  (fRet (fBi gTuple (fConsA (fOp gPlus (fVar 1) (fOfL (fLst (fConsA (fCall F__law_ratio_K36 (fConsA (fOp gPlus (fOp gSub (fVar 2) (fVar 4)) (fVar 6)) (fConsA (fOp gMul (fLit (.int 8)) (fVar 7)) fNilA))) (fConsA (fCall F__law_ratio_K36 (fConsA (fOp gSub (fVar 3) (fVar 5)) (fConsA (fOp gMul (fLit (.int 8)) (fVar 7)) fNilA))) fNilA))))) fNilA)))))
def F__law_parts : FnS := mkF 1 8 0 b__law_parts
def b__law_laid_K35 : FS := (fSeq (fSet 1 (fLit (.int 1)))
  (fSeq (fFor (fIt (fVar 0)) (aName 2) (fSet 1 (fOp gMul (fVar 1) (fOp gIx (fVar 2) (fLit (.int 1))))))
  (fSeq (fAsg (aLst 5 (aCons (aName 3) (aCons (aName 4) (aCons (aName 5) (aCons (aName 6) (aCons (aName 7) aNil)))))) (fOfL (fLc (fIt (fVar 0)) (aName 2) fYes (fOp gMul (fOp gIx (fVar 2) (fLit (.int 0))) (fOp gDiv (fVar 1) (fOp gIx (fVar 2) (fLit (.int 1))))) [2])))
  (fRet (fCall F__law_low_K36 (fConsA (fTup (fConsA (fOp gPlus (fOp gPlus (fVar 3) (fVar 4)) (fVar 6)) (fConsA (fOp gPlus (fOp gMul (fLit (.int 2)) (fVar 5)) (fOp gMul (fLit (.int 4)) (fVar 7))) (fConsA (fOp gSub (fOp gMul (fLit (.int 2)) (fVar 3)) (fOp gMul (fLit (.int 6)) (fVar 6))) (fConsA (fOp gSub (fOp gMul (fLit (.int 2)) (fVar 5)) (fOp gMul (fLit (.int 4)) (fVar 7))) (fConsA (fOp gPlus (fOp gSub (fVar 3) (fVar 4)) (fVar 6)) (fConsA (fVar 1) fNilA))))))) fNilA))))))
def F__law_laid_K35 : FnS := mkF 1 8 0 b__law_laid_K35
def b__law_less : FS := (fRet (fCall F__law_low_K36 (fConsA (fOp gPlus (fOfL (fLc (fRng1 (fConsA (fLit (.int 5)) fNilA)) (aName 2) fYes (fOp gSub (fOp gMul (fOp gIx (fVar 0) (fVar 2)) (fOp gIx (fVar 1) (fLit (.int 5)))) (fOp gMul (fOp gIx (fVar 1) (fVar 2)) (fOp gIx (fVar 0) (fLit (.int 5))))) [2])) (fOfL (fLst (fConsA (fOp gMul (fOp gIx (fVar 0) (fLit (.int 5))) (fOp gIx (fVar 1) (fLit (.int 5)))) fNilA)))) fNilA)))
def F__law_less : FnS := mkF 2 3 0 b__law_less
def b__law_are_through : FS := (fSeq (fSet 2 (fCall F__law_slots (fCelA 0 fNilA)))
  (fSeq (fSet 3 (fCall F_course_through (fConsA (fBi gTuple (fConsA (fOfL (fLc (fIt (fVar 2)) (aName 5) fYes (fTup (fConsA (fVar 5) (fConsA (fCall F__law_at_K36 (fConsA (fVar 1) (fConsA (fVar 5) fNilA))) fNilA))) [5])) fNilA)) fNilA)))
  (fSeq (fIfS (fTru (fOp gNe (fBi gRepr (fConsA (fVar 3) fNilA)) (fBi gRepr (fConsA (fVar 1) fNilA)))) (fRet (fLit (.bool false))) fSkip)
  (fSeq (fSet 4 (fBi gTuple (fConsA (fOfL (fLc (fIt (fVar 2)) (aName 5) fYes (fTup (fConsA (fVar 5) (fConsA (fCall F__law_fraction (fCelA 0 fNilA)) fNilA))) [5])) fNilA)))
  (fSeq (fSet 3 (fCall F_course_through (fConsA (fVar 4) fNilA)))
  (fSeq (fIfS (fOrT (fNotT (fTru (fUn (gIsi "tuple") (fVar 3)))) (fOrT (fTru (fOp gNe (fBi gLen (fConsA (fVar 3) fNilA)) (fLit (.int 6)))) (fOrT (fNotT (fTru (fCall F_is_course (fConsA (fVar 3) fNilA)))) (fOrT (fTru (fOp gNe (fCall F__law_low_K36 (fConsA (fVar 3) fNilA)) (fVar 3))) (fTru (fOp (gCmp fun i j => decide (i < j)) (fOp gIx (fVar 3) (fLit (.int 5))) (fLit (.int 1)))))))) (fRet (fLit (.bool false))) fSkip)
  (fRet (fOp gEq (fOfL (fLc (fIt (fVar 4)) (aName 6) (fOrT (fTru (fOp gNe (fCall F__law_at_K36 (fConsA (fVar 3) (fConsA (fOp gIx (fVar 6) (fLit (.int 0))) fNilA))) (fOp gIx (fVar 6) (fLit (.int 1))))) (fTru (fOp gNe (fCall F_level_at (fConsA (fVar 3) (fConsA (fOp gIx (fVar 6) (fLit (.int 0))) fNilA))) (fOp gIx (fVar 6) (fLit (.int 1)))))) (fVar 6) [6])) (fOfL (fLst fNilA))))))))))
def F__law_are_through : FnS := mkF 2 7 1 b__law_are_through
def b__law_right_K35 : FS := (fSeq (fAsg (aTup 2 (aCons (aName 8) (aCons (aName 9) aNil))) (fCall F__law_course (fCelA 0 fNilA)))
  (fSeq (fSet 1 (fOp gIx (fCall F__law_course (fCelA 0 fNilA)) (fLit (.int 0))))
  (fSeq (fPar 10 11 (fConsA (fCall F__law_slot (fCelA 0 fNilA)) (fConsA (fCall F__law_slot (fCelA 0 fNilA)) fNilA)))
  (fSeq (fSet 2 (fOp gPlus (fLit (.int 1)) (fCall F__law_draw (fCelA 0 (fConsA (fLit (.int 5)) fNilA)))))
  (fSeq (fSet 3 (fOfL (fLst (fConsA (fCall F_level_at (fConsA (fVar 8) (fConsA (fVar 10) fNilA))) (fConsA (fCall F_level_at (fPerm [1, 0] (fConsA (fVar 10) (fConsA (fVar 8) fNilA)))) (fConsA (fCall F_level_course (fConsA (fVar 9) fNilA)) (fConsA (fCall F_level_course (fConsA (fVar 9) fNilA)) fNilA)))))))
  (fSeq (fSet 4 (fCall F__law_low_K36 (fConsA (fTup (fConsA (fOp gIx (fVar 9) (fLit (.int 0))) (fConsA (fLit (.int 0)) (fConsA (fOp gMul (fLit (.int 2)) (fOp gIx (fVar 9) (fLit (.int 0)))) (fConsA (fLit (.int 0)) (fConsA (fOp gIx (fVar 9) (fLit (.int 0))) (fConsA (fOp gIx (fVar 9) (fLit (.int 1))) fNilA))))))) fNilA)))
  (fSeq (fIfS (fTru (fOp gNe (fBi gRepr (fConsA (fVar 3) fNilA)) (fBi gRepr (fConsA (fOp gPlus (fRep (fLst (fConsA (fCall F__law_at_K36 (fConsA (fVar 8) (fConsA (fVar 10) fNilA))) fNilA)) (fLit (.int 2))) (fRep (fLst (fConsA (fVar 4) fNilA)) (fLit (.int 2)))) fNilA)))) (fRet (fLit (.bool false))) fSkip)
  (fSeq (fSet 3 (fOfL (fLst (fConsA (fCall F_course_of (fConsA (fBi gTuple (fConsA (fOfL (fLc (fIt (fSl (fVar 8) fNoPart (fPart (fLit (.int 5))))) (aName 13) fYes (fOp gMul (fVar 2) (fVar 13)) [13])) fNilA)) (fConsA (fOp gMul (fVar 2) (fOp gIx (fVar 8) (fLit (.int 5)))) fNilA))) (fConsA (fCall F_course_of (fPerm [1, 0] (fConsA (fOp gIx (fVar 8) (fLit (.int 5))) (fConsA (fSl (fVar 8) fNoPart (fPart (fLit (.int 5)))) fNilA)))) fNilA)))))
  (fSeq (fSet 3 (fOp gPlus (fVar 3) (fOfL (fLst (fConsA (fCall F_course_less (fConsA (fVar 8) (fConsA (fVar 1) fNilA))) (fConsA (fCall F_course_less (fPerm [1, 0] (fConsA (fVar 8) (fConsA (fVar 1) fNilA)))) (fConsA (fCall F_course_less (fConsA (fVar 8) (fConsA (fVar 8) fNilA))) fNilA)))))))
  (fSeq (fIfS (fTru (fOp gNe (fBi gRepr (fConsA (fVar 3) fNilA)) (fBi gRepr (fConsA (fOfL (fLst (fConsA (fVar 8) (fConsA (fVar 8) (fConsA (fCall F__law_less (fConsA (fVar 8) (fConsA (fVar 1) fNilA))) (fConsA (fCall F__law_less (fConsA (fVar 1) (fConsA (fVar 8) fNilA))) (fConsA (fTup (fConsA (fLit (.int 0)) (fConsA (fLit (.int 0)) (fConsA (fLit (.int 0)) (fConsA (fLit (.int 0)) (fConsA (fLit (.int 0)) (fConsA (fLit (.int 1)) fNilA))))))) fNilA))))))) fNilA)))) (fRet (fLit (.bool false))) fSkip)
  (fSeq (fSet 5 (fBi gTuple (fConsA (fOfL (fLc (fRng1 (fConsA (fLit (.int 5)) fNilA)) (aName 12) fYes (fCall F__law_fraction (fCelA 0 fNilA)) [12])) fNilA)))
  (fSeq (fSet 3 (fOfL (fLst (fConsA (fCall F_course_parts (fConsA (fVar 8) fNilA)) (fConsA (fCall F_course_parts (fConsA (fVar 8) fNilA)) (fConsA (fCall F_course_of_parts (fConsA (fVar 5) fNilA)) (fConsA (fCall F_course_of_parts (fConsA (fCall F_course_parts (fConsA (fVar 1) fNilA)) fNilA)) fNilA)))))))
  (fSeq (fIfS (fTru (fOp gNe (fBi gRepr (fConsA (fVar 3) fNilA)) (fBi gRepr (fConsA (fOfL (fLst (fConsA (fCall F__law_parts (fConsA (fVar 8) fNilA)) (fConsA (fCall F__law_parts (fConsA (fVar 8) fNilA)) (fConsA (fCall F__law_laid_K35 (fConsA (fVar 5) fNilA)) (fConsA (fVar 1) fNilA)))))) fNilA)))) (fRet (fLit (.bool false))) fSkip)
  (fSeq (fSet 6 (fIf (fTru (fOp gEq (fOp gIx (fVar 10) (fLit (.int 1))) (fLit (.int 0)))) (fTup (fConsA (fLit (.int 1)) (fConsA (fLit (.int 0)) fNilA))) (fTup (fConsA (fOp gSub (fLit (.int 0)) (fOp gIx (fVar 10) (fLit (.int 0)))) (fConsA (fOp gIx (fVar 10) (fLit (.int 1))) fNilA)))))
  (fSeq (fSet 3 (fOfL (fLst (fConsA (fCall F_setting_sum (fConsA (fVar 10) (fConsA (fVar 11) fNilA))) (fConsA (fCall F_setting_sum (fPerm [1, 0] (fConsA (fVar 10) (fConsA (fVar 11) fNilA)))) (fConsA (fCall F_setting_back (fConsA (fVar 10) fNilA)) (fConsA (fCall F_setting_sum (fConsA (fVar 10) (fConsA (fCall F_setting_back (fConsA (fVar 10) fNilA)) fNilA))) fNilA)))))))
  (fSeq (fIfS (fTru (fOp gNe (fBi gRepr (fConsA (fVar 3) fNilA)) (fBi gRepr (fConsA (fOfL (fLst (fConsA (fCall F__law_summed (fConsA (fVar 10) (fConsA (fVar 11) fNilA))) (fConsA (fCall F__law_summed (fConsA (fVar 10) (fConsA (fVar 11) fNilA))) (fConsA (fVar 6) (fConsA (fTup (fConsA (fLit (.int 0)) (fConsA (fLit (.int 1)) fNilA))) fNilA)))))) fNilA)))) (fRet (fLit (.bool false))) fSkip)
  (fSeq (fSet 7 (fOfL (fLst (fConsA (fBi gTuple (fConsA (fOfL (fLc (fIt (fVar 8)) (aName 13) fYes (fOp gMul (fLit (.int 3)) (fVar 13)) [13])) fNilA)) (fConsA (fOfL (fList (fVar 8))) (fConsA (fSl (fVar 8) fNoPart (fPart (fLit (.int 5)))) (fConsA (fOp gPlus (fVar 8) (fTup (fConsA (fLit (.int 1)) fNilA))) (fConsA (fOp gPlus (fSl (fVar 8) fNoPart (fPart (fLit (.int 5)))) (fTup (fConsA (fLit (.int 0)) fNilA))) (fConsA (fOp gPlus (fSl (fVar 8) fNoPart (fPart (fLit (.int 5)))) (fTup (fConsA (fOp gSub (fLit (.int 0)) (fOp gIx (fVar 8) (fLit (.int 5)))) fNilA))) (fConsA (fTup (fConsA (fLit (.int 0)) (fConsA (fLit (.int 0)) (fConsA (fLit (.int 0)) (fConsA (fLit (.int 0)) (fConsA (fLit (.bool false)) (fConsA (fLit (.int 1)) fNilA))))))) fNilA))))))))))
  (fSeq (fSet 3 (fOp gPlus (fOp gPlus (fOfL (fLst (fConsA (fCall F_is_course (fConsA (fVar 8) fNilA)) (fConsA (fCall F_is_course (fConsA (fVar 1) fNilA)) fNilA)))) (fOfL (fLc (fIt (fVar 7)) (aName 14) fYes (fCall F_is_course (fConsA (fVar 14) fNilA)) [14]))) (fOfL (fLst (fConsA (fCall F_is_course (fConsA (fLit .none) fNilA)) fNilA)))))
  (fRet (fAndV (fOp gEq (fBi gRepr (fConsA (fVar 3) fNilA)) (fBi gRepr (fConsA (fOp gPlus (fOfL (fLst (fConsA (fLit (.bool true)) (fConsA (fLit (.bool true)) fNilA)))) (fRep (fLst (fConsA (fLit (.bool false)) fNilA)) (fLit (.int 8)))) fNilA))) (fCall F__law_are_through (fCelA 0 (fConsA (fVar 1) fNilA)))))))))))))))))))))))
def F__law_right_K35 : FnS := mkF 1 15 1 b__law_right_K35
def b_law_K35 : FS := (fRet (fBi gAll (fConsA (fOfL (fLc (fRng1 (fConsA (fBi gMax (fConsA (fLit (.int 2)) (fConsA (fBi gMin (fConsA (fBi gLen (fConsA (fVar 0) fNilA)) (fConsA (fLit (.int 4)) fNilA))) fNilA))) fNilA)) (aName 1) fYes (fCallFr F__law_right_K35 (fCallL F__law_source (fConsA (fVar 0) (fConsA (fVar 1) fNilA)))) [1])) fNilA)))
def F_law_K35 : FnS := mkF 1 2 0 b_law_K35
end PL


set_option Elab.async false
set_option linter.all false
set_option maxRecDepth 100000
set_option maxHeartbeats 4000000
set_option exponentiation.threshold 20000
namespace PL
open PySem PySem.Spec L2 DL
local macro_rules | `(tactic| simp! [$as,*]) => `(tactic| simp only [fThaw, fThawT, fThawL, thawD, thawO, noL, noLAll, fAug, gAug, fRev, fFnA, fCallV, fBot, fZip, zipD, gSum, intsOf, List.foldl_cons, List.foldl_nil, mkF, fRet, fRetL, fRetN, fSkip, fSeq, fNever, fSet, fAsg, fNew, fIfS, fDrop, fPar, fPar3, fSetc, fSetc2, fVar, fLit, fOp, fUn, fTup, fTup.datsOf, fLst, fNilA, fConsA, fStarA, fCelA, fOfL, fTru, fAndT, fOrT, fNotT, fAndV, fOrV, fNotV, fIf, fBi, fCall, fCallL, fCallFr, fPerm, callF, celOf, celsOk, norm, aName, aNil, aCons, aTup, setD, fSl, fIt, fItL, fItT, fFor, forGo, fLc, lcGo, fYes, wipeD, fCix, fList, fSlL, fPart, fNoPart, fChain, List.length_cons, List.length_nil, List.getElem?_cons_zero, List.getElem?_cons_succ, List.getElem?_nil, List.set_cons_zero, List.set_cons_succ, List.map_cons, List.map_nil, List.cons_append, List.nil_append, List.append_nil, List.replicate, List.take_zero, List.take_nil, List.take_succ_cons, ↓bsome, ↓msome, Option.bind_some, Option.map_some, Option.bind_none, Option.map_none, Nat.sub_self, Int.cast_ofNat_Int, Nat.reduceAdd, Nat.reduceMul, Nat.reduceSub, Nat.reduceLeDiff, Nat.reduceLT, Nat.zero_add, Nat.add_zero, and_self, and_true, true_and, if_true, if_false, ↓reduceIte, ite_true, Bool.true_eq_false, Bool.false_eq_true, beq_self_eq_true, Bool.and_self, Bool.not_true, Bool.not_false, decide_true, decide_false, gLen, gTyIs, gTyNot, tyOf, gNeg, gPlus, DL.gSub, gCmp, gInt, gAbs, gTuple, gMax, gMin, gGcd, LIM, gIx, $as,*])
section
theorem w_courseR {k : Nat} {t : List PyData} (h : Src (k + 18) t) : ∃ (x0 x1 x2 x3 x4 n M u : Int) (t' : List PyData), F__law_course [.cel 0] [t] = some (.dat (.tuple [T6 x0 x1 x2 x3 x4 n, Rt M u]), [t']) ∧ Src k t' ∧ Co 24 x0 x1 x2 x3 x4 n ∧ 0 < u ∧ Sz 20 M ∧ Sz 20 u := by
  obtain ⟨w, t1, e1, h1, w0, w1⟩ := w_draw (k := k + 17) (m := 6) h (by decide) (by decide)
  obtain ⟨M, t2, e2, h2, M0, M1⟩ := w_about (k := k + 16) (m := 6) h1 (by decide) (by decide)
  obtain ⟨u, t3, e3, h3, u0, u1⟩ := w_draw (k := k + 15) (m := 5) h2 (by decide) (by decide)
  obtain ⟨a, b, c, t4, e4, h4, sa, sb, sc⟩ := w_quad (k := k + 10) h3
  have sM : Sz 20 M := Sm.sz (by unfold Sm; omega)
  have s2M : Sz 20 (2 * M) := Sm.sz (by unfold Sm; omega)
  have su : Sz 20 (1 + u) := Sm.sz (by unfold Sm; omega)
  have z : Sz 20 (0 : Int) := sz_0.by _ (by decide)
  have m2 := gMul_ok (sz_2.sm (m := 4000)) (sM.sm (m := 4000))
  have yr := w_ratio (p := M) (q := 1 + u) (by omega) sM.sm su.sm
  have fin : ∀ {g0 g1 g2 g3 g4 : Int}, Sz 21 g0 → Sz 21 g1 → Sz 21 g2 → Sz 21 g3 → Sz 21 g4 → ∃ x0 x1 x2 x3 x4 n : Int, F__law_low_K36 [.dat (.list [.int (g0 + M), .int (g1 + 0), .int (g2 + 2 * M), .int (g3 + 0), .int (g4 + M), .int (1 + u)])] [] = some (.dat (T6 x0 x1 x2 x3 x4 n), []) ∧ Co 24 x0 x1 x2 x3 x4 n := fun {g0 g1 g2 g3 g4} a0 a1 a2 a3 a4 =>
    co_of (m := 24) (by omega) ((a0.add sM).by _ (by decide)) ((a1.add z).by _ (by decide)) ((a2.add s2M).by _ (by decide)) ((a3.add z).by _ (by decide)) ((a4.add sM).by _ (by decide)) (su.by _ (by decide)) (by decide)
  have up : ∀ {x : Int}, Sz 20 x → Sz 21 x := fun h => h.by _ (by decide)
  have ng : ∀ {x : Int}, Sz 20 x → Sz 21 (0 - x) := fun h => (sz_0.sub h).by _ (by decide)
  by_cases hw : w < 2
  · obtain ⟨f0, f1, f2, f3, f4, ef, b0, b1, b2, b3, b4⟩ := w_folded sa sb sc sa sb sc
    have hc : w = 0 ∨ w = 1 := by omega
    rcases hc with rfl | rfl
    · obtain ⟨x0, x1, x2, x3, x4, n, el, C⟩ := fin (up b0) (up b1) (up b2) (up b3) (up b4)
      exact ⟨x0, x1, x2, x3, x4, n, M, 1 + u, t4, core_course0 e1 e2 e3 e4 ef m2 el yr, h4.le (by omega), C, by omega, sM, su⟩
    · obtain ⟨x0, x1, x2, x3, x4, n, el, C⟩ := fin (ng b0) (ng b1) (ng b2) (ng b3) (ng b4)
      exact ⟨x0, x1, x2, x3, x4, n, M, 1 + u, t4, core_course1 e1 e2 e3 e4 ef m2 el yr, h4.le (by omega), C, by omega, sM, su⟩
  · obtain ⟨a', b', c', t5, e5, h5, sa', sb', sc'⟩ := w_quad (k := k + 5) h4
    obtain ⟨f0, f1, f2, f3, f4, ef, b0, b1, b2, b3, b4⟩ := w_folded sa sb sc sa' sb' sc'
    have hc : w = 2 ∨ w = 3 ∨ w = 4 ∨ w = 5 := by omega
    rcases hc with rfl | rfl | rfl | rfl
    · obtain ⟨x0, x1, x2, x3, x4, n, el, C⟩ := fin (up b0) (up b1) (up b2) (up b3) (up b4)
      exact ⟨x0, x1, x2, x3, x4, n, M, 1 + u, t5, core_course2 e1 e2 e3 e4 e5 ef m2 el yr, h5.le (by omega), C, by omega, sM, su⟩
    · obtain ⟨x0, x1, x2, x3, x4, n, el, C⟩ := fin (up b0) (up b1) (up b2) (up b3) (up b4)
      exact ⟨x0, x1, x2, x3, x4, n, M, 1 + u, t5, core_course3 e1 e2 e3 e4 e5 ef m2 el yr, h5.le (by omega), C, by omega, sM, su⟩
    · obtain ⟨x0, x1, x2, x3, x4, n, el, C⟩ := fin (up b0) (up b1) (up b2) (up b3) (up b4)
      exact ⟨x0, x1, x2, x3, x4, n, M, 1 + u, t5, core_course4 e1 e2 e3 e4 e5 ef m2 el yr, h5.le (by omega), C, by omega, sM, su⟩
    · obtain ⟨g0, t6, k0, h6, i0, j0⟩ := w_about (k := k + 4) (m := 9) h5 (by decide) (by decide)
      obtain ⟨g1, t7, k1, h7, i1, j1⟩ := w_about (k := k + 3) (m := 9) h6 (by decide) (by decide)
      obtain ⟨g2, t8, k2, h8, i2, j2⟩ := w_about (k := k + 2) (m := 9) h7 (by decide) (by decide)
      obtain ⟨g3, t9, k3, h9, i3, j3⟩ := w_about (k := k + 1) (m := 9) h8 (by decide) (by decide)
      obtain ⟨g4, ta, k4, ha, i4, j4⟩ := w_about (k := k) (m := 9) h9 (by decide) (by decide)
      have q : ∀ {x : Int}, -9 ≤ x → x ≤ 9 → Sz 21 x := fun h1 h2 => Sm.sz (by unfold Sm; omega)
      obtain ⟨x0, x1, x2, x3, x4, n, el, C⟩ := fin (q i0 j0) (q i1 j1) (q i2 j2) (q i3 j3) (q i4 j4)
      exact ⟨x0, x1, x2, x3, x4, n, M, 1 + u, ta, core_course5 e1 e2 e3 e4 e5 k0 k1 k2 k3 k4 ef m2 el yr, ha, C, by omega, sM, su⟩
end
section
variable {m s : Nat} {x0 x1 x2 x3 x4 n y0 y1 y2 y3 y4 e : Int}
theorem core_frac {m v u : Int} {out : PyData} {t t1 t2 t3 : List PyData} (y1 : F__law_pick_K36 [.cel 0, .dat (.tuple [.int 2, .int 5, .int 12, .int 1000])] [t] = some (.dat (.int m), [t1])) (y2 : F__law_about [.cel 0, .dat (.int m)] [t1] = some (.dat (.int v), [t2])) (y3 : F__law_draw [.cel 0, .dat (.int m)] [t2] = some (.dat (.int u), [t3])) (yr : F__law_ratio_K36 [.dat (.int v), .dat (.int (1 + u))] [] = some (.dat out, [])) :
    F__law_fraction [.cel 0] [t] = some (.dat out, [t3]) := by
  simp! [F__law_fraction, b__law_fraction, y1, y2, y3, yr]
theorem w_fraction {k : Nat} {t : List PyData} (h : Src (k + 3) t) : ∃ (p q : Int) (t' : List PyData), F__law_fraction [.cel 0] [t] = some (.dat (T2 p q), [t']) ∧ Src k t' ∧ Fr 12 p q := by
  obtain ⟨m, t1, y1, h1, hm⟩ := w_pickn (k := k + 2) [2, 5, 12, 1000] h (by decide) (by decide)
  have hm' : 2 ≤ m ∧ m ≤ 1000 := by
    simp only [List.mem_cons, List.not_mem_nil, or_false] at hm
    omega
  obtain ⟨v, t2, y2, h2, v0, v1⟩ := w_about (k := k + 1) (m := m) h1 (by omega) (by omega)
  obtain ⟨u, t3, y3, h3, u0, u1⟩ := w_draw (k := k) (m := m) h2 (by omega) (by omega)
  have sv : Sz 12 v := Sm.sz (by unfold Sm; omega)
  have su : Sz 12 (1 + u) := Sm.sz (by unfold Sm; omega)
  have yr := w_ratio (p := v) (q := 1 + u) (by omega) sv.sm su.sm
  have F := rt_fr (n := 12) (p := v) (q := 1 + u) (by omega) sv su
  exact ⟨_, _, t3, core_frac y1 y2 y3 yr, h3, F⟩
/-- the difference of two courses -/
abbrev Ld (x0 x1 x2 x3 x4 n y0 y1 y2 y3 y4 e : Int) : List Int := [x0 * e - y0 * n, x1 * e - y1 * n, x2 * e - y2 * n, x3 * e - y3 * n, x4 * e - y4 * n, n * e]
theorem ld_sm (C : Co m x0 x1 x2 x3 x4 n) (D : Co m y0 y1 y2 y3 y4 e) (hm : m ≤ 1000) : ∀ x ∈ Ld x0 x1 x2 x3 x4 n y0 y1 y2 y3 y4 e, Sm 4000 x := fun x hx => by
  have q : ∀ {a b : Int}, Sz m a → Sz m b → Sm 4000 (a * e - b * n) := fun ha hb => ((ha.mul D.sn).sub (hb.mul C.sn)).sm (by omega)
  simp only [List.mem_cons, List.not_mem_nil, or_false] at hx
  rcases hx with rfl | rfl | rfl | rfl | rfl | rfl
  · exact q C.s0 D.s0
  · exact q C.s1 D.s1
  · exact q C.s2 D.s2
  · exact q C.s3 D.s3
  · exact q C.s4 D.s4
  · exact (C.sn.mul D.sn).sm (by omega)
theorem core_less {out : PyData} {v0 v1 v2 v3 v4 N : Int} (a0 : gMul (.int x0) (.int e) = some (.int v0)) {w0 w1 w2 w3 w4 : Int} (a1 : gMul (.int x1) (.int e) = some (.int v1)) (a2 : gMul (.int x2) (.int e) = some (.int v2)) (a3 : gMul (.int x3) (.int e) = some (.int v3)) (a4 : gMul (.int x4) (.int e) = some (.int v4))
    (b0 : gMul (.int y0) (.int n) = some (.int w0)) (b1 : gMul (.int y1) (.int n) = some (.int w1)) (b2 : gMul (.int y2) (.int n) = some (.int w2)) (b3 : gMul (.int y3) (.int n) = some (.int w3)) (b4 : gMul (.int y4) (.int n) = some (.int w4)) (mN : gMul (.int n) (.int e) = some (.int N))
    (el : F__law_low_K36 [.dat (.list [.int (v0 - w0), .int (v1 - w1), .int (v2 - w2), .int (v3 - w3), .int (v4 - w4), .int N])] [] = some (.dat out, [])) : F__law_less [.dat (T6 x0 x1 x2 x3 x4 n), .dat (T6 y0 y1 y2 y3 y4 e)] [] = some (.dat out, []) := by
  have i0 : ∀ a b c d e' f : PyData, atI [a, b, c, d, e', f] 0 = some a := fun _ _ _ _ _ _ => rfl
  have i1 : ∀ a b c d e' f : PyData, atI [a, b, c, d, e', f] 1 = some b := fun _ _ _ _ _ _ => rfl
  have i2 : ∀ a b c d e' f : PyData, atI [a, b, c, d, e', f] 2 = some c := fun _ _ _ _ _ _ => rfl
  have i3 : ∀ a b c d e' f : PyData, atI [a, b, c, d, e', f] 3 = some d := fun _ _ _ _ _ _ => rfl
  have i4 : ∀ a b c d e' f : PyData, atI [a, b, c, d, e', f] 4 = some e' := fun _ _ _ _ _ _ => rfl
  have i5 : ∀ a b c d e' f : PyData, atI [a, b, c, d, e', f] 5 = some f := fun _ _ _ _ _ _ => rfl
  simp! [F__law_less, b__law_less, fRng1, rng_5, rng5D, tn_5, gIx, i0, i1, i2, i3, i4, i5, a0, a1, a2, a3, a4, b0, b1, b2, b3, b4, mN, el]
theorem w_less (C : Co m x0 x1 x2 x3 x4 n) (D : Co m y0 y1 y2 y3 y4 e) (hm : m ≤ 1000) : F__law_less [.dat (T6 x0 x1 x2 x3 x4 n), .dat (T6 y0 y1 y2 y3 y4 e)] [] = some (.dat (.tuple ((red (Ld x0 x1 x2 x3 x4 n y0 y1 y2 y3 y4 e)).map .int)), []) := by
  have q : ∀ {a b : Int}, Sz m a → Sz m b → gMul (.int a) (.int b) = some (.int (a * b)) := fun ha hb => gMul_ok (ha.sm (m := 4000) (by omega)) (hb.sm (m := 4000) (by omega))
  exact core_less (q C.s0 D.sn) (q C.s1 D.sn) (q C.s2 D.sn) (q C.s3 D.sn) (q C.s4 D.sn) (q D.s0 C.sn) (q D.s1 C.sn) (q D.s2 C.sn) (q D.s3 C.sn) (q D.s4 C.sn) (q C.sn D.sn) (w_low (v := Ld x0 x1 x2 x3 x4 n y0 y1 y2 y3 y4 e) .l (ld_sm C D hm) (by simp))
/-- combined of two fives, any factors -/
theorem core_comb5 {r s : Int} {v0 v1 v2 v3 v4 w0 w1 w2 w3 w4 : Int} (a0 : gMul (.int r) (.int x0) = some (.int v0)) (a1 : gMul (.int r) (.int x1) = some (.int v1)) (a2 : gMul (.int r) (.int x2) = some (.int v2)) (a3 : gMul (.int r) (.int x3) = some (.int v3)) (a4 : gMul (.int r) (.int x4) = some (.int v4))
    (b0 : gMul (.int s) (.int y0) = some (.int w0)) (b1 : gMul (.int s) (.int y1) = some (.int w1)) (b2 : gMul (.int s) (.int y2) = some (.int w2)) (b3 : gMul (.int s) (.int y3) = some (.int w3)) (b4 : gMul (.int s) (.int y4) = some (.int w4)) :
    F_combined [.dat (.int r), .dat (T5 x0 x1 x2 x3 x4), .dat (.int s), .dat (T5 y0 y1 y2 y3 y4)] [] = some (.dat (T5 (v0 + w0) (v1 + w1) (v2 + w2) (v3 + w3) (v4 + w4)), []) := by
  simp! [F_combined, b_combined, fZip, zipD, a0, a1, a2, a3, a4, b0, b1, b2, b3, b4]
theorem core_courseless {N : Int} {u0 u1 u2 u3 u4 : Int} {out : PyData} (h1 : F_check_course [.dat (T6 x0 x1 x2 x3 x4 n)] [] = some (.dat .none, [])) (h2 : F_check_course [.dat (T6 y0 y1 y2 y3 y4 e)] [] = some (.dat .none, []))
    (ec : F_combined [.dat (.int e), .dat (T5 x0 x1 x2 x3 x4), .dat (.int (-n)), .dat (T5 y0 y1 y2 y3 y4)] [] = some (.dat (T5 u0 u1 u2 u3 u4), [])) (mN : gMul (.int n) (.int e) = some (.int N)) (er : F_reduced [.dat (T6 u0 u1 u2 u3 u4 N)] [] = some (.dat out, [])) :
    F_course_less [.dat (T6 x0 x1 x2 x3 x4 n), .dat (T6 y0 y1 y2 y3 y4 e)] [] = some (.dat out, []) := by
  simp! [F_course_less, b_course_less, h1, h2, cut6, gIx, ix6', ec, mN, er]
theorem w_courseless (C : Co m x0 x1 x2 x3 x4 n) (D : Co m y0 y1 y2 y3 y4 e) (hm : m ≤ 1000) : F_course_less [.dat (T6 x0 x1 x2 x3 x4 n), .dat (T6 y0 y1 y2 y3 y4 e)] [] = some (.dat (.tuple ((red (Ld x0 x1 x2 x3 x4 n y0 y1 y2 y3 y4 e)).map .int)), []) := by
  have q : ∀ {a b : Int}, Sz m a → Sz m b → gMul (.int a) (.int b) = some (.int (a * b)) := fun ha hb => gMul_ok (ha.sm (m := 4000) (by omega)) (hb.sm (m := 4000) (by omega))
  have nn : Sz m (-n) := C.sn.neg
  have ec := core_comb5 (q D.sn C.s0) (q D.sn C.s1) (q D.sn C.s2) (q D.sn C.s3) (q D.sn C.s4) (q nn D.s0) (q nn D.s1) (q nn D.s2) (q nn D.s3) (q nn D.s4)
  have g : ∀ a b : Int, e * a + -n * b = a * e - b * n := fun a b => by grind
  rw [g, g, g, g, g] at ec
  exact core_courseless (w_chco C) (w_chco D) ec (q C.sn D.sn) (e_reduced (v := Ld x0 x1 x2 x3 x4 n y0 y1 y2 y3 y4 e) .t (ld_sm C D hm) (by simp))
end
end PL


set_option Elab.async false
set_option linter.all false
set_option maxRecDepth 100000
set_option maxHeartbeats 4000000
set_option exponentiation.threshold 20000
namespace PL
open PySem PySem.Spec L2 DL
local macro_rules | `(tactic| simp! [$as,*]) => `(tactic| simp only [fThaw, fThawT, fThawL, thawD, thawO, noL, noLAll, fAug, gAug, fRev, fFnA, fCallV, fBot, fZip, zipD, gSum, intsOf, List.foldl_cons, List.foldl_nil, mkF, fRet, fRetL, fRetN, fSkip, fSeq, fNever, fSet, fAsg, fNew, fIfS, fDrop, fPar, fPar3, fSetc, fSetc2, fVar, fLit, fOp, fUn, fTup, fTup.datsOf, fLst, fNilA, fConsA, fStarA, fCelA, fOfL, fTru, fAndT, fOrT, fNotT, fAndV, fOrV, fNotV, fIf, fBi, fCall, fCallL, fCallFr, fPerm, callF, celOf, celsOk, norm, aName, aNil, aCons, aTup, setD, fSl, fIt, fItL, fItT, fFor, forGo, fLc, lcGo, fYes, wipeD, fCix, fList, fSlL, fPart, fNoPart, fChain, List.length_cons, List.length_nil, List.getElem?_cons_zero, List.getElem?_cons_succ, List.getElem?_nil, List.set_cons_zero, List.set_cons_succ, List.map_cons, List.map_nil, List.cons_append, List.nil_append, List.append_nil, List.replicate, List.take_zero, List.take_nil, List.take_succ_cons, ↓bsome, ↓msome, Option.bind_some, Option.map_some, Option.bind_none, Option.map_none, Nat.sub_self, Int.cast_ofNat_Int, Nat.reduceAdd, Nat.reduceMul, Nat.reduceSub, Nat.reduceLeDiff, Nat.reduceLT, Nat.zero_add, Nat.add_zero, and_self, and_true, true_and, if_true, if_false, ↓reduceIte, ite_true, Bool.true_eq_false, Bool.false_eq_true, beq_self_eq_true, Bool.and_self, Bool.not_true, Bool.not_false, decide_true, decide_false, gLen, gTyIs, gTyNot, tyOf, gNeg, gPlus, DL.gSub, gCmp, gInt, gAbs, gTuple, gMax, gMin, gGcd, LIM, gIx, $as,*])
theorem w_weighedT {m M : Nat} {N : Int} {l0 l1 l2 l3 l4 : (Nat → Int) × PyData × Int × Int} (sN : Sz M N) (hN : 0 < N) (hM : 1 ≤ M) (hm : m + 2 * M ≤ 600) (h0 : Wt4 m M N l0) (h1 : Wt4 m M N l1) (h2 : Wt4 m M N l2) (h3 : Wt4 m M N l3) (h4 : Wt4 m M N l4) :
    ∃ (B : Int) (u : Nat → Int), F__weighed_course [.dat (.tuple [l0.2.1, l1.2.1, l2.2.1, l3.2.1, l4.2.1]), .dat (.tuple [T2 l0.2.2.1 l0.2.2.2, T2 l1.2.2.1 l1.2.2.2, T2 l2.2.2.1 l2.2.2.2, T2 l3.2.2.1 l3.2.2.2, T2 l4.2.2.1 l4.2.2.2])] [] = some (.dat (.tuple ((red [u 0, u 1, u 2, u 3, u 4, B]).map .int)), []) ∧ 0 < B ∧ B ∣ N ∧
      (∀ l ∈ [l0, l1, l2, l3, l4], l.2.2.2 ∣ B) ∧ u = accL B [l0, l1, l2, l3, l4] (fun _ => 0) := by
  have hall : ∀ l ∈ [l0, l1, l2, l3, l4], Wt4 m M N l := fun l hl => by
    simp only [List.mem_cons, List.not_mem_nil, or_false] at hl
    rcases hl with rfl | rfl | rfl | rfl | rfl <;> assumption
  obtain ⟨B, y3, e1, b0, bN, _, hd⟩ := lc_for (X := (.tuple [l0.2.1, l1.2.1, l2.2.1, l3.2.1, l4.2.1])) (Y := (.tuple [T2 l0.2.2.1 l0.2.2.2, T2 l1.2.2.1 l1.2.2.2, T2 l2.2.2.1 l2.2.2.2, T2 l3.2.2.1 l3.2.2.2, T2 l4.2.2.1 l4.2.2.2])) sN hN (by omega) hM [(l0.2.2.1, l0.2.2.2), (l1.2.2.1, l1.2.2.2), (l2.2.2.1, l2.2.2.2), (l3.2.2.1, l3.2.2.2), (l4.2.2.1, l4.2.2.2)] 1 none (by decide) (Int.one_dvd _) (fun w hw => by
    simp only [List.mem_cons, List.not_mem_nil, or_false] at hw
    rcases hw with rfl | rfl | rfl | rfl | rfl
    · exact ⟨h0.q0, h0.qN⟩
    · exact ⟨h1.q0, h1.qN⟩
    · exact ⟨h2.q0, h2.qN⟩
    · exact ⟨h3.q0, h3.qN⟩
    · exact ⟨h4.q0, h4.qN⟩)
  obtain ⟨z3, z5, z6, e2, hz⟩ := wb_for (X := (.tuple [l0.2.1, l1.2.1, l2.2.1, l3.2.1, l4.2.1])) (Y := (.tuple [T2 l0.2.2.1 l0.2.2.2, T2 l1.2.2.1 l1.2.2.2, T2 l2.2.2.1 l2.2.2.2, T2 l3.2.2.1 l3.2.2.2, T2 l4.2.2.1 l4.2.2.2])) sN hN b0 bN hm [l0, l1, l2, l3, l4] (fun _ => 0) 2 y3 none none hall (fun k => sz_0.by _ (by decide)) (by simp only [List.length_cons, List.length_nil]; omega)
  refine ⟨B, _, ?_, b0, bN, fun l hl => ?_, rfl⟩
  · generalize accL B [l0, l1, l2, l3, l4] (fun _ => 0) = u at *
    simp only [List.length_cons, List.length_nil] at hz
    have hr := e_reduced (v := [u 0, u 1, u 2, u 3, u 4, B]) (r := T6 (u 0) (u 1) (u 2) (u 3) (u 4) B) .t (fun x hx => by
      have hk : ∀ k, Sm 4000 (u k) := fun k => (hz k).sm (by omega)
      simp only [List.mem_cons, List.not_mem_nil, or_false] at hx
      rcases hx with rfl | rfl | rfl | rfl | rfl | rfl
      · exact hk 0
      · exact hk 1
      · exact hk 2
      · exact hk 3
      · exact hk 4
      · exact (sz_dvd sN hN bN b0).sm (by omega)) (by simp)
    generalize ((red [u 0, u 1, u 2, u 3, u 4, B]).map PyData.int) = out at *
    clear h0 h1 h2 h3 h4 hall hz
    have a0 : (fSet 2 (fLit (.int 1))) ⟨[some (.dat (.tuple [l0.2.1, l1.2.1, l2.2.1, l3.2.1, l4.2.1])), some (.dat (.tuple [T2 l0.2.2.1 l0.2.2.2, T2 l1.2.2.1 l1.2.2.2, T2 l2.2.2.1 l2.2.2.2, T2 l3.2.2.1 l3.2.2.2, T2 l4.2.2.1 l4.2.2.2])), none, none, none, none, none], []⟩ = some (.nx ⟨[some (.dat (.tuple [l0.2.1, l1.2.1, l2.2.1, l3.2.1, l4.2.1])), some (.dat (.tuple [T2 l0.2.2.1 l0.2.2.2, T2 l1.2.2.1 l1.2.2.2, T2 l2.2.2.1 l2.2.2.2, T2 l3.2.2.1 l3.2.2.2, T2 l4.2.2.1 l4.2.2.2])), some (.dat (.int 1)), none, none, none, none], []⟩) := by
      simp! []
    have a1 : (fFor (fIt (fVar 1)) (aName 3) LcB) ⟨[some (.dat (.tuple [l0.2.1, l1.2.1, l2.2.1, l3.2.1, l4.2.1])), some (.dat (.tuple [T2 l0.2.2.1 l0.2.2.2, T2 l1.2.2.1 l1.2.2.2, T2 l2.2.2.1 l2.2.2.2, T2 l3.2.2.1 l3.2.2.2, T2 l4.2.2.1 l4.2.2.2])), some (.dat (.int 1)), none, none, none, none], []⟩ = some (.nx ⟨[some (.dat (.tuple [l0.2.1, l1.2.1, l2.2.1, l3.2.1, l4.2.1])), some (.dat (.tuple [T2 l0.2.2.1 l0.2.2.2, T2 l1.2.2.1 l1.2.2.2, T2 l2.2.2.1 l2.2.2.2, T2 l3.2.2.1 l3.2.2.2, T2 l4.2.2.1 l4.2.2.2])), some (.dat (.int B)), y3, none, none, none], []⟩) := e1
    have a2 : (fSet 4 (fTup (fConsA (fLit (.int 0)) (fConsA (fLit (.int 0)) (fConsA (fLit (.int 0)) (fConsA (fLit (.int 0)) (fConsA (fLit (.int 0)) fNilA))))))) ⟨[some (.dat (.tuple [l0.2.1, l1.2.1, l2.2.1, l3.2.1, l4.2.1])), some (.dat (.tuple [T2 l0.2.2.1 l0.2.2.2, T2 l1.2.2.1 l1.2.2.2, T2 l2.2.2.1 l2.2.2.2, T2 l3.2.2.1 l3.2.2.2, T2 l4.2.2.1 l4.2.2.2])), some (.dat (.int B)), y3, none, none, none], []⟩ = some (.nx ⟨[some (.dat (.tuple [l0.2.1, l1.2.1, l2.2.1, l3.2.1, l4.2.1])), some (.dat (.tuple [T2 l0.2.2.1 l0.2.2.2, T2 l1.2.2.1 l1.2.2.2, T2 l2.2.2.1 l2.2.2.2, T2 l3.2.2.1 l3.2.2.2, T2 l4.2.2.1 l4.2.2.2])), some (.dat (.int B)), y3, some (.dat (T5f fun _ => 0)), none, none], []⟩) := by
      simp! []
    have a3 : (fFor (fZip (fConsA (fVar 0) (fConsA (fVar 1) fNilA))) (aTup 2 (aCons (aName 5) (aCons (aName 3) aNil))) WbB) ⟨[some (.dat (.tuple [l0.2.1, l1.2.1, l2.2.1, l3.2.1, l4.2.1])), some (.dat (.tuple [T2 l0.2.2.1 l0.2.2.2, T2 l1.2.2.1 l1.2.2.2, T2 l2.2.2.1 l2.2.2.2, T2 l3.2.2.1 l3.2.2.2, T2 l4.2.2.1 l4.2.2.2])), some (.dat (.int B)), y3, some (.dat (T5f fun _ => 0)), none, none], []⟩ = some (.nx ⟨[some (.dat (.tuple [l0.2.1, l1.2.1, l2.2.1, l3.2.1, l4.2.1])), some (.dat (.tuple [T2 l0.2.2.1 l0.2.2.2, T2 l1.2.2.1 l1.2.2.2, T2 l2.2.2.1 l2.2.2.2, T2 l3.2.2.1 l3.2.2.2, T2 l4.2.2.1 l4.2.2.2])), some (.dat (.int B)), z3, some (.dat (T5 (u 0) (u 1) (u 2) (u 3) (u 4))), z5, z6], []⟩) := e2
    have e0 : b__weighed_course = fSeq (fSet 2 (fLit (.int 1))) (fSeq (fFor (fIt (fVar 1)) (aName 3) LcB) (fSeq (fSet 4 (fTup (fConsA (fLit (.int 0)) (fConsA (fLit (.int 0)) (fConsA (fLit (.int 0)) (fConsA (fLit (.int 0)) (fConsA (fLit (.int 0)) fNilA))))))) (fSeq (fFor (fZip (fConsA (fVar 0) (fConsA (fVar 1) fNilA))) (aTup 2 (aCons (aName 5) (aCons (aName 3) aNil))) WbB) (fRet (fCall F_reduced (fConsA (fTup (fStarA (fVar 4) (fConsA (fVar 2) fNilA))) fNilA)))))) := rfl
    refine fn_ok (np := 2) (nN := 7) (n0 := 0) (c := []) ?_ ⟨rfl, rfl⟩ rfl
    rw [e0]
    refine (seq_nx a0).trans ((seq_nx a1).trans ((seq_nx a2).trans ((seq_nx a3).trans ?_)))
    clear a0 a1 a2 a3 e1 e2
    simp! [fStarA, hr]
  · simp only [List.mem_cons, List.not_mem_nil, or_false] at hl
    rcases hl with rfl | rfl | rfl | rfl | rfl
    · exact hd (l.2.2.1, l.2.2.2) (by simp)
    · exact hd (l.2.2.1, l.2.2.2) (by simp)
    · exact hd (l.2.2.1, l.2.2.2) (by simp)
    · exact hd (l.2.2.1, l.2.2.2) (by simp)
    · exact hd (l.2.2.1, l.2.2.2) (by simp)

section
variable {m s : Nat} {x0 x1 x2 x3 x4 n y0 y1 y2 y3 y4 e : Int}
theorem co_red (C : Co m x0 x1 x2 x3 x4 n) : red [x0, x1, x2, x3, x4, n] = [x0, x1, x2, x3, x4, n] := red_of_one C.one
theorem w_below {b : Int} (h : 0 < b) : F_check_below [.dat (.int b)] [] = some (.dat .none, []) := by
  have h1 : ¬ b ≤ 0 := by omega
  simp! [F_check_below, b_check_below, F_is_whole, b_is_whole, h1]
theorem e_row5' {a b c d f : Int} : F_is_row [.dat (T5 a b c d f), .dat (.int 5)] [] = some (.dat (.bool true), []) := rfl
theorem w_courseof {a b c d f g : Int} (hg : 0 < g) (h : ∀ x ∈ [a, b, c, d, f, g], Sm 4000 x) : F_course_of [.dat (T5 a b c d f), .dat (.int g)] [] = some (.dat (.tuple ((red [a, b, c, d, f, g]).map .int)), []) := by
  have e1 := w_below hg
  have e2 := e_reduced (v := [a, b, c, d, f, g]) (r := T6 a b c d f g) .t h (by simp)
  generalize (red [a, b, c, d, f, g]).map PyData.int = out at *
  simp! [F_course_of, b_course_of, e_row5', e1, e2]
/-- a course from its own numbers, by a factor -/
theorem co_by {k : Int} (C : Co m x0 x1 x2 x3 x4 n) (hk : 0 < k) : red [k * x0, k * x1, k * x2, k * x3, k * x4, k * n] = [x0, x1, x2, x3, x4, n] := by
  have e := red_mul hk [x0, x1, x2, x3, x4, n]
  rw [co_red C] at e
  exact e
theorem w_levelcourse {p q : Int} (F : Fr m p q) (hm : m ≤ 1000) : F_level_course [.dat (T2 p q)] [] = some (.dat (.tuple ((red [p, 0, 2 * p, 0, p, q]).map .int)), []) := by
  have e1 : F_check_fraction [.dat (T2 p q)] [] = some (.dat .none, []) := by
    have e := e_frac F
    simp! [F_check_fraction, b_check_fraction, e]
  have sp := F.sp.sm (m := 4000) (by omega)
  have m0 := gMul_ok sp (sz_0.sm (m := 4000))
  have m1 := gMul_ok sp (sz_1.sm (m := 4000))
  have m2 := gMul_ok sp (sz_2.sm (m := 4000))
  rw [Int.mul_zero] at m0
  rw [Int.mul_one] at m1
  rw [Int.mul_comm] at m2
  have e2 := e_reduced (v := [p, 0, 2 * p, 0, p, q]) (r := T6 p 0 (2 * p) 0 p q) .t (fun x hx => by
    simp only [List.mem_cons, List.not_mem_nil, or_false] at hx
    rcases hx with rfl | rfl | rfl | rfl | rfl | rfl
    · exact sp
    · exact sz_0.sm
    · exact (sz_2.mul F.sp).sm (by omega)
    · exact sz_0.sm
    · exact sp
    · exact F.sq.sm (by omega)) (by simp)
  generalize (red [p, 0, 2 * p, 0, p, q]).map PyData.int = out at *
  simp! [F_level_course, b_level_course, c__ROUND, e1, gIx, ix2_0, ix2_1, m0, m1, m2, e2]
/-! parts -/
theorem w_partsF (C : Co m x0 x1 x2 x3 x4 n) (hm : m ≤ 1000) : F_course_parts [.dat (T6 x0 x1 x2 x3 x4 n)] [] = some (.dat (.tuple [Rt (3 * x0 + x2 + 3 * x4) (8 * n), Rt (x0 - x4) (2 * n), Rt (x1 + x3) (4 * n), Rt (x0 - x2 + x4) (8 * n), Rt (x1 - x3) (8 * n)]), []) := by
  have c : ∀ {x : Int}, x.natAbs < 2 ^ 4 → Sz 4 x := fun h => Sm.sz h
  have z3 : Sz 4 (3 : Int) := c (by decide)
  have z0 : Sz 4 (0 : Int) := c (by decide)
  have z1 : Sz 4 (1 : Int) := c (by decide)
  have z2 : Sz 4 (2 : Int) := c (by decide)
  have z4 : Sz 4 (4 : Int) := c (by decide)
  have n4 : Sz 4 (-4 : Int) := c (by decide)
  have n1 : Sz 4 (-1 : Int) := c (by decide)
  have dt : ∀ {a0 a1 a2 a3 a4 : Int}, Sz 4 a0 → Sz 4 a1 → Sz 4 a2 → Sz 4 a3 → Sz 4 a4 → F_dot [.dat (T5 a0 a1 a2 a3 a4), .dat (T5 x0 x1 x2 x3 x4)] [] = some (.dat (.int (a0 * x0 + a1 * x1 + a2 * x2 + a3 * x3 + a4 * x4)), []) ∧ Sm 4000 (a0 * x0 + a1 * x1 + a2 * x2 + a3 * x3 + a4 * x4) := fun h0 h1 h2 h3 h4 =>
    ⟨w_dot5 (h0.sm (by omega)) (h1.sm (by omega)) (h2.sm (by omega)) (h3.sm (by omega)) (h4.sm (by omega)) (C.s0.sm (by omega)) (C.s1.sm (by omega)) (C.s2.sm (by omega)) (C.s3.sm (by omega)) (C.s4.sm (by omega)),
      (((((h0.mul C.s0).add (h1.mul C.s1)).add (h2.mul C.s2)).add (h3.mul C.s3)).add (h4.mul C.s4)).sm (by omega)⟩
  have s8 : Sz 4 (8 : Int) := c (by decide)
  have m8 := gMul_ok (s8.sm (m := 4000) (by omega)) (C.sn.sm (m := 4000) (by omega))
  have n0 := C.n0
  have D0 : 0 < 8 * n := by omega
  have sD : Sm 4000 (8 * n) := (s8.mul C.sn).sm (by omega)
  obtain ⟨d0, b0⟩ := dt z3 z0 z1 z0 z3
  obtain ⟨d1, b1⟩ := dt z4 z0 z0 z0 n4
  obtain ⟨d2, b2⟩ := dt z0 z2 z0 z2 z0
  obtain ⟨d3, b3⟩ := dt z1 z0 n1 z0 z1
  obtain ⟨d4, b4⟩ := dt z0 z1 z0 n1 z0
  have r := core_parts (w_chco C) d0 d1 d2 d3 d4 m8 (e_ratio D0 b0 sD) (e_ratio D0 b1 sD) (e_ratio D0 b2 sD) (e_ratio D0 b3 sD) (e_ratio D0 b4 sD)
  have q0 : Rt (3 * x0 + 0 * x1 + 1 * x2 + 0 * x3 + 3 * x4) (8 * n) = Rt (3 * x0 + x2 + 3 * x4) (8 * n) := by rw [show 3 * x0 + 0 * x1 + 1 * x2 + 0 * x3 + 3 * x4 = 3 * x0 + x2 + 3 * x4 by omega]
  have q1 : Rt (4 * x0 + 0 * x1 + 0 * x2 + 0 * x3 + -4 * x4) (8 * n) = Rt (x0 - x4) (2 * n) := rt_eq (by omega) (by omega) (by grind)
  have q2 : Rt (0 * x0 + 2 * x1 + 0 * x2 + 2 * x3 + 0 * x4) (8 * n) = Rt (x1 + x3) (4 * n) := rt_eq (by omega) (by omega) (by grind)
  have q3 : Rt (1 * x0 + 0 * x1 + -1 * x2 + 0 * x3 + 1 * x4) (8 * n) = Rt (x0 - x2 + x4) (8 * n) := rt_eq (by omega) (by omega) (by grind)
  have q4 : Rt (0 * x0 + 1 * x1 + 0 * x2 + -1 * x3 + 0 * x4) (8 * n) = Rt (x1 - x3) (8 * n) := rt_eq (by omega) (by omega) (by grind)
  rw [q0, q1, q2, q3, q4] at r
  exact r
theorem core_lparts {a b c d e n A E N8 N2 N4 : Int} {r0 r1 r2 r3 r4 : PyData} (m3a : gMul (.int 3) (.int a) = some (.int A)) (m3e : gMul (.int 3) (.int e) = some (.int E)) (m8 : gMul (.int 8) (.int n) = some (.int N8)) (m2 : gMul (.int 2) (.int n) = some (.int N2)) (m4 : gMul (.int 4) (.int n) = some (.int N4))
    (e0 : F__law_ratio_K36 [.dat (.int (A + c + E)), .dat (.int N8)] [] = some (.dat r0, [])) (e1 : F__law_ratio_K36 [.dat (.int (a - e)), .dat (.int N2)] [] = some (.dat r1, [])) (e2 : F__law_ratio_K36 [.dat (.int (b + d)), .dat (.int N4)] [] = some (.dat r2, [])) (e3 : F__law_ratio_K36 [.dat (.int (a - c + e)), .dat (.int N8)] [] = some (.dat r3, [])) (e4 : F__law_ratio_K36 [.dat (.int (b - d)), .dat (.int N8)] [] = some (.dat r4, [])) :
    F__law_parts [.dat (T6 a b c d e n)] [] = some (.dat (.tuple [r0, r1, r2, r3, r4]), []) := by
  simp! [F__law_parts, b__law_parts, m3a, m3e, m8, m2, m4, e0, e1, e2, e3, e4]
theorem w_lparts (C : Co m x0 x1 x2 x3 x4 n) (hm : m ≤ 1000) : F__law_parts [.dat (T6 x0 x1 x2 x3 x4 n)] [] = some (.dat (.tuple [Rt (3 * x0 + x2 + 3 * x4) (8 * n), Rt (x0 - x4) (2 * n), Rt (x1 + x3) (4 * n), Rt (x0 - x2 + x4) (8 * n), Rt (x1 - x3) (8 * n)]), []) := by
  have c : ∀ {x : Int}, x.natAbs < 2 ^ 4 → Sz 4 x := fun h => Sm.sz h
  have z3 : Sz 4 (3 : Int) := c (by decide)
  have z8 : Sz 4 (8 : Int) := c (by decide)
  have z2 : Sz 4 (2 : Int) := c (by decide)
  have z4 : Sz 4 (4 : Int) := c (by decide)
  have q : ∀ {a b : Int}, Sz 4 a → Sz m b → gMul (.int a) (.int b) = some (.int (a * b)) := fun ha hb => gMul_ok (ha.sm (m := 4000) (by omega)) (hb.sm (m := 4000) (by omega))
  have n0 := C.n0
  have q8 : Sm 4000 (8 * n) := (z8.mul C.sn).sm (by omega)
  exact core_lparts (q z3 C.s0) (q z3 C.s4) (q z8 C.sn) (q z2 C.sn) (q z4 C.sn)
    (w_ratio (by omega) ((((z3.mul C.s0).add C.s2).add (z3.mul C.s4)).sm (by omega)) q8) (w_ratio (by omega) ((C.s0.sub C.s4).sm (by omega)) ((z2.mul C.sn).sm (by omega))) (w_ratio (by omega) ((C.s1.add C.s3).sm (by omega)) ((z4.mul C.sn).sm (by omega))) (w_ratio (by omega) (((C.s0.sub C.s2).add C.s4).sm (by omega)) q8) (w_ratio (by omega) ((C.s1.sub C.s3).sm (by omega)) q8)
end
end PL


set_option Elab.async false
set_option linter.all false
set_option maxRecDepth 100000
set_option maxHeartbeats 4000000
set_option exponentiation.threshold 20000
namespace PL
open PySem PySem.Spec L2 DL
local macro_rules | `(tactic| simp! [$as,*]) => `(tactic| simp only [fThaw, fThawT, fThawL, thawD, thawO, noL, noLAll, fAug, gAug, fRev, fFnA, fCallV, fBot, fZip, zipD, gSum, intsOf, List.foldl_cons, List.foldl_nil, mkF, fRet, fRetL, fRetN, fSkip, fSeq, fNever, fSet, fAsg, fNew, fIfS, fDrop, fPar, fPar3, fSetc, fSetc2, fVar, fLit, fOp, fUn, fTup, fTup.datsOf, fLst, fNilA, fConsA, fStarA, fCelA, fOfL, fTru, fAndT, fOrT, fNotT, fAndV, fOrV, fNotV, fIf, fBi, fCall, fCallL, fCallFr, fPerm, callF, celOf, celsOk, norm, aName, aNil, aCons, aTup, setD, fSl, fIt, fItL, fItT, fFor, forGo, fLc, lcGo, fYes, wipeD, fCix, fList, fSlL, fPart, fNoPart, fChain, List.length_cons, List.length_nil, List.getElem?_cons_zero, List.getElem?_cons_succ, List.getElem?_nil, List.set_cons_zero, List.set_cons_succ, List.map_cons, List.map_nil, List.cons_append, List.nil_append, List.append_nil, List.replicate, List.take_zero, List.take_nil, List.take_succ_cons, ↓bsome, ↓msome, Option.bind_some, Option.map_some, Option.bind_none, Option.map_none, Nat.sub_self, Int.cast_ofNat_Int, Nat.reduceAdd, Nat.reduceMul, Nat.reduceSub, Nat.reduceLeDiff, Nat.reduceLT, Nat.zero_add, Nat.add_zero, and_self, and_true, true_and, if_true, if_false, ↓reduceIte, ite_true, Bool.true_eq_false, Bool.false_eq_true, beq_self_eq_true, Bool.and_self, Bool.not_true, Bool.not_false, decide_true, decide_false, gLen, gTyIs, gTyNot, tyOf, gNeg, gPlus, DL.gSub, gCmp, gInt, gAbs, gTuple, gMax, gMin, gGcd, LIM, gIx, $as,*])
section
variable {m s : Nat} {x0 x1 x2 x3 x4 n : Int}
/-- the numbers of a course of parts -/
abbrev Wc (w0 w1 w2 w3 w4 B : Int) : List Int := [w0 + w1 + w3, 2 * w2 + 4 * w4, 2 * w0 - 6 * w3, 2 * w2 - 4 * w4, w0 - w1 + w3, B]
theorem wc_par {w0 w1 w2 w3 w4 B v0 v1 v2 v3 v4 A : Int} (hB : 0 < B) (hA : 0 < A) (h0 : w0 * A = v0 * B) (h1 : w1 * A = v1 * B) (h2 : w2 * A = v2 * B) (h3 : w3 * A = v3 * B) (h4 : w4 * A = v4 * B) : red (Wc w0 w1 w2 w3 w4 B) = red (Wc v0 v1 v2 v3 v4 A) := by
  refine red_par hA hB ?_
  simp only [List.map_cons, List.map_nil, List.cons.injEq, and_true]
  refine ⟨by grind, by grind, by grind, by grind, by grind, by grind⟩
theorem wt_par {p q B N : Int} (h1 : q ∣ B) (h2 : q ∣ N) (hq : 0 < q) : p * (B / q) * N = p * (N / q) * B := by
  obtain ⟨b, rfl⟩ := h1
  obtain ⟨c, rfl⟩ := h2
  rw [Int.mul_ediv_cancel_left _ (by omega), Int.mul_ediv_cancel_left _ (by omega)]
  grind
theorem en5 {a b c d e : PyData} : enumD 0 [a, b, c, d, e] = [.tuple [.int 0, a], .tuple [.int 1, b], .tuple [.int 2, c], .tuple [.int 3, d], .tuple [.int 4, e]] := rfl
theorem core_wrong {f0 f1 f2 f3 f4 : PyData} (e0 : F_is_fraction [.dat f0] [] = some (.dat (.bool true), [])) (e1 : F_is_fraction [.dat f1] [] = some (.dat (.bool true), [])) (e2 : F_is_fraction [.dat f2] [] = some (.dat (.bool true), [])) (e3 : F_is_fraction [.dat f3] [] = some (.dat (.bool true), [])) (e4 : F_is_fraction [.dat f4] [] = some (.dat (.bool true), [])) :
    F_first_wrong__is_fraction [.dat (.tuple [f0, f1, f2, f3, f4]), .fn "is_fraction", .dat (.int 5)] [] = some (.dat .none, []) := by
  simp! [F_first_wrong__is_fraction, b_first_wrong__is_fraction, fEnum, en5, gE05, gE15, gE25, gE35, gE45, e0, e1, e2, e3, e4]
theorem core_ofparts {f0 f1 f2 f3 f4 out : PyData} (hw : F_first_wrong__is_fraction [.dat (.tuple [f0, f1, f2, f3, f4]), .fn "is_fraction", .dat (.int 5)] [] = some (.dat .none, []))
    (ew : F__weighed_course [.dat c__COURSES_OF_PARTS, .dat (.tuple [f0, f1, f2, f3, f4])] [] = some (.dat out, [])) : F_course_of_parts [.dat (.tuple [f0, f1, f2, f3, f4])] [] = some (.dat out, []) := by
  have g5 : gNe (.int 5) (.int 5) = some (.bool false) := rfl
  have gn : gNotN .none .none = some (.bool false) := rfl
  simp! [F_course_of_parts, b_course_of_parts, hw, ew, g5, gn]
theorem sz_get {m : Nat} : ∀ {v : List Int}, (∀ x ∈ v, Sz m x) → (hm : 2 ≤ m) → ∀ k, Sz m (v.getD k 0)
  | [], _, _, k => by
    rw [List.getD_nil]; exact sz_0.by _ (Nat.zero_le _)
  | x :: v, h, hm, 0 => h x (by simp)
  | x :: v, h, hm, k + 1 => by
    rw [List.getD_cons_succ]; exact sz_get (fun y hy => h y (by simp [hy])) hm k
/-- one row with its weight -/
theorem wt4_row {M : Nat} {N p q : Int} (v : List Int) (hv : v.length ≤ 5) (hs : ∀ x ∈ v, Sz 4 x) (q0 : 0 < q) (qN : q ∣ N) (sp : Sz M p) : Wt4 4 M N (fun k => v.getD k 0, .tuple (nts v), p, q) :=
  ⟨⟨v, rfl, hv, fun _ => rfl, sz_get hs (by decide)⟩, q0, qN, sp⟩
theorem w_ofparts {M : Nat} {N p0 q0 p1 q1 p2 q2 p3 q3 p4 q4 : Int} (sN : Sz M N) (hN : 0 < N) (hM : 12 ≤ M) (hM2 : M ≤ 290) (k0 : Fr M p0 q0) (k1 : Fr M p1 q1) (k2 : Fr M p2 q2) (k3 : Fr M p3 q3) (k4 : Fr M p4 q4) (d0 : q0 ∣ N) (d1 : q1 ∣ N) (d2 : q2 ∣ N) (d3 : q3 ∣ N) (d4 : q4 ∣ N) :
    F_course_of_parts [.dat (.tuple [T2 p0 q0, T2 p1 q1, T2 p2 q2, T2 p3 q3, T2 p4 q4])] [] = some (.dat (.tuple ((red (Wc (p0 * (N / q0)) (p1 * (N / q1)) (p2 * (N / q2)) (p3 * (N / q3)) (p4 * (N / q4)) N)).map .int)), []) := by
  have c : ∀ {x : Int}, x.natAbs < 2 ^ 4 → Sz 4 x := fun h => Sm.sz h
  have cs : ∀ {v : List Int}, (∀ x ∈ v, x.natAbs < 2 ^ 4) → ∀ x ∈ v, Sz 4 x := fun h x hx => c (h x hx)
  obtain ⟨B, u, ew, B0, BN, hd, hu⟩ := w_weighedT (m := 4) (M := M) (N := N) sN hN (by omega) (by omega)
    (wt4_row [1, 0, 2, 0, 1] (by decide) (cs (by decide)) k0.q0 d0 k0.sp) (wt4_row [1, 0, 0, 0, -1] (by decide) (cs (by decide)) k1.q0 d1 k1.sp) (wt4_row [0, 2, 0, 2, 0] (by decide) (cs (by decide)) k2.q0 d2 k2.sp) (wt4_row [1, 0, -6, 0, 1] (by decide) (cs (by decide)) k3.q0 d3 k3.sp) (wt4_row [0, 4, 0, -4, 0] (by decide) (cs (by decide)) k4.q0 d4 k4.sp)
  have g0 : q0 ∣ B := hd _ (List.mem_cons_self)
  have g1 : q1 ∣ B := hd _ (List.mem_cons_of_mem _ (List.mem_cons_self))
  have g2 : q2 ∣ B := hd _ (List.mem_cons_of_mem _ (List.mem_cons_of_mem _ (List.mem_cons_self)))
  have g3 : q3 ∣ B := hd _ (List.mem_cons_of_mem _ (List.mem_cons_of_mem _ (List.mem_cons_of_mem _ (List.mem_cons_self))))
  have g4 : q4 ∣ B := hd _ (List.mem_cons_of_mem _ (List.mem_cons_of_mem _ (List.mem_cons_of_mem _ (List.mem_cons_of_mem _ (List.mem_cons_self)))))
  have e : [u 0, u 1, u 2, u 3, u 4, B] = Wc (p0 * (B / q0)) (p1 * (B / q1)) (p2 * (B / q2)) (p3 * (B / q3)) (p4 * (B / q4)) B := by
    rw [hu]
    simp only [accL, List.foldl_cons, List.foldl_nil, List.getD_cons_zero, List.getD_cons_succ, List.cons.injEq, and_true]
    refine ⟨by grind, by grind, by grind, by grind, by grind⟩
  rw [e, wc_par B0 hN (wt_par g0 d0 k0.q0) (wt_par g1 d1 k1.q0) (wt_par g2 d2 k2.q0) (wt_par g3 d3 k3.q0) (wt_par g4 d4 k4.q0)] at ew
  exact core_ofparts (core_wrong (e_frac k0) (e_frac k1) (e_frac k2) (e_frac k3) (e_frac k4)) ew
theorem core_laid {p0 q0 p1 q1 p2 q2 p3 q3 p4 q4 N1 N2 N3 N4 N e0 e1 e2 e3 e4 w0 w1 w2 w3 w4 a0 a2 a3 a4 : Int} {out : PyData} (n0 : gMul (.int 1) (.int q0) = some (.int N1)) (n1 : gMul (.int N1) (.int q1) = some (.int N2)) (n2 : gMul (.int N2) (.int q2) = some (.int N3)) (n3 : gMul (.int N3) (.int q3) = some (.int N4)) (n4 : gMul (.int N4) (.int q4) = some (.int N))
    (d0 : gDiv (.int N) (.int q0) = some (.int e0)) (d1 : gDiv (.int N) (.int q1) = some (.int e1)) (d2 : gDiv (.int N) (.int q2) = some (.int e2)) (d3 : gDiv (.int N) (.int q3) = some (.int e3)) (d4 : gDiv (.int N) (.int q4) = some (.int e4))
    (m0 : gMul (.int p0) (.int e0) = some (.int w0)) (m1 : gMul (.int p1) (.int e1) = some (.int w1)) (m2 : gMul (.int p2) (.int e2) = some (.int w2)) (m3 : gMul (.int p3) (.int e3) = some (.int w3)) (m4 : gMul (.int p4) (.int e4) = some (.int w4))
    (x0 : gMul (.int 2) (.int w0) = some (.int a0)) (x2 : gMul (.int 2) (.int w2) = some (.int a2)) (x3 : gMul (.int 6) (.int w3) = some (.int a3)) (x4 : gMul (.int 4) (.int w4) = some (.int a4))
    (el : F__law_low_K36 [.dat (T6 (w0 + w1 + w3) (a2 + a4) (a0 - a3) (a2 - a4) (w0 - w1 + w3) N)] [] = some (.dat out, [])) : F__law_laid_K35 [.dat (.tuple [T2 p0 q0, T2 p1 q1, T2 p2 q2, T2 p3 q3, T2 p4 q4])] [] = some (.dat out, []) := by
  simp! [F__law_laid_K35, b__law_laid_K35, aLst, gIx, ix2_0, ix2_1, n0, n1, n2, n3, n4, d0, d1, d2, d3, d4, m0, m1, m2, m3, m4, x0, x2, x3, x4, el]
end
end PL


set_option Elab.async false
set_option linter.all false
set_option maxRecDepth 100000
set_option maxHeartbeats 4000000
set_option exponentiation.threshold 20000
namespace PL
open PySem PySem.Spec L2 DL
section
variable {m s : Nat} {x0 x1 x2 x3 x4 n : Int}
abbrev Nq (q0 q1 q2 q3 q4 : Int) : Int := 1 * q0 * q1 * q2 * q3 * q4
theorem nq_pos {q0 q1 q2 q3 q4 : Int} (h0 : 0 < q0) (h1 : 0 < q1) (h2 : 0 < q2) (h3 : 0 < q3) (h4 : 0 < q4) : 0 < Nq q0 q1 q2 q3 q4 :=
  Int.mul_pos (Int.mul_pos (Int.mul_pos (Int.mul_pos (Int.mul_pos (by decide) h0) h1) h2) h3) h4
theorem nq_0 {q0 q1 q2 q3 q4 : Int} : q0 ∣ Nq q0 q1 q2 q3 q4 := ⟨q1 * q2 * q3 * q4, by unfold Nq; grind⟩
theorem nq_1 {q0 q1 q2 q3 q4 : Int} : q1 ∣ Nq q0 q1 q2 q3 q4 := ⟨q0 * q2 * q3 * q4, by unfold Nq; grind⟩
theorem nq_2 {q0 q1 q2 q3 q4 : Int} : q2 ∣ Nq q0 q1 q2 q3 q4 := ⟨q0 * q1 * q3 * q4, by unfold Nq; grind⟩
theorem nq_3 {q0 q1 q2 q3 q4 : Int} : q3 ∣ Nq q0 q1 q2 q3 q4 := ⟨q0 * q1 * q2 * q4, by unfold Nq; grind⟩
theorem nq_4 {q0 q1 q2 q3 q4 : Int} : q4 ∣ Nq q0 q1 q2 q3 q4 := ⟨q0 * q1 * q2 * q3, by unfold Nq; grind⟩
theorem nq_sz {M : Nat} {q0 q1 q2 q3 q4 : Int} (h0 : Sz M q0) (h1 : Sz M q1) (h2 : Sz M q2) (h3 : Sz M q3) (h4 : Sz M q4) : Sz (5 * M + 2) (Nq q0 q1 q2 q3 q4) :=
  (((((sz_1.mul h0).mul h1).mul h2).mul h3).mul h4).by _ (by omega)
abbrev Pt (p0 q0 p1 q1 p2 q2 p3 q3 p4 q4 : Int) : PyData := .tuple [T2 p0 q0, T2 p1 q1, T2 p2 q2, T2 p3 q3, T2 p4 q4]
abbrev Wp (p0 q0 p1 q1 p2 q2 p3 q3 p4 q4 : Int) : List Int := Wc (p0 * (Nq q0 q1 q2 q3 q4 / q0)) (p1 * (Nq q0 q1 q2 q3 q4 / q1)) (p2 * (Nq q0 q1 q2 q3 q4 / q2)) (p3 * (Nq q0 q1 q2 q3 q4 / q3)) (p4 * (Nq q0 q1 q2 q3 q4 / q4)) (Nq q0 q1 q2 q3 q4)
theorem w_laid {M : Nat} {p0 q0 p1 q1 p2 q2 p3 q3 p4 q4 : Int} (hM : M ≤ 100) (k0 : Fr M p0 q0) (k1 : Fr M p1 q1) (k2 : Fr M p2 q2) (k3 : Fr M p3 q3) (k4 : Fr M p4 q4) :
    F__law_laid_K35 [.dat (Pt p0 q0 p1 q1 p2 q2 p3 q3 p4 q4)] [] = some (.dat (.tuple ((red (Wp p0 q0 p1 q1 p2 q2 p3 q3 p4 q4)).map .int)), []) := by
  have sN := nq_sz k0.sq k1.sq k2.sq k3.sq k4.sq
  have q : ∀ {k l : Nat} {a b : Int}, Sz k a → Sz l b → k ≤ 4000 → l ≤ 4000 → gMul (.int a) (.int b) = some (.int (a * b)) := fun ha hb h1 h2 => gMul_ok (ha.sm h1) (hb.sm h2)
  have dv : ∀ {b : Int}, 0 < b → Sz M b → gDiv (.int (Nq q0 q1 q2 q3 q4)) (.int b) = some (.int (Nq q0 q1 q2 q3 q4 / b)) := fun hb sb => gDiv_ok hb (sb.sm (by omega))
  have se : ∀ {b : Int}, Sz (5 * M + 2) (Nq q0 q1 q2 q3 q4 / b) := sN.div
  have sw : ∀ {a b : Int}, Sz M a → Sz (6 * M + 2) (a * (Nq q0 q1 q2 q3 q4 / b)) := fun h => (h.mul se).by _ (by omega)
  have c : ∀ {x : Int}, x.natAbs < 2 ^ 4 → Sz 4 x := fun h => Sm.sz h
  have z2 : Sz 4 (2 : Int) := c (by decide)
  have z4 : Sz 4 (4 : Int) := c (by decide)
  have z6 : Sz 4 (6 : Int) := c (by decide)
  refine core_laid (q sz_1 k0.sq (by omega) (by omega)) (q (sz_1.mul k0.sq) k1.sq (by omega) (by omega)) (q ((sz_1.mul k0.sq).mul k1.sq) k2.sq (by omega) (by omega)) (q (((sz_1.mul k0.sq).mul k1.sq).mul k2.sq) k3.sq (by omega) (by omega)) (q ((((sz_1.mul k0.sq).mul k1.sq).mul k2.sq).mul k3.sq) k4.sq (by omega) (by omega))
    (dv k0.q0 k0.sq) (dv k1.q0 k1.sq) (dv k2.q0 k2.sq) (dv k3.q0 k3.sq) (dv k4.q0 k4.sq) (q k0.sp se (by omega) (by omega)) (q k1.sp se (by omega) (by omega)) (q k2.sp se (by omega) (by omega)) (q k3.sp se (by omega) (by omega)) (q k4.sp se (by omega) (by omega))
    (q z2 (sw k0.sp) (by omega) (by omega)) (q z2 (sw k2.sp) (by omega) (by omega)) (q z6 (sw k3.sp) (by omega) (by omega)) (q z4 (sw k4.sp) (by omega) (by omega)) (w_low (v := Wp p0 q0 p1 q1 p2 q2 p3 q3 p4 q4) .t (fun x hx => ?_) (by simp))
  simp only [List.mem_cons, List.not_mem_nil, or_false] at hx
  rcases hx with rfl | rfl | rfl | rfl | rfl | rfl
  · exact (((sw k0.sp).add (sw k1.sp)).add (sw k3.sp)).sm (by omega)
  · exact ((z2.mul (sw k2.sp)).add (z4.mul (sw k4.sp))).sm (by omega)
  · exact ((z2.mul (sw k0.sp)).sub (z6.mul (sw k3.sp))).sm (by omega)
  · exact ((z2.mul (sw k2.sp)).sub (z4.mul (sw k4.sp))).sm (by omega)
  · exact (((sw k0.sp).sub (sw k1.sp)).add (sw k3.sp)).sm (by omega)
  · exact sN.sm (by omega)
theorem w_ofparts5 {M : Nat} {p0 q0 p1 q1 p2 q2 p3 q3 p4 q4 : Int} (hM : M ≤ 50) (h2 : 2 ≤ M) (k0 : Fr M p0 q0) (k1 : Fr M p1 q1) (k2 : Fr M p2 q2) (k3 : Fr M p3 q3) (k4 : Fr M p4 q4) :
    F_course_of_parts [.dat (Pt p0 q0 p1 q1 p2 q2 p3 q3 p4 q4)] [] = some (.dat (.tuple ((red (Wp p0 q0 p1 q1 p2 q2 p3 q3 p4 q4)).map .int)), []) := by
  have up : ∀ {a b : Int}, Fr M a b → Fr (5 * M + 2) a b := fun h => ⟨h.q0, h.one, h.sp.by _ (by omega), h.sq.by _ (by omega)⟩
  exact w_ofparts (nq_sz k0.sq k1.sq k2.sq k3.sq k4.sq) (nq_pos k0.q0 k1.q0 k2.q0 k3.q0 k4.q0) (by omega) (by omega) (up k0) (up k1) (up k2) (up k3) (up k4) nq_0 nq_1 nq_2 nq_3 nq_4
/-- a part's weight -/
theorem wt_is {P Q g p q N : Int} (hQ : Q ∣ N) (Q0 : 0 < Q) (h1 : P * g = p) (h2 : Q * g = q) : P * (N / Q) * q = p * N := by
  obtain ⟨c, rfl⟩ := hQ
  rw [Int.mul_ediv_cancel_left _ (by omega), ← h1, ← h2]
  grind
theorem parts_fin {w0 w1 w2 w3 w4 N : Int} (C : Co m x0 x1 x2 x3 x4 n) (NN : 0 < N) (i0 : w0 * (8 * n) = (3 * x0 + x2 + 3 * x4) * N) (i1 : w1 * (2 * n) = (x0 - x4) * N) (i2 : w2 * (4 * n) = (x1 + x3) * N) (i3 : w3 * (8 * n) = (x0 - x2 + x4) * N) (i4 : w4 * (8 * n) = (x1 - x3) * N) : red (Wc w0 w1 w2 w3 w4 N) = [x0, x1, x2, x3, x4, n] := by
  rw [← co_red C]
  refine red_par C.n0 NN ?_
  simp only [List.map_cons, List.map_nil, List.cons.injEq, and_true]
  refine ⟨by grind, by grind, by grind, by grind, by grind, by grind⟩
theorem w_partsback (C : Co m x0 x1 x2 x3 x4 n) (hm : m ≤ 30) : ∃ r, F_course_parts [.dat (T6 x0 x1 x2 x3 x4 n)] [] = some (.dat r, []) ∧ F_course_of_parts [.dat r] [] = some (.dat (T6 x0 x1 x2 x3 x4 n), []) := by
  have c : ∀ {x : Int}, x.natAbs < 2 ^ 4 → Sz 4 x := fun h => Sm.sz h
  have z3 : Sz 4 (3 : Int) := c (by decide)
  have z8 : Sz 4 (8 : Int) := c (by decide)
  have z2 : Sz 4 (2 : Int) := c (by decide)
  have z4 : Sz 4 (4 : Int) := c (by decide)
  have n0 := C.n0
  have s8 : Sz 44 (8 * n) := (z8.mul C.sn).by _ (by omega)
  have e := w_partsF C (by omega)
  obtain ⟨P0, Q0, g0, e0, F0, _, a0, b0⟩ := ratN (m := 44) (p := 3 * x0 + x2 + 3 * x4) (q := 8 * n) (by omega) ((((z3.mul C.s0).add C.s2).add (z3.mul C.s4)).by _ (by omega)) s8
  obtain ⟨P1, Q1, g1, e1, F1, _, a1, b1⟩ := ratN (m := 44) (p := x0 - x4) (q := 2 * n) (by omega) ((C.s0.sub C.s4).by _ (by omega)) ((z2.mul C.sn).by _ (by omega))
  obtain ⟨P2, Q2, g2, e2, F2, _, a2, b2⟩ := ratN (m := 44) (p := x1 + x3) (q := 4 * n) (by omega) ((C.s1.add C.s3).by _ (by omega)) ((z4.mul C.sn).by _ (by omega))
  obtain ⟨P3, Q3, g3, e3, F3, _, a3, b3⟩ := ratN (m := 44) (p := x0 - x2 + x4) (q := 8 * n) (by omega) (((C.s0.sub C.s2).add C.s4).by _ (by omega)) s8
  obtain ⟨P4, Q4, g4, e4, F4, _, a4, b4⟩ := ratN (m := 44) (p := x1 - x3) (q := 8 * n) (by omega) ((C.s1.sub C.s3).by _ (by omega)) s8
  rw [e0, e1, e2, e3, e4] at e
  have f := w_ofparts5 (by decide) (by decide) F0 F1 F2 F3 F4
  have i0 := wt_is (N := Nq Q0 Q1 Q2 Q3 Q4) nq_0 F0.q0 a0 b0
  have i1 := wt_is (N := Nq Q0 Q1 Q2 Q3 Q4) nq_1 F1.q0 a1 b1
  have i2 := wt_is (N := Nq Q0 Q1 Q2 Q3 Q4) nq_2 F2.q0 a2 b2
  have i3 := wt_is (N := Nq Q0 Q1 Q2 Q3 Q4) nq_3 F3.q0 a3 b3
  have i4 := wt_is (N := Nq Q0 Q1 Q2 Q3 Q4) nq_4 F4.q0 a4 b4
  have NN := nq_pos F0.q0 F1.q0 F2.q0 F3.q0 F4.q0
  have fin : red (Wp P0 Q0 P1 Q1 P2 Q2 P3 Q3 P4 Q4) = [x0, x1, x2, x3, x4, n] := parts_fin C NN i0 i1 i2 i3 i4
  rw [fin] at f
  exact ⟨_, e, f⟩
end
end PL


set_option Elab.async false
set_option linter.all false
set_option maxRecDepth 100000
set_option maxHeartbeats 4000000
set_option exponentiation.threshold 20000
namespace PL
open PySem PySem.Spec L2 DL
local macro_rules | `(tactic| simp! [$as,*]) => `(tactic| simp only [fThaw, fThawT, fThawL, thawD, thawO, noL, noLAll, fAug, gAug, fRev, fFnA, fCallV, fBot, fZip, zipD, gSum, intsOf, List.foldl_cons, List.foldl_nil, mkF, fRet, fRetL, fRetN, fSkip, fSeq, fNever, fSet, fAsg, fNew, fIfS, fDrop, fPar, fPar3, fSetc, fSetc2, fVar, fLit, fOp, fUn, fTup, fTup.datsOf, fLst, fNilA, fConsA, fStarA, fCelA, fOfL, fTru, fAndT, fOrT, fNotT, fAndV, fOrV, fNotV, fIf, fBi, fCall, fCallL, fCallFr, fPerm, callF, celOf, celsOk, norm, aName, aNil, aCons, aTup, setD, fSl, fIt, fItL, fItT, fFor, forGo, fLc, lcGo, fYes, wipeD, fCix, fList, fSlL, fPart, fNoPart, fChain, List.length_cons, List.length_nil, List.getElem?_cons_zero, List.getElem?_cons_succ, List.getElem?_nil, List.set_cons_zero, List.set_cons_succ, List.map_cons, List.map_nil, List.cons_append, List.nil_append, List.append_nil, List.replicate, List.take_zero, List.take_nil, List.take_succ_cons, ↓bsome, ↓msome, Option.bind_some, Option.map_some, Option.bind_none, Option.map_none, Nat.sub_self, Int.cast_ofNat_Int, Nat.reduceAdd, Nat.reduceMul, Nat.reduceSub, Nat.reduceLeDiff, Nat.reduceLT, Nat.zero_add, Nat.add_zero, and_self, and_true, true_and, if_true, if_false, ↓reduceIte, ite_true, Bool.true_eq_false, Bool.false_eq_true, beq_self_eq_true, Bool.and_self, Bool.not_true, Bool.not_false, decide_true, decide_false, gLen, gTyIs, gTyNot, tyOf, gNeg, gPlus, DL.gSub, gCmp, gInt, gAbs, gTuple, gMax, gMin, gGcd, LIM, gIx, $as,*])
abbrev PP2 (s : Int × Int) : PyData := T2 s.1 s.2
abbrev sls (S : List (Int × Int)) : List PyData := S.map PP2
theorem eqv_T2 (s r : Int × Int) : PyData.eqv (PP2 s) (PP2 r) = (s == r) := by
  show PyData.eqvAll (nts [s.1, s.2]) (nts [r.1, r.2]) = _
  rw [eqv_ints]
  obtain ⟨a, b⟩ := s
  obtain ⟨c, d⟩ := r
  show (a == c && (b == d && true)) = (a == c && b == d)
  rw [Bool.and_true]
theorem any_sls (r : Int × Int) : ∀ S : List (Int × Int), ((sls S).any fun z => PyData.eqv z (PP2 r)) = decide (r ∈ S)
  | [] => by simp
  | s :: S => by
    have ih := any_sls r S
    simp only [sls, List.map_cons, List.any_cons] at ih ⊢
    rw [ih, eqv_T2]
    by_cases h : s = r
    · subst h; simp
    · have h' : ¬ r = s := fun e => h e.symm
      simp [h, h']
theorem sls_lay : ∀ S : List (Int × Int), PyData.canLayAll0 (sls S) = true ∧ PyData.depthAll (sls S) ≤ 1
  | [] => by decide
  | s :: S => by
    obtain ⟨h1, h2⟩ := sls_lay S
    refine ⟨?_, ?_⟩
    · show (PyData.canLay0 (PP2 s) && PyData.canLayAll0 (sls S)) = true
      rw [h1]; rfl
    · show max (PyData.depth (PP2 s)) (PyData.depthAll (sls S)) ≤ 1
      have : PyData.depth (PP2 s) = 1 := rfl
      omega
theorem sls_shaped (S : List (Int × Int)) : SeqAt.shaped (.list (sls S)) = true := by
  obtain ⟨h1, h2⟩ := sls_lay S
  unfold SeqAt.shaped
  rw [show (PyData.list (sls S)).canLay0 = PyData.canLayAll0 (sls S) from rfl, h1, show (PyData.list (sls S)).depth = PyData.depthAll (sls S) + 1 from rfl]
  simp only [Bool.true_and, decide_eq_true_eq]
  first
    | omega
    | (generalize PyData.depthAll (sls S) = d at *; simp; omega)
theorem in_sls (r : Int × Int) (S : List (Int × Int)) : gInD (PP2 r) (.list (sls S)) = some (.bool (decide (r ∈ S))) := by
  show (if SeqAt.shaped (PP2 r) = true ∧ SeqAt.shaped (.list (sls S)) = true then some (PyData.bool ((sls S).any fun z => PyData.eqv z (PP2 r))) else none) = _
  rw [if_pos ⟨shaped_tup [r.1, r.2], sls_shaped S⟩, any_sls]
theorem notin_sls (r : Int × Int) (S : List (Int × Int)) : gNotInD (PP2 r) (.list (sls S)) = some (.bool (!decide (r ∈ S))) := by
  show (if SeqAt.shaped (PP2 r) = true ∧ SeqAt.shaped (.list (sls S)) = true then some (PyData.bool (!(sls S).any fun z => PyData.eqv z (PP2 r))) else none) = _
  rw [if_pos ⟨shaped_tup [r.1, r.2], sls_shaped S⟩, any_sls]
/-! the slots drawn, each kept once -/
def keep1 (S : List (Int × Int)) (r : Int × Int) : List (Int × Int) := if r ∈ S then S else S ++ [r]
abbrev KpB : FS := (fIfS (fThawT (fTru (fOp gNotInD (fVar 3) (fVar 4)))) (fApp 4 (fVar 3)) fSkip)
theorem kp_1 {x1 x2 : PyData} {t : List PyData} (r : Int × Int) (S : List (Int × Int)) (hS : S.length < 1000) :
    KpB ⟨[some (.cel 0), some (.dat x1), some (.dat x2), some (.dat (PP2 r)), some (.cel 1)], [t, sls S]⟩ = some (.nx ⟨[some (.cel 0), some (.dat x1), some (.dat x2), some (.dat (PP2 r)), some (.cel 1)], [t, sls (keep1 S r)]⟩) := by
  have h1 := notin_sls r S
  have hl : (sls S).length < 100000 := by rw [List.length_map]; omega
  by_cases h : r ∈ S
  · have e : keep1 S r = S := if_pos h
    rw [e]
    simp only [h, decide_true, Bool.not_true] at h1
    generalize sls S = L at *
    generalize PP2 r = R at *
    simp! [fThawT, thawD, thawO, h1]
  · have e : keep1 S r = S ++ [r] := if_neg h
    rw [e, show sls (S ++ [r]) = sls S ++ [PP2 r] by simp [sls]]
    simp only [h, decide_false, Bool.not_false] at h1
    generalize sls S = L at *
    generalize PP2 r = R at *
    simp! [fThawT, thawD, thawO, h1, fApp, hl]
theorem kp_len (S : List (Int × Int)) (r : Int × Int) : (keep1 S r).length ≤ S.length + 1 := by
  unfold keep1; split <;> simp
theorem kp_forD {x1 x2 : PyData} {t : List PyData} : ∀ (rs S : List (Int × Int)) (x3 : Option SV), (∃ y, x3 = some (.dat y)) → S.length + rs.length < 1000 →
    ∃ y3, (∃ y, y3 = some (.dat y)) ∧ forGo (aName 3) KpB (sls rs) ⟨[some (.cel 0), some (.dat x1), some (.dat x2), x3, some (.cel 1)], [t, sls S]⟩ = some (.nx ⟨[some (.cel 0), some (.dat x1), some (.dat x2), y3, some (.cel 1)], [t, sls (rs.foldl keep1 S)]⟩)
  | [], S, x3, hx, _ => ⟨x3, hx, rfl⟩
  | r :: rs, S, x3, hx, h => by
    rw [List.length_cons] at h
    obtain ⟨y3, hy, ih⟩ := kp_forD (x1 := x1) (x2 := x2) (t := t) rs (keep1 S r) (some (.dat (PP2 r))) ⟨_, rfl⟩ (by have := kp_len S r; omega)
    refine ⟨y3, hy, ?_⟩
    have e := kp_1 (x1 := x1) (x2 := x2) (t := t) r S (by omega)
    generalize KpB = b at e ih ⊢
    simp only [sls, List.map_cons, forGo, aName, setD, List.set_cons_succ, List.set_cons_zero, Option.bind_some, e, List.foldl_cons] at ih ⊢
    simp only [sls, e, Option.bind_some] at e ⊢
    exact ih
theorem kp_nodup : ∀ (rs S : List (Int × Int)), S.Nodup → (rs.foldl keep1 S).Nodup
  | [], S, h => h
  | r :: rs, S, h => by
    rw [List.foldl_cons]
    refine kp_nodup rs _ ?_
    unfold keep1
    split
    · exact h
    · rename_i n
      rw [List.nodup_append]
      exact ⟨h, by simp, fun a ma b mb => by rw [List.mem_singleton.mp mb]; exact fun z => n (z ▸ ma)⟩
theorem kp_mem {P : Int × Int → Prop} : ∀ (rs S : List (Int × Int)), (∀ s ∈ S, P s) → (∀ s ∈ rs, P s) → ∀ s ∈ rs.foldl keep1 S, P s
  | [], S, h, _ => h
  | r :: rs, S, h, g => by
    rw [List.foldl_cons]
    refine kp_mem rs _ (fun s hs => ?_) (fun s hs => g s (List.mem_cons_of_mem _ hs))
    unfold keep1 at hs
    split at hs
    · exact h s hs
    · rcases List.mem_append.mp hs with hs | hs
      · exact h s hs
      · rw [List.mem_singleton.mp hs]; exact g r List.mem_cons_self
theorem kp_sub : ∀ (rs S : List (Int × Int)), (∀ s ∈ S, s ∈ rs.foldl keep1 S) ∧ ∀ s ∈ rs, s ∈ rs.foldl keep1 S
  | [], S => ⟨fun _ h => h, fun _ h => by cases h⟩
  | r :: rs, S => by
    obtain ⟨h1, h2⟩ := kp_sub rs (keep1 S r)
    have k1 : ∀ s ∈ S, s ∈ keep1 S r := fun s hs => by
      unfold keep1; split
      · exact hs
      · exact List.mem_append_left _ hs
    have k2 : r ∈ keep1 S r := by
      unfold keep1; split
      · assumption
      · simp
    rw [List.foldl_cons]
    refine ⟨fun s hs => h1 s (k1 s hs), fun s hs => ?_⟩
    rcases List.mem_cons.mp hs with rfl | hs
    · exact h1 _ k2
    · exact h2 s hs
end PL


set_option Elab.async false
set_option linter.all false
set_option maxRecDepth 100000
set_option maxHeartbeats 4000000
set_option exponentiation.threshold 20000
namespace PL
open PySem PySem.Spec L2 DL
local macro_rules | `(tactic| simp! [$as,*]) => `(tactic| simp only [fThaw, fThawT, fThawL, thawD, thawO, noL, noLAll, fAug, gAug, fRev, fFnA, fCallV, fBot, fZip, zipD, gSum, intsOf, List.foldl_cons, List.foldl_nil, mkF, fRet, fRetL, fRetN, fSkip, fSeq, fNever, fSet, fAsg, fNew, fIfS, fDrop, fPar, fPar3, fSetc, fSetc2, fVar, fLit, fOp, fUn, fTup, fTup.datsOf, fLst, fNilA, fConsA, fStarA, fCelA, fOfL, fTru, fAndT, fOrT, fNotT, fAndV, fOrV, fNotV, fIf, fBi, fCall, fCallL, fCallFr, fPerm, callF, celOf, celsOk, norm, aName, aNil, aCons, aTup, setD, fSl, fIt, fItL, fItT, fFor, forGo, fLc, lcGo, fYes, wipeD, fCix, fList, fSlL, fPart, fNoPart, fChain, List.length_cons, List.length_nil, List.getElem?_cons_zero, List.getElem?_cons_succ, List.getElem?_nil, List.set_cons_zero, List.set_cons_succ, List.map_cons, List.map_nil, List.cons_append, List.nil_append, List.append_nil, List.replicate, List.take_zero, List.take_nil, List.take_succ_cons, ↓bsome, ↓msome, Option.bind_some, Option.map_some, Option.bind_none, Option.map_none, Nat.sub_self, Int.cast_ofNat_Int, Nat.reduceAdd, Nat.reduceMul, Nat.reduceSub, Nat.reduceLeDiff, Nat.reduceLT, Nat.zero_add, Nat.add_zero, and_self, and_true, true_and, if_true, if_false, ↓reduceIte, ite_true, Bool.true_eq_false, Bool.false_eq_true, beq_self_eq_true, Bool.and_self, Bool.not_true, Bool.not_false, decide_true, decide_false, gLen, gTyIs, gTyNot, tyOf, gNeg, gPlus, DL.gSub, gCmp, gInt, gAbs, gTuple, gMax, gMin, gGcd, LIM, gIx, $as,*])
theorem sub_len {α : Type} [DecidableEq α] : ∀ (F L : List α), F.Nodup → (∀ x ∈ F, x ∈ L) → F.length ≤ L.length
  | [], _, _, _ => Nat.zero_le _
  | x :: F, L, nd, h => by
    obtain ⟨nx, nF⟩ := List.nodup_cons.mp nd
    have hx := h x List.mem_cons_self
    have ih := sub_len F (L.erase x) nF fun y hy => (List.mem_erase_of_ne (show y ≠ x from fun e => nx (by rw [← e]; exact hy))).mpr (h y (List.mem_cons_of_mem _ hy))
    have h1 := List.length_erase_of_mem hx
    have h2 := List.length_pos_of_mem hx
    rw [List.length_cons]; omega
abbrev SlA : FS := (fFor (fRng1 (fConsA (fLit (.int 5)) fNilA)) (aName 2) (fApp 1 (fCall F__law_slot (fCelA 0 fNilA))))
abbrev SlB : FS := (fFor (fIt (fTup (fConsA (fTup (fConsA (fLit (.int 0)) (fConsA (fLit (.int 1)) fNilA))) (fConsA (fTup (fConsA (fLit (.int 1)) (fConsA (fLit (.int 0)) fNilA))) (fConsA (fTup (fConsA (fLit (.int 1)) (fConsA (fLit (.int 1)) fNilA))) (fConsA (fTup (fConsA (fUn gNeg (fLit (.int 1))) (fConsA (fLit (.int 1)) fNilA))) (fConsA (fTup (fConsA (fLit (.int 1)) (fConsA (fLit (.int 2)) fNilA))) fNilA))))))) (aName 3) (fApp 1 (fVar 3)))
theorem core_slA {t t1 t2 t3 t4 t5 : List PyData} {s1 s2 s3 s4 s5 : PyData} (y1 : F__law_slot [.cel 0] [t] = some (.dat s1, [t1])) (y2 : F__law_slot [.cel 0] [t1] = some (.dat s2, [t2])) (y3 : F__law_slot [.cel 0] [t2] = some (.dat s3, [t3])) (y4 : F__law_slot [.cel 0] [t3] = some (.dat s4, [t4])) (y5 : F__law_slot [.cel 0] [t4] = some (.dat s5, [t5])) :
    SlA ⟨[some (.cel 0), some (.cel 1), none, none, none], [t, []]⟩ = some (.nx ⟨[some (.cel 0), some (.cel 1), some (.dat (.int 4)), none, none], [t5, [s1, s2, s3, s4, s5]]⟩) := by
  have l1 : ∀ t : List PyData, [t, []].length = 2 := fun _ => rfl
  simp! [fRng1, rng_5, rng5D, tn_5, fApp, y1, y2, y3, y4, y5]
theorem core_slB {t : List PyData} {s1 s2 s3 s4 s5 : PyData} :
    SlB ⟨[some (.cel 0), some (.cel 1), some (.dat (.int 4)), none, none], [t, [s1, s2, s3, s4, s5]]⟩ = some (.nx ⟨[some (.cel 0), some (.cel 1), some (.dat (.int 4)), some (.dat (T2 1 2)), none], [t, [s1, s2, s3, s4, s5, T2 0 1, T2 1 0, T2 1 1, T2 (-1) 1, T2 1 2]]⟩) := by
  simp! [fApp]
theorem core_slots {t t5 L M : List PyData} {y3 : Option SV} (a : SlA ⟨[some (.cel 0), some (.cel 1), none, none, none], [t, []]⟩ = some (.nx ⟨[some (.cel 0), some (.cel 1), some (.dat (.int 4)), none, none], [t5, M]⟩)) {N : List PyData}
    (b : SlB ⟨[some (.cel 0), some (.cel 1), some (.dat (.int 4)), none, none], [t5, M]⟩ = some (.nx ⟨[some (.cel 0), some (.cel 1), some (.dat (.int 4)), some (.dat (T2 1 2)), none], [t5, N]⟩))
    (c : forGo (aName 3) KpB N ⟨[some (.cel 0), some (.dat (.list N)), some (.dat (.int 4)), some (.dat (T2 1 2)), some (.cel 1)], [t5, []]⟩ = some (.nx ⟨[some (.cel 0), some (.dat (.list N)), some (.dat (.int 4)), y3, some (.cel 1)], [t5, L]⟩)) (hy : noCel 1 [y3] = true) (hL : cutD L none (some 5) = L.take 5) :
    F__law_slots [.cel 0] [t] = some (.dat (.list (L.take 5)), [t5]) := by
  have c0 : (fNew 1 (fLst fNilA)) ⟨[some (.cel 0), none, none, none, none], [t]⟩ = some (.nx ⟨[some (.cel 0), some (.cel 1), none, none, none], [t, []]⟩) := by
    simp! []
  have f1 : ∀ B : FS, fFrz 1 1 B ⟨[some (.cel 0), some (.cel 1), some (.dat (.int 4)), some (.dat (T2 1 2)), none], [t5, N]⟩ = B ⟨[some (.cel 0), some (.dat (.list N)), some (.dat (.int 4)), some (.dat (T2 1 2)), none], [t5]⟩ := fun B => frzk (k := 1) rfl ⟨by decide, rfl⟩ rfl rfl
  have c1 : (fNew 4 (fLst fNilA)) ⟨[some (.cel 0), some (.dat (.list N)), some (.dat (.int 4)), some (.dat (T2 1 2)), none], [t5]⟩ = some (.nx ⟨[some (.cel 0), some (.dat (.list N)), some (.dat (.int 4)), some (.dat (T2 1 2)), some (.cel 1)], [t5, []]⟩) := by
    simp! []
  have c2 : (fFor (fIt (fVar 1)) (aName 3) KpB) ⟨[some (.cel 0), some (.dat (.list N)), some (.dat (.int 4)), some (.dat (T2 1 2)), some (.cel 1)], [t5, []]⟩ = some (.nx ⟨[some (.cel 0), some (.dat (.list N)), some (.dat (.int 4)), y3, some (.cel 1)], [t5, L]⟩) := c
  have f2 : ∀ B : FS, fFrz 1 4 B ⟨[some (.cel 0), some (.dat (.list N)), some (.dat (.int 4)), y3, some (.cel 1)], [t5, L]⟩ = B ⟨[some (.cel 0), some (.dat (.list N)), some (.dat (.int 4)), y3, some (.dat (.list L))], [t5]⟩ := fun B => frzk (k := 1) rfl ⟨by decide, rfl⟩ rfl (by
    cases y3 with
    | none => rfl
    | some y => cases y with
      | dat d => rfl
      | fn d => rfl
      | cel j =>
        have : (decide (j ≠ 1) && noCel 1 []) = true := hy
        show (decide (0 ≠ 1) && (decide (j ≠ 1) && noCel 1 [some (.dat (.list L))])) = true
        simp only [Bool.and_eq_true] at this ⊢
        exact ⟨rfl, this.1, rfl⟩)
  have c3 : (fRet (fSl (fVar 4) fNoPart (fPart (fLit (.int 5))))) ⟨[some (.cel 0), some (.dat (.list N)), some (.dat (.int 4)), y3, some (.dat (.list L))], [t5]⟩ = some (.rt (.dat (.list (L.take 5))) [t5]) := by
    simp! [hL]
  have e0 : b__law_slots = fSeq (fNew 1 (fLst fNilA)) (fSeq SlA (fSeq SlB (fFrz 1 1 (fSeq (fNew 4 (fLst fNilA)) (fSeq (fFor (fIt (fVar 1)) (aName 3) KpB) (fFrz 1 4 (fRet (fSl (fVar 4) fNoPart (fPart (fLit (.int 5)))))))))))  := rfl
  refine fn_ok (np := 1) (nN := 5) (n0 := 1) (c := [t5]) ?_ ⟨rfl, rfl⟩ rfl
  rw [e0]
  refine (seq_nx c0).trans ((seq_nx a).trans ((seq_nx b).trans ((f1 _).trans ((seq_nx c1).trans ((seq_nx c2).trans ((f2 _).trans c3))))))
theorem w_slots {k : Nat} {t : List PyData} (h : Src (k + 20) t) : ∃ (S : List (Int × Int)) (t' : List PyData), F__law_slots [.cel 0] [t] = some (.dat (.list (sls S)), [t']) ∧ Src k t' ∧ S.length = 5 ∧ S.Nodup ∧ ∀ s ∈ S, Sg 8 s.1 s.2 := by
  obtain ⟨a1, b1, t1, y1, h1, S1⟩ := w_slot (k := k + 16) h
  obtain ⟨a2, b2, t2, y2, h2, S2⟩ := w_slot (k := k + 12) h1
  obtain ⟨a3, b3, t3, y3, h3, S3⟩ := w_slot (k := k + 8) h2
  obtain ⟨a4, b4, t4, y4, h4, S4⟩ := w_slot (k := k + 4) h3
  obtain ⟨a5, b5, t5, y5, h5, S5⟩ := w_slot (k := k) h4
  let F5 : List (Int × Int) := [(0, 1), (1, 0), (1, 1), (-1, 1), (1, 2)]
  let D : List (Int × Int) := [(a1, b1), (a2, b2), (a3, b3), (a4, b4), (a5, b5)] ++ F5
  obtain ⟨z3, hz, e⟩ := kp_forD (x1 := .list (sls D)) (x2 := .int 4) (t := t5) D [] (some (.dat (T2 1 2))) ⟨_, rfl⟩ (by simp [D, F5])
  have hD := kp_sub D []
  have hl : 5 ≤ (D.foldl keep1 []).length := sub_len F5 _ (by decide) fun s hs => hD.2 s (List.mem_append_right _ hs)
  have nd := kp_nodup D [] List.nodup_nil
  have z : Sz 8 (0 : Int) := sz_0.by _ (by decide)
  have o : Sz 8 (1 : Int) := sz_1.by _ (by decide)
  have w : Sz 8 (2 : Int) := sz_2.by _ (by decide)
  have hm := kp_mem (P := fun s => Sg 8 s.1 s.2) D [] (fun _ h => by cases h) (fun s hs => by
    rcases List.mem_append.mp hs with hs | hs
    · simp only [List.mem_cons, List.not_mem_nil, or_false] at hs
      rcases hs with rfl | rfl | rfl | rfl | rfl <;> assumption
    · simp only [F5, List.mem_cons, List.not_mem_nil, or_false] at hs
      rcases hs with rfl | rfl | rfl | rfl | rfl
      · exact ⟨by decide, by decide, by decide, z, o⟩
      · exact ⟨by decide, by decide, by decide, o, z⟩
      · exact ⟨by decide, by decide, by decide, o, o⟩
      · exact ⟨by decide, by decide, by decide, o.neg, o⟩
      · exact ⟨by decide, by decide, by decide, o, w⟩)
  obtain ⟨y, rfl⟩ := hz
  generalize D.foldl keep1 [] = K at *
  refine ⟨K.take 5, t5, ?_, h5, by rw [List.length_take]; omega, nd.sublist (List.take_sublist _ _), fun s hs => hm s (List.mem_of_mem_take hs)⟩
  have r := core_slots (core_slA y1 y2 y3 y4 y5) core_slB e rfl (cutD_take (m := 5) (by rw [List.length_map]; exact hl))
  rw [show sls (K.take 5) = (sls K).take 5 by simp [sls, List.map_take]]
  exact r
end PL


set_option Elab.async false
set_option linter.all false
set_option maxRecDepth 100000
set_option maxHeartbeats 4000000
set_option exponentiation.threshold 20000
namespace PL
open PySem PySem.Spec L2 DL
local macro_rules | `(tactic| simp! [$as,*]) => `(tactic| simp only [fThaw, fThawT, fThawL, thawD, thawO, noL, noLAll, fAug, gAug, fRev, fFnA, fCallV, fBot, fZip, zipD, gSum, intsOf, List.foldl_cons, List.foldl_nil, mkF, fRet, fRetL, fRetN, fSkip, fSeq, fNever, fSet, fAsg, fNew, fIfS, fDrop, fPar, fPar3, fSetc, fSetc2, fVar, fLit, fOp, fUn, fTup, fTup.datsOf, fLst, fNilA, fConsA, fStarA, fCelA, fOfL, fTru, fAndT, fOrT, fNotT, fAndV, fOrV, fNotV, fIf, fBi, fCall, fCallL, fCallFr, fPerm, callF, celOf, celsOk, norm, aName, aNil, aCons, aTup, setD, fSl, fIt, fItL, fItT, fFor, forGo, fLc, lcGo, fYes, wipeD, fCix, fList, fSlL, fPart, fNoPart, fChain, List.length_cons, List.length_nil, List.getElem?_cons_zero, List.getElem?_cons_succ, List.getElem?_nil, List.set_cons_zero, List.set_cons_succ, List.map_cons, List.map_nil, List.cons_append, List.nil_append, List.append_nil, List.replicate, List.take_zero, List.take_nil, List.take_succ_cons, ↓bsome, ↓msome, Option.bind_some, Option.map_some, Option.bind_none, Option.map_none, Nat.sub_self, Int.cast_ofNat_Int, Nat.reduceAdd, Nat.reduceMul, Nat.reduceSub, Nat.reduceLeDiff, Nat.reduceLT, Nat.zero_add, Nat.add_zero, and_self, and_true, true_and, if_true, if_false, ↓reduceIte, ite_true, Bool.true_eq_false, Bool.false_eq_true, beq_self_eq_true, Bool.and_self, Bool.not_true, Bool.not_false, decide_true, decide_false, gLen, gTyIs, gTyNot, tyOf, gNeg, gPlus, DL.gSub, gCmp, gInt, gAbs, gTuple, gMax, gMin, gGcd, LIM, gIx, $as,*])
theorem w_isset {m : Nat} {p q : Int} (P : Sg m p q) : F_is_setting [.dat (T2 p q)] [] = some (.dat (.bool true), []) := by
  have e1 := e_rrow2 (a := p) (b := q)
  rw [P.one] at e1
  have o1 : ((((1 : Nat) : Int)) == 1) = true := rfl
  by_cases hq : 0 < q
  · simp! [F_is_setting, b_is_setting, e1, o1, gIx, ix2_1, hq]
  · have q0 : q = 0 := by have := P.b0; omega
    subst q0
    have p1 := P.z rfl
    subst p1
    have h1 : gEq (T2 1 0) (T2 1 0) = some (.bool true) := rfl
    simp! [F_is_setting, b_is_setting, e1, o1, gIx, ix2_1, hq, h1]
theorem core_sample {s f : PyData} (h1 : F_is_setting [.dat s] [] = some (.dat (.bool true), [])) (h2 : F_is_fraction [.dat f] [] = some (.dat (.bool true), [])) : F__is_sample [.dat (.tuple [s, f])] [] = some (.dat (.bool true), []) := by
  have g2 : gEq (.int 2) (.int 2) = some (.bool true) := rfl
  simp! [F__is_sample, b__is_sample, gIx, ix2_0, ix2_1, h1, h2, g2]
theorem core_check {s0 s1 s2 s3 s4 f0 f1 f2 f3 f4 : PyData} (h0 : F__is_sample [.dat (.tuple [s0, f0])] [] = some (.dat (.bool true), [])) (h1 : F__is_sample [.dat (.tuple [s1, f1])] [] = some (.dat (.bool true), [])) (h2 : F__is_sample [.dat (.tuple [s2, f2])] [] = some (.dat (.bool true), [])) (h3 : F__is_sample [.dat (.tuple [s3, f3])] [] = some (.dat (.bool true), [])) (h4 : F__is_sample [.dat (.tuple [s4, f4])] [] = some (.dat (.bool true), []))
    (g0 : gInD s0 (.list []) = some (.bool false)) (g1 : gInD s1 (.list [s0]) = some (.bool false)) (g2 : gInD s2 (.list [s0, s1]) = some (.bool false)) (g3 : gInD s3 (.list [s0, s1, s2]) = some (.bool false)) (g4 : gInD s4 (.list [s0, s1, s2, s3]) = some (.bool false)) :
    F__check_samples [.dat (.tuple [.tuple [s0, f0], .tuple [s1, f1], .tuple [s2, f2], .tuple [s3, f3], .tuple [s4, f4]])] [] = some (.dat .none, []) := by
  have g5 : gNe (.int 5) (.int 5) = some (.bool false) := rfl
  have c0 : (fIfS (fOrT (fTru (fUn (gTyNot "tuple") (fVar 0))) (fTru (fOp gNe (fBi gLen (fConsA (fVar 0) fNilA)) (fLit (.int 5))))) fNever fSkip) ⟨[some (.dat (.tuple [.tuple [s0, f0], .tuple [s1, f1], .tuple [s2, f2], .tuple [s3, f3], .tuple [s4, f4]])), none, none, none], []⟩ = some (.nx ⟨[some (.dat (.tuple [.tuple [s0, f0], .tuple [s1, f1], .tuple [s2, f2], .tuple [s3, f3], .tuple [s4, f4]])), none, none, none], []⟩) := by
    simp! [g5]
  have c1 : (fNew 1 (fLst fNilA)) ⟨[some (.dat (.tuple [.tuple [s0, f0], .tuple [s1, f1], .tuple [s2, f2], .tuple [s3, f3], .tuple [s4, f4]])), none, none, none], []⟩ = some (.nx ⟨[some (.dat (.tuple [.tuple [s0, f0], .tuple [s1, f1], .tuple [s2, f2], .tuple [s3, f3], .tuple [s4, f4]])), some (.cel 0), none, none], [[]]⟩) := by
    simp! []
  have c2 : (fFor (fEnum (fConsA (fVar 0) fNilA)) (aTup 2 (aCons (aName 2) (aCons (aName 3) aNil))) (fSeq (fIfS (fOrT (fNotT (fTru (fCall F__is_sample (fConsA (fVar 3) fNilA)))) (fThawT (fTru (fOp gInD (fOp gIx (fVar 3) (fLit (.int 0))) (fVar 1))))) fNever fSkip) (fApp 1 (fOp gIx (fVar 3) (fLit (.int 0)))))) ⟨[some (.dat (.tuple [.tuple [s0, f0], .tuple [s1, f1], .tuple [s2, f2], .tuple [s3, f3], .tuple [s4, f4]])), some (.cel 0), none, none], [[]]⟩ = some (.nx ⟨[some (.dat (.tuple [.tuple [s0, f0], .tuple [s1, f1], .tuple [s2, f2], .tuple [s3, f3], .tuple [s4, f4]])), some (.cel 0), some (.dat (.int 4)), some (.dat (.tuple [s4, f4]))], [[s0, s1, s2, s3, s4]]⟩) := by
    simp! [fEnum, en5, fThawT, thawD, thawO, fApp, gIx, ix2_0, h0, h1, h2, h3, h4, g0, g1, g2, g3, g4]
  have c3 : (fFrz 0 1 fSkip) ⟨[some (.dat (.tuple [.tuple [s0, f0], .tuple [s1, f1], .tuple [s2, f2], .tuple [s3, f3], .tuple [s4, f4]])), some (.cel 0), some (.dat (.int 4)), some (.dat (.tuple [s4, f4]))], [[s0, s1, s2, s3, s4]]⟩ = some (.nx ⟨[some (.dat (.tuple [.tuple [s0, f0], .tuple [s1, f1], .tuple [s2, f2], .tuple [s3, f3], .tuple [s4, f4]])), some (.dat (.list [s0, s1, s2, s3, s4])), some (.dat (.int 4)), some (.dat (.tuple [s4, f4]))], []⟩) := (frzk (k := 0) rfl ⟨by decide, rfl⟩ rfl rfl).trans rfl
  have e0 : b__check_samples = fSeq (fIfS (fOrT (fTru (fUn (gTyNot "tuple") (fVar 0))) (fTru (fOp gNe (fBi gLen (fConsA (fVar 0) fNilA)) (fLit (.int 5))))) fNever fSkip) (fSeq (fNew 1 (fLst fNilA)) (fSeq (fFor (fEnum (fConsA (fVar 0) fNilA)) (aTup 2 (aCons (aName 2) (aCons (aName 3) aNil))) (fSeq (fIfS (fOrT (fNotT (fTru (fCall F__is_sample (fConsA (fVar 3) fNilA)))) (fThawT (fTru (fOp gInD (fOp gIx (fVar 3) (fLit (.int 0))) (fVar 1))))) fNever fSkip) (fApp 1 (fOp gIx (fVar 3) (fLit (.int 0)))))) (fFrz 0 1 fSkip))) := rfl
  have all := (seq_nx c0).trans ((seq_nx c1).trans ((seq_nx c2).trans c3))
  rw [← e0] at all
  show mkF 1 4 0 b__check_samples [.dat (.tuple [.tuple [s0, f0], .tuple [s1, f1], .tuple [s2, f2], .tuple [s3, f3], .tuple [s4, f4]])] [] = _
  generalize b__check_samples = b at *
  simp! [mkF, all]
/-- five different settings -/
theorem in5 {s : Int × Int} {S : List (Int × Int)} (h : ¬ s ∈ S) : gInD (PP2 s) (.list (sls S)) = some (.bool false) := by
  rw [in_sls, decide_eq_false h]
theorem w_check {m k : Nat} {s0 s1 s2 s3 s4 : Int × Int} {p0 q0 p1 q1 p2 q2 p3 q3 p4 q4 : Int} (nd : [s0, s1, s2, s3, s4].Nodup) (S0 : Sg m s0.1 s0.2) (S1 : Sg m s1.1 s1.2) (S2 : Sg m s2.1 s2.2) (S3 : Sg m s3.1 s3.2) (S4 : Sg m s4.1 s4.2) (F0 : Fr k p0 q0) (F1 : Fr k p1 q1) (F2 : Fr k p2 q2) (F3 : Fr k p3 q3) (F4 : Fr k p4 q4) :
    F__check_samples [.dat (.tuple [.tuple [PP2 s0, T2 p0 q0], .tuple [PP2 s1, T2 p1 q1], .tuple [PP2 s2, T2 p2 q2], .tuple [PP2 s3, T2 p3 q3], .tuple [PP2 s4, T2 p4 q4]])] [] = some (.dat .none, []) := by
  simp only [List.nodup_cons, List.mem_cons, List.not_mem_nil, or_false, not_or] at nd
  obtain ⟨⟨n01, n02, n03, n04⟩, ⟨n12, n13, n14⟩, ⟨n23, n24⟩, n34, _⟩ := nd
  refine core_check (core_sample (w_isset S0) (e_frac F0)) (core_sample (w_isset S1) (e_frac F1)) (core_sample (w_isset S2) (e_frac F2)) (core_sample (w_isset S3) (e_frac F3)) (core_sample (w_isset S4) (e_frac F4))
    (in5 (S := []) (by simp)) (in5 (S := [s0]) ?_) (in5 (S := [s0, s1]) ?_) (in5 (S := [s0, s1, s2]) ?_) (in5 (S := [s0, s1, s2, s3]) ?_)
  · simp only [List.mem_cons, List.not_mem_nil, or_false]; exact fun e => n01 e.symm
  · simp only [List.mem_cons, List.not_mem_nil, or_false, not_or]; exact ⟨fun e => n02 e.symm, fun e => n12 e.symm⟩
  · simp only [List.mem_cons, List.not_mem_nil, or_false, not_or]; exact ⟨fun e => n03 e.symm, fun e => n13 e.symm, fun e => n23 e.symm⟩
  · simp only [List.mem_cons, List.not_mem_nil, or_false, not_or]; exact ⟨fun e => n04 e.symm, fun e => n14 e.symm, fun e => n24 e.symm, fun e => n34 e.symm⟩
end PL


set_option Elab.async false
set_option linter.all false
set_option maxRecDepth 100000
set_option maxHeartbeats 4000000
set_option exponentiation.threshold 20000
namespace PL
open PySem PySem.Spec L2 DL
/-! a form of degree four with five different roots is nothing -/
def H3 (y0 y1 y2 y3 p q : Int) : Int := y0 * (q * q * q) + y1 * (p * q * q) + y2 * (p * p * q) + y3 * (p * p * p)
def H2 (y0 y1 y2 p q : Int) : Int := y0 * (q * q) + y1 * (p * q) + y2 * (p * p)
def H1 (y0 y1 p q : Int) : Int := y0 * q + y1 * p
section
variable {m : Nat} {z0 z1 z2 z3 z4 a b : Int}
theorem div4 (S : Sg m a b) (h : Fo z0 z1 z2 z3 z4 a b = 0) : ∃ c y0 y1 y2 y3 : Int, c ≠ 0 ∧ ∀ p q, c * Fo z0 z1 z2 z3 z4 p q = (b * p - a * q) * H3 y0 y1 y2 y3 p q := by
  by_cases hb : b = 0
  · have ha := S.z hb
    subst hb; subst ha
    refine ⟨1, -z0, -z1, -z2, -z3, by decide, fun p q => ?_⟩
    unfold Fo at h ⊢
    unfold H3
    grind
  · refine ⟨b * b * b * b, b * b * b * z1 + a * (b * b) * z2 + a * a * b * z3 + a * a * a * z4, b * b * b * z2 + a * (b * b) * z3 + a * a * b * z4, b * b * b * z3 + a * (b * b) * z4, b * b * b * z4, ?_, fun p q => ?_⟩
    · exact Int.mul_ne_zero (Int.mul_ne_zero (Int.mul_ne_zero hb hb) hb) hb
    · unfold Fo at h ⊢
      unfold H3
      grind
theorem div3 (S : Sg m a b) (h : H3 z0 z1 z2 z3 a b = 0) : ∃ c y0 y1 y2 : Int, c ≠ 0 ∧ ∀ p q, c * H3 z0 z1 z2 z3 p q = (b * p - a * q) * H2 y0 y1 y2 p q := by
  by_cases hb : b = 0
  · have ha := S.z hb
    subst hb; subst ha
    refine ⟨1, -z0, -z1, -z2, by decide, fun p q => ?_⟩
    unfold H3 at h ⊢
    unfold H2
    grind
  · refine ⟨b * b * b, b * b * z1 + a * b * z2 + a * a * z3, b * b * z2 + a * b * z3, b * b * z3, ?_, fun p q => ?_⟩
    · exact Int.mul_ne_zero (Int.mul_ne_zero hb hb) hb
    · unfold H3 at h ⊢
      unfold H2
      grind
theorem div2 (S : Sg m a b) (h : H2 z0 z1 z2 a b = 0) : ∃ c y0 y1 : Int, c ≠ 0 ∧ ∀ p q, c * H2 z0 z1 z2 p q = (b * p - a * q) * H1 y0 y1 p q := by
  by_cases hb : b = 0
  · have ha := S.z hb
    subst hb; subst ha
    refine ⟨1, -z0, -z1, by decide, fun p q => ?_⟩
    unfold H2 at h ⊢
    unfold H1
    grind
  · refine ⟨b * b, b * z1 + a * z2, b * z2, ?_, fun p q => ?_⟩
    · exact Int.mul_ne_zero hb hb
    · unfold H2 at h ⊢
      unfold H1
      grind
theorem div1 (S : Sg m a b) (h : H1 z0 z1 a b = 0) : ∃ c y0 : Int, c ≠ 0 ∧ ∀ p q, c * H1 z0 z1 p q = (b * p - a * q) * y0 := by
  by_cases hb : b = 0
  · have ha := S.z hb
    subst hb; subst ha
    refine ⟨1, -z0, by decide, fun p q => ?_⟩
    unfold H1 at h ⊢
    grind
  · refine ⟨b, z1, hb, fun p q => ?_⟩
    unfold H1 at h ⊢
    grind
end
theorem sg_cross {m : Nat} {s r : Int × Int} (S : Sg m s.1 s.2) (R : Sg m r.1 r.2) (h : s ≠ r) : s.2 * r.1 - s.1 * r.2 ≠ 0 := fun e => h (by
  obtain ⟨a, b⟩ := s
  obtain ⟨c, f⟩ := r
  simp only at *
  have b0 := S.b0
  have f0 := R.b0
  by_cases hb : b = 0
  · have ha := S.z hb
    subst hb; subst ha
    have hf : f = 0 := by omega
    have hc := R.z hf
    subst hf; subst hc; rfl
  · by_cases hf : f = 0
    · have hc := R.z hf
      subst hf; subst hc
      omega
    · have e1 : red [a, b] = red [c, f] := red_par (a := f) (b := b) (by omega) (by omega) (by
        simp only [List.map_cons, List.map_nil, List.cons.injEq, and_true]
        exact ⟨by grind, by grind⟩)
      rw [red_of_one S.one, red_of_one R.one] at e1
      simp only [List.cons.injEq, and_true] at e1
      rw [e1.1, e1.2])
theorem fo_zero {m : Nat} {z0 z1 z2 z3 z4 : Int} {s0 s1 s2 s3 s4 : Int × Int} (nd : [s0, s1, s2, s3, s4].Nodup) (S0 : Sg m s0.1 s0.2) (S1 : Sg m s1.1 s1.2) (S2 : Sg m s2.1 s2.2) (S3 : Sg m s3.1 s3.2) (S4 : Sg m s4.1 s4.2)
    (h0 : Fo z0 z1 z2 z3 z4 s0.1 s0.2 = 0) (h1 : Fo z0 z1 z2 z3 z4 s1.1 s1.2 = 0) (h2 : Fo z0 z1 z2 z3 z4 s2.1 s2.2 = 0) (h3 : Fo z0 z1 z2 z3 z4 s3.1 s3.2 = 0) (h4 : Fo z0 z1 z2 z3 z4 s4.1 s4.2 = 0) : ∀ p q, Fo z0 z1 z2 z3 z4 p q = 0 := by
  simp only [List.nodup_cons, List.mem_cons, List.not_mem_nil, or_false, not_or] at nd
  obtain ⟨⟨n01, n02, n03, n04⟩, ⟨n12, n13, n14⟩, ⟨n23, n24⟩, n34, _⟩ := nd
  obtain ⟨c, y0, y1, y2, y3, hc, e⟩ := div4 S0 h0
  have nx : ∀ {s r : Int × Int} {u v w : Int}, Sg m s.1 s.2 → Sg m r.1 r.2 → s ≠ r → u * v = (s.2 * r.1 - s.1 * r.2) * w → v = 0 → w = 0 := fun S R n e z => by
    rw [z, Int.mul_zero] at e
    exact (Int.mul_eq_zero.mp e.symm).resolve_left (sg_cross S R n)
  have k1 := nx S0 S1 n01 (e _ _) h1
  have k2 := nx S0 S2 n02 (e _ _) h2
  have k3 := nx S0 S3 n03 (e _ _) h3
  have k4 := nx S0 S4 n04 (e _ _) h4
  obtain ⟨c3, x0, x1, x2, hc3, e3⟩ := div3 S1 k1
  have j2 := nx S1 S2 n12 (e3 _ _) k2
  have j3 := nx S1 S3 n13 (e3 _ _) k3
  have j4 := nx S1 S4 n14 (e3 _ _) k4
  obtain ⟨c2, w0, w1, hc2, e2⟩ := div2 S2 j2
  have i3 := nx S2 S3 n23 (e2 _ _) j3
  have i4 := nx S2 S4 n24 (e2 _ _) j4
  obtain ⟨c1, v0, hc1, e1⟩ := div1 S3 i3
  have g4 := nx S3 S4 n34 (e1 _ _) i4
  have up : ∀ {u v w t : Int}, u ≠ 0 → u * v = w * t → t = 0 → v = 0 := fun hu e z => by
    rw [z, Int.mul_zero] at e
    exact (Int.mul_eq_zero.mp e).resolve_left hu
  exact fun p q => up hc (e p q) (up hc3 (e3 p q) (up hc2 (e2 p q) (up hc1 (e1 p q) g4)))
end PL


set_option Elab.async false
set_option linter.all false
set_option maxRecDepth 100000
set_option maxHeartbeats 4000000
set_option exponentiation.threshold 20000
namespace PL
open PySem PySem.Spec L2 DL
local macro_rules | `(tactic| simp! [$as,*]) => `(tactic| simp only [fThaw, fThawT, fThawL, thawD, thawO, noL, noLAll, fAug, gAug, fRev, fFnA, fCallV, fBot, fZip, zipD, gSum, intsOf, List.foldl_cons, List.foldl_nil, mkF, fRet, fRetL, fRetN, fSkip, fSeq, fNever, fSet, fAsg, fNew, fIfS, fDrop, fPar, fPar3, fSetc, fSetc2, fVar, fLit, fOp, fUn, fTup, fTup.datsOf, fLst, fNilA, fConsA, fStarA, fCelA, fOfL, fTru, fAndT, fOrT, fNotT, fAndV, fOrV, fNotV, fIf, fBi, fCall, fCallL, fCallFr, fPerm, callF, celOf, celsOk, norm, aName, aNil, aCons, aTup, setD, fSl, fIt, fItL, fItT, fFor, forGo, fLc, lcGo, fYes, wipeD, fCix, fList, fSlL, fPart, fNoPart, fChain, List.length_cons, List.length_nil, List.getElem?_cons_zero, List.getElem?_cons_succ, List.getElem?_nil, List.set_cons_zero, List.set_cons_succ, List.map_cons, List.map_nil, List.cons_append, List.nil_append, List.append_nil, List.replicate, List.take_zero, List.take_nil, List.take_succ_cons, ↓bsome, ↓msome, Option.bind_some, Option.map_some, Option.bind_none, Option.map_none, Nat.sub_self, Int.cast_ofNat_Int, Nat.reduceAdd, Nat.reduceMul, Nat.reduceSub, Nat.reduceLeDiff, Nat.reduceLT, Nat.zero_add, Nat.add_zero, and_self, and_true, true_and, if_true, if_false, ↓reduceIte, ite_true, Bool.true_eq_false, Bool.false_eq_true, beq_self_eq_true, Bool.and_self, Bool.not_true, Bool.not_false, decide_true, decide_false, gLen, gTyIs, gTyNot, tyOf, gNeg, gPlus, DL.gSub, gCmp, gInt, gAbs, gTuple, gMax, gMin, gGcd, LIM, gIx, $as,*])
section
variable {m s : Nat} {x0 x1 x2 x3 x4 p q : Int}
theorem core_valueL {X0 X1 X2 X3 X4 T1 W1 T2' W2 T3 W3 T4 W4 T5' W5 S : PyData}
    (h1 : ∀ {X : PyData} {x2 : Option SV}, VaB ⟨[some (.dat X), some (.dat S), some (.dat X4), some (.dat (.int 0)), some (.dat (.int 1))], []⟩ = some (.nx ⟨[some (.dat X), some (.dat S), some (.dat X4), some (.dat T1), some (.dat W1)], []⟩))
    (h2 : ∀ {X : PyData}, VaB ⟨[some (.dat X), some (.dat S), some (.dat X3), some (.dat T1), some (.dat W1)], []⟩ = some (.nx ⟨[some (.dat X), some (.dat S), some (.dat X3), some (.dat T2'), some (.dat W2)], []⟩))
    (h3 : ∀ {X : PyData}, VaB ⟨[some (.dat X), some (.dat S), some (.dat X2), some (.dat T2'), some (.dat W2)], []⟩ = some (.nx ⟨[some (.dat X), some (.dat S), some (.dat X2), some (.dat T3), some (.dat W3)], []⟩))
    (h4 : ∀ {X : PyData}, VaB ⟨[some (.dat X), some (.dat S), some (.dat X1), some (.dat T3), some (.dat W3)], []⟩ = some (.nx ⟨[some (.dat X), some (.dat S), some (.dat X1), some (.dat T4), some (.dat W4)], []⟩))
    (h5 : ∀ {X : PyData}, VaB ⟨[some (.dat X), some (.dat S), some (.dat X0), some (.dat T4), some (.dat W4)], []⟩ = some (.nx ⟨[some (.dat X), some (.dat S), some (.dat X0), some (.dat T5'), some (.dat W5)], []⟩)) :
    F_value_at [.dat (.list [X0, X1, X2, X3, X4]), .dat S] [] = some (.dat T5', []) := by
  have e0 : b_value_at = fSeq (fAsg (aTup 2 (aCons (aName 3) (aCons (aName 4) aNil))) (fTup (fConsA (fLit (.int 0)) (fConsA (fLit (.int 1)) fNilA)))) (fSeq (fFor (fRev (fVar 0)) (aName 2) VaB) (fRet (fVar 3))) := rfl
  refine fn_ok (np := 2) (nN := 5) (n0 := 0) (c := []) ?_ ⟨rfl, rfl⟩ rfl
  rw [e0]
  have g1 := h1 (X := .list [X0, X1, X2, X3, X4]) (x2 := none)
  have g2 := h2 (X := .list [X0, X1, X2, X3, X4])
  have g3 := h3 (X := .list [X0, X1, X2, X3, X4])
  have g4 := h4 (X := .list [X0, X1, X2, X3, X4])
  have g5 := h5 (X := .list [X0, X1, X2, X3, X4])
  clear h1 h2 h3 h4 h5
  generalize VaB = b at *
  simp! [fRev, List.reverse_cons, List.reverse_nil, aTup, g1, g2, g3, g4, g5]
theorem w_valueL (c0 : Sz m x0) (c1 : Sz m x1) (c2 : Sz m x2) (c3 : Sz m x3) (c4 : Sz m x4) (sp : Sz s p) (sq : Sz s q) (hm : m + 4 * s ≤ 1000) : F_value_at [.dat (L5 x0 x1 x2 x3 x4), .dat (T2 p q)] [] = some (.dat (.int (Fo x0 x1 x2 x3 x4 p q)), []) := by
  obtain ⟨M, hM⟩ : ∃ M, M = m + 4 * s + 10 := ⟨_, rfl⟩
  have up : ∀ {x : Int} {k : Nat}, Sz k x → k ≤ m + 4 * s + 10 → Sz M x := fun h hk => h.by _ (by omega)
  have P := up sp (by omega)
  have Q := up sq (by omega)
  have o := up sz_1 (by omega)
  have z := up sz_0 (by omega)
  have k1 : Sz (m + s + 2) (0 * p + x4 * 1) := by
    rw [Int.zero_mul, Int.zero_add, Int.mul_one]; exact c4.by _ (by omega)
  have w1 : Sz (s + 1) (1 * q) := by rw [Int.one_mul]; exact sq.by _ (by omega)
  have k2 : Sz (m + 2 * s + 4) ((0 * p + x4 * 1) * p + x3 * (1 * q)) := ((k1.mul sp).add (c3.mul w1)).by _ (by omega)
  have w2 : Sz (2 * s + 1) (1 * q * q) := (w1.mul sq).by _ (by omega)
  have k3 : Sz (m + 3 * s + 5) (((0 * p + x4 * 1) * p + x3 * (1 * q)) * p + x2 * (1 * q * q)) := ((k2.mul sp).add (c2.mul w2)).by _ (by omega)
  have w3 : Sz (3 * s + 1) (1 * q * q * q) := (w2.mul sq).by _ (by omega)
  have k4 : Sz (m + 4 * s + 6) ((((0 * p + x4 * 1) * p + x3 * (1 * q)) * p + x2 * (1 * q * q)) * p + x1 * (1 * q * q * q)) := ((k3.mul sp).add (c1.mul w3)).by _ (by omega)
  have w4 : Sz (4 * s + 1) (1 * q * q * q * q) := (w3.mul sq).by _ (by omega)
  have h := core_valueL (S := T2 p q) (X0 := .int x0) (X1 := .int x1) (X2 := .int x2) (X3 := .int x3) (X4 := .int x4) (fun {X _} => va_1 (X := X) z o (up c4 (by omega)) P Q (by omega)) (fun {X} => va_1 (X := X) (up k1 (by omega)) (up w1 (by omega)) (up c3 (by omega)) P Q (by omega)) (fun {X} => va_1 (X := X) (up k2 (by omega)) (up w2 (by omega)) (up c2 (by omega)) P Q (by omega))
    (fun {X} => va_1 (X := X) (up k3 (by omega)) (up w3 (by omega)) (up c1 (by omega)) P Q (by omega)) (fun {X} => va_1 (X := X) (up k4 (by omega)) (up w4 (by omega)) (up c0 (by omega)) P Q (by omega))
  have e : ((((0 * p + x4 * 1) * p + x3 * (1 * q)) * p + x2 * (1 * q * q)) * p + x1 * (1 * q * q * q)) * p + x0 * (1 * q * q * q * q) = Fo x0 x1 x2 x3 x4 p q := by unfold Fo; grind
  rw [e] at h
  exact h
end
section
variable {m k : Nat} {x0 x1 x2 x3 x4 n y0 y1 y2 y3 y4 e : Int} {s0 s1 s2 s3 s4 : Int × Int}
theorem co_same (C : Co m x0 x1 x2 x3 x4 n) (D : Co k y0 y1 y2 y3 y4 e) {r : Nat} (nd : [s0, s1, s2, s3, s4].Nodup) (S0 : Sg r s0.1 s0.2) (S1 : Sg r s1.1 s1.2) (S2 : Sg r s2.1 s2.2) (S3 : Sg r s3.1 s3.2) (S4 : Sg r s4.1 s4.2)
    (h0 : Fo x0 x1 x2 x3 x4 s0.1 s0.2 * e = Fo y0 y1 y2 y3 y4 s0.1 s0.2 * n) (h1 : Fo x0 x1 x2 x3 x4 s1.1 s1.2 * e = Fo y0 y1 y2 y3 y4 s1.1 s1.2 * n) (h2 : Fo x0 x1 x2 x3 x4 s2.1 s2.2 * e = Fo y0 y1 y2 y3 y4 s2.1 s2.2 * n) (h3 : Fo x0 x1 x2 x3 x4 s3.1 s3.2 * e = Fo y0 y1 y2 y3 y4 s3.1 s3.2 * n) (h4 : Fo x0 x1 x2 x3 x4 s4.1 s4.2 * e = Fo y0 y1 y2 y3 y4 s4.1 s4.2 * n) : T6 x0 x1 x2 x3 x4 n = T6 y0 y1 y2 y3 y4 e := by
  have l : ∀ p q : Int, Fo (x0 * e - y0 * n) (x1 * e - y1 * n) (x2 * e - y2 * n) (x3 * e - y3 * n) (x4 * e - y4 * n) p q = Fo x0 x1 x2 x3 x4 p q * e - Fo y0 y1 y2 y3 y4 p q * n := fun p q => by unfold Fo; grind
  have z := fo_zero nd S0 S1 S2 S3 S4 (by rw [l]; omega) (by rw [l]; omega) (by rw [l]; omega) (by rw [l]; omega) (by rw [l]; omega)
  have g0 := z 0 1
  have g4 := z 1 0
  have g1 := z 1 1
  have g2 := z (-1) 1
  have g3 := z 2 1
  rw [fo_01] at g0
  rw [fo_10] at g4
  rw [fo_11] at g1
  rw [fo_m1] at g2
  rw [fo_21] at g3
  have e1 : red [x0, x1, x2, x3, x4, n] = red [y0, y1, y2, y3, y4, e] := red_par D.n0 C.n0 (by
    simp only [List.map_cons, List.map_nil, List.cons.injEq, and_true]
    rw [Int.mul_comm e, Int.mul_comm e, Int.mul_comm e, Int.mul_comm e, Int.mul_comm e, Int.mul_comm n, Int.mul_comm n, Int.mul_comm n, Int.mul_comm n, Int.mul_comm n]
    generalize x0 * e = a0 at *
    generalize x1 * e = a1 at *
    generalize x2 * e = a2 at *
    generalize x3 * e = a3 at *
    generalize x4 * e = a4 at *
    generalize y0 * n = b0 at *
    generalize y1 * n = b1 at *
    generalize y2 * n = b2 at *
    generalize y3 * n = b3 at *
    generalize y4 * n = b4 at *
    refine ⟨by omega, by omega, by omega, by omega, by omega, Int.mul_comm _ _⟩)
  rw [co_red C, co_red D] at e1
  simp only [List.cons.injEq, and_true] at e1
  obtain ⟨a, b, c, d, f, g⟩ := e1
  rw [a, b, c, d, f, g]
end
/-! products of lines -/
theorem cv_lin0 (c : Nat → Int) (u v : Int) : cv c (lin u v) 0 = c 0 * u := by
  unfold cv cvs cvs lin
  simp
theorem cv_lin (c : Nat → Int) (u v : Int) (k : Nat) : cv c (lin u v) (k + 1) = c (k + 1) * u + c k * v := by
  have h : cvs (fun i => c i * lin u v (k + 1 - i)) k = 0 := cvs_zero k fun i hi => by
    obtain ⟨j, hj⟩ : ∃ j, k + 1 - i = j + 2 := ⟨k + 1 - i - 2, by omega⟩
    show c i * lin u v (k + 1 - i) = 0
    rw [hj]
    exact Int.mul_zero _
  show cvs (fun i => c i * lin u v (k + 1 - i)) (k + 2) = _
  unfold cvs
  unfold cvs
  rw [h]
  show 0 + c k * lin u v (k + 1 - k) + c (k + 1) * lin u v (k + 1 - (k + 1)) = _
  rw [show k + 1 - k = 1 by omega, show k + 1 - (k + 1) = 0 by omega]
  show 0 + c k * v + c (k + 1) * u = _
  omega
abbrev Ln4 (u1 v1 u2 v2 u3 v3 u4 v4 : Int) : Nat → Int := cv (cv (cv (cv one0 (lin u1 v1)) (lin u2 v2)) (lin u3 v3)) (lin u4 v4)
theorem l4_fo (u1 v1 u2 v2 u3 v3 u4 v4 p q : Int) : Fo (Ln4 u1 v1 u2 v2 u3 v3 u4 v4 0) (Ln4 u1 v1 u2 v2 u3 v3 u4 v4 1) (Ln4 u1 v1 u2 v2 u3 v3 u4 v4 2) (Ln4 u1 v1 u2 v2 u3 v3 u4 v4 3) (Ln4 u1 v1 u2 v2 u3 v3 u4 v4 4) p q = (u1 * q + v1 * p) * (u2 * q + v2 * p) * (u3 * q + v3 * p) * (u4 * q + v4 * p) := by
  have o0 : one0 0 = 1 := rfl
  have o1 : one0 1 = 0 := rfl
  have o2 : one0 2 = 0 := rfl
  have o3 : one0 3 = 0 := rfl
  have o4 : one0 4 = 0 := rfl
  have l1 : ∀ (c : Nat → Int) (u v : Int), cv c (lin u v) 1 = c 1 * u + c 0 * v := fun c u v => cv_lin c u v 0
  have l2 : ∀ (c : Nat → Int) (u v : Int), cv c (lin u v) 2 = c 2 * u + c 1 * v := fun c u v => cv_lin c u v 1
  have l3 : ∀ (c : Nat → Int) (u v : Int), cv c (lin u v) 3 = c 3 * u + c 2 * v := fun c u v => cv_lin c u v 2
  have l4 : ∀ (c : Nat → Int) (u v : Int), cv c (lin u v) 4 = c 4 * u + c 3 * v := fun c u v => cv_lin c u v 3
  unfold Ln4
  simp only [l1, l2, l3, l4, cv_lin0, o0, o1, o2, o3, o4]
  unfold Fo
  grind
end PL


set_option Elab.async false
set_option linter.all false
set_option maxRecDepth 100000
set_option maxHeartbeats 4000000
set_option exponentiation.threshold 20000
namespace PL
open PySem PySem.Spec L2 DL
local macro_rules | `(tactic| simp! [$as,*]) => `(tactic| simp only [fThaw, fThawT, fThawL, thawD, thawO, noL, noLAll, fAug, gAug, fRev, fFnA, fCallV, fBot, fZip, zipD, gSum, intsOf, List.foldl_cons, List.foldl_nil, mkF, fRet, fRetL, fRetN, fSkip, fSeq, fNever, fSet, fAsg, fNew, fIfS, fDrop, fPar, fPar3, fSetc, fSetc2, fVar, fLit, fOp, fUn, fTup, fTup.datsOf, fLst, fNilA, fConsA, fStarA, fCelA, fOfL, fTru, fAndT, fOrT, fNotT, fAndV, fOrV, fNotV, fIf, fBi, fCall, fCallL, fCallFr, fPerm, callF, celOf, celsOk, norm, aName, aNil, aCons, aTup, setD, fSl, fIt, fItL, fItT, fFor, forGo, fLc, lcGo, fYes, wipeD, fCix, fList, fSlL, fPart, fNoPart, fChain, List.length_cons, List.length_nil, List.getElem?_cons_zero, List.getElem?_cons_succ, List.getElem?_nil, List.set_cons_zero, List.set_cons_succ, List.map_cons, List.map_nil, List.cons_append, List.nil_append, List.append_nil, List.replicate, List.take_zero, List.take_nil, List.take_succ_cons, ↓bsome, ↓msome, Option.bind_some, Option.map_some, Option.bind_none, Option.map_none, Nat.sub_self, Int.cast_ofNat_Int, Nat.reduceAdd, Nat.reduceMul, Nat.reduceSub, Nat.reduceLeDiff, Nat.reduceLT, Nat.zero_add, Nat.add_zero, and_self, and_true, true_and, if_true, if_false, ↓reduceIte, ite_true, Bool.true_eq_false, Bool.false_eq_true, beq_self_eq_true, Bool.and_self, Bool.not_true, Bool.not_false, decide_true, decide_false, gLen, gTyIs, gTyNot, tyOf, gNeg, gPlus, DL.gSub, gCmp, gInt, gAbs, gTuple, gMax, gMin, gGcd, LIM, gIx, $as,*])
/-- a ratio over a negative number -/
theorem e_ratioN {p q : Int} (hq : q < 0) (hp : Sm 4000 p) (hq' : Sm 4000 q) : F_ratio [.dat (.int p), .dat (.int q)] [] = some (.dat (Rt (-p) (-q)), []) := by
  have h1 : (0 : Int) < (Nat.gcd p.natAbs q.natAbs : Nat) := by
    have := Nat.gcd_pos_of_pos_right p.natAbs (Int.natAbs_pos.mpr (show q ≠ 0 by omega)); omega
  have h2 : Sm 4000 ((Nat.gcd p.natAbs q.natAbs : Nat) : Int) := by
    have := Nat.le_of_dvd (Int.natAbs_pos.mpr (show q ≠ 0 by omega)) (Nat.gcd_dvd_right p.natAbs q.natAbs)
    exact Nat.lt_of_le_of_lt (by rw [Int.natAbs_natCast]; exact this) hq'
  have e : rg (-p) (-q) = (Nat.gcd p.natAbs q.natAbs : Nat) := by
    unfold rg
    rw [if_pos (by omega), Int.natAbs_neg, Int.natAbs_neg]
  have hq2 : (decide (0 < q)) = false := decide_eq_false (by omega)
  have d1 := gDiv_neg (i := p) h1 h2
  have d2 := gDiv_neg (i := q) h1 h2
  unfold Rt
  rw [e]
  simp! [F_ratio, b_ratio, hq2, d1, d2]
/-- the whole row, in course_through -/
abbrev WhT : FS := (fSet 6 (fOfL (fLst (fStarA (fVar 5) (fStarA (fRep (fLst (fConsA (fLit (.int 0)) fNilA)) (fOp gSub (fLit (.int 5)) (fBi gLen (fConsA (fVar 5) fNilA)))) fNilA)))))
theorem rep0T (k : Nat) (h : k ≤ 5) (st : Sta) {fb : FE} {c : Cs} (e2 : fb st = some (.int (k : Nat), c)) : (fRep (fLst (fConsA (fLit (.int 0)) fNilA)) fb) st = some (.list (nts (List.replicate k 0)), c) := by
  have e1 : (fLst (fConsA (fLit (.int 0)) fNilA)) st = some ([.int 0], st.cs) := by
    simp! []
  have r := repE_ok e1 (k := (k : Nat)) (c := c) e2 ⟨rng_ok (by omega) (by omega), len1_ok (by omega)⟩
  rw [Int.toNat_natCast, nts_rep] at r
  exact r
theorem wholeT {m : Nat} {c : Nat → Int} {W : PyData} {cs : Cs} (h : Pol 4 m c W) {x0 x1 x2 x3 x4 x6 x7 x8 x9 : Option SV} : WhT ⟨[x0, x1, x2, x3, x4, some (.dat W), x6, x7, x8, x9], cs⟩ = some (.nx ⟨[x0, x1, x2, x3, x4, some (.dat W), some (.dat (L5 (c 0) (c 1) (c 2) (c 3) (c 4))), x7, x8, x9], cs⟩) := by
  obtain ⟨v, rfl, hl, hc, _⟩ := h
  have es : (fOp gSub (fLit (.int 5)) (fBi gLen (fConsA (fVar 5) fNilA))) ⟨[x0, x1, x2, x3, x4, some (.dat (.tuple (nts v))), x6, x7, x8, x9], cs⟩ = some (.int ((5 - v.length : Nat) : Int), cs) := by
    have l1 := nts_len v
    have hs : (5 : Int) - ((v.length : Nat) : Int) = ((5 - v.length : Nat) : Int) := by omega
    simp! [l1, hs]
  have er := rep0T (5 - v.length) (by omega) ⟨[x0, x1, x2, x3, x4, some (.dat (.tuple (nts v))), x6, x7, x8, x9], cs⟩ es
  generalize hfr : (fRep (fLst (fConsA (fLit (.int 0)) fNilA)) (fOp gSub (fLit (.int 5)) (fBi gLen (fConsA (fVar 5) fNilA)))) = fr at er
  have hall : nts v ++ nts (List.replicate (5 - v.length) 0) = [.int (c 0), .int (c 1), .int (c 2), .int (c 3), .int (c 4)] := by
    rw [← hc 0, ← hc 1, ← hc 2, ← hc 3, ← hc 4]
    match v, hl with
    | [], _ => rfl
    | [_], _ => rfl
    | [_, _], _ => rfl
    | [_, _, _], _ => rfl
    | [_, _, _, _], _ => rfl
    | [_, _, _, _, _], _ => rfl
  have ea : (fStarA (fVar 5) (fStarA fr fNilA)) ⟨[x0, x1, x2, x3, x4, some (.dat (.tuple (nts v))), x6, x7, x8, x9], cs⟩ = some ([.dat (.int (c 0)), .dat (.int (c 1)), .dat (.int (c 2)), .dat (.int (c 3)), .dat (.int (c 4))], cs) := by
    have hm : (nts v).map SV.dat ++ (nts (List.replicate (5 - v.length) 0)).map SV.dat = [.dat (.int (c 0)), .dat (.int (c 1)), .dat (.int (c 2)), .dat (.int (c 3)), .dat (.int (c 4))] := by
      rw [← List.map_append, hall]; rfl
    simp! [er, hm]
  have e0 : WhT = (fSet 6 (fOfL (fLst (fStarA (fVar 5) (fStarA (fRep (fLst (fConsA (fLit (.int 0)) fNilA)) (fOp gSub (fLit (.int 5)) (fBi gLen (fConsA (fVar 5) fNilA)))) fNilA))))) := rfl
  rw [e0, hfr]
  generalize (fStarA (fVar 5) (fStarA fr fNilA)) = fs at ea ⊢
  simp! [ea]
/-- rows of four lines, by polynomial_product -/
theorem row4 {m : Nat} {a1 b1 a2 b2 a3 b3 a4 b4 : Int} (h : m ≤ 100) (h1 : Sz m a1) (k1 : Sz m b1) (h2 : Sz m a2) (k2 : Sz m b2) (h3 : Sz m a3) (k3 : Sz m b3) (h4 : Sz m a4) (k4 : Sz m b4) : ∃ W1 W2 W3 W4 : PyData, F_polynomial_product [.dat (.tuple [.int 1]), .dat (T2 a1 b1)] [] = some (.dat W1, []) ∧ F_polynomial_product [.dat W1, .dat (T2 a2 b2)] [] = some (.dat W2, []) ∧ F_polynomial_product [.dat W2, .dat (T2 a3 b3)] [] = some (.dat W3, []) ∧ F_polynomial_product [.dat W3, .dat (T2 a4 b4)] [] = some (.dat W4, []) ∧ Pol 4 (4 * m + 20) (Ln4 a1 b1 a2 b2 a3 b3 a4 b4) W4 := by
  obtain ⟨W1, e1, P1⟩ := w_pol pol_one (pol_lin h1 k1) (by decide) (by decide) (by omega)
  obtain ⟨W2, e2, P2⟩ := w_pol P1 (pol_lin h2 k2) (by decide) (by omega) (by omega)
  obtain ⟨W3, e3, P3⟩ := w_pol P2 (pol_lin h3 k3) (by decide) (by omega) (by omega)
  obtain ⟨W4, e4, P4⟩ := w_pol P3 (pol_lin h4 k4) (by decide) (by omega) (by omega)
  obtain ⟨v, hv, hl, hc, hs⟩ := P4
  exact ⟨W1, W2, W3, W4, e1, e2, e3, e4, v, hv, hl, hc, fun k => (hs k).by _ (by omega)⟩
end PL


set_option Elab.async false
set_option linter.all false
set_option maxRecDepth 100000
set_option maxHeartbeats 4000000
set_option exponentiation.threshold 20000
namespace PL
open PySem PySem.Spec L2 DL
local macro_rules | `(tactic| simp! [$as,*]) => `(tactic| simp only [fThaw, fThawT, fThawL, thawD, thawO, noL, noLAll, fAug, gAug, fRev, fFnA, fCallV, fBot, fZip, zipD, gSum, intsOf, List.foldl_cons, List.foldl_nil, mkF, fRet, fRetL, fRetN, fSkip, fSeq, fNever, fSet, fAsg, fNew, fIfS, fDrop, fPar, fPar3, fSetc, fSetc2, fVar, fLit, fOp, fUn, fTup, fTup.datsOf, fLst, fNilA, fConsA, fStarA, fCelA, fOfL, fTru, fAndT, fOrT, fNotT, fAndV, fOrV, fNotV, fIf, fBi, fCall, fCallL, fCallFr, fPerm, callF, celOf, celsOk, norm, aName, aNil, aCons, aTup, setD, fSl, fIt, fItL, fItT, fFor, forGo, fLc, lcGo, fYes, wipeD, fCix, fList, fSlL, fPart, fNoPart, fChain, List.length_cons, List.length_nil, List.getElem?_cons_zero, List.getElem?_cons_succ, List.getElem?_nil, List.set_cons_zero, List.set_cons_succ, List.map_cons, List.map_nil, List.cons_append, List.nil_append, List.append_nil, List.replicate, List.take_zero, List.take_nil, List.take_succ_cons, ↓bsome, ↓msome, Option.bind_some, Option.map_some, Option.bind_none, Option.map_none, Nat.sub_self, Int.cast_ofNat_Int, Nat.reduceAdd, Nat.reduceMul, Nat.reduceSub, Nat.reduceLeDiff, Nat.reduceLT, Nat.zero_add, Nat.add_zero, and_self, and_true, true_and, if_true, if_false, ↓reduceIte, ite_true, Bool.true_eq_false, Bool.false_eq_true, beq_self_eq_true, Bool.and_self, Bool.not_true, Bool.not_false, decide_true, decide_false, gLen, gTyIs, gTyNot, tyOf, gNeg, gPlus, DL.gSub, gCmp, gInt, gAbs, gTuple, gMax, gMin, gGcd, LIM, gIx, $as,*])
def PoL (m : Nat) (c : Nat → Int) (x : PyData) : Prop := ∃ v : List Int, x = .list (nts v) ∧ v.length ≤ 5 ∧ (∀ k, v.getD k 0 = c k) ∧ ∀ k, Sz m (c k)
theorem whole_okL {m : Nat} {c : Nat → Int} {W : PyData} (h : PoL m c W) {x0 x1 x2 x3 x4 x6 : Option SV} : WhE ⟨[x0, x1, x2, x3, x4, some (.dat W), x6], []⟩ = some (.nx ⟨[x0, x1, x2, x3, x4, some (.dat W), some (.dat (L5 (c 0) (c 1) (c 2) (c 3) (c 4)))], []⟩) := by
  obtain ⟨v, rfl, hl, hc, _⟩ := h
  have es : (fOp gSub (fLit (.int 5)) (fBi gLen (fConsA (fVar 5) fNilA))) ⟨[x0, x1, x2, x3, x4, some (.dat (.list (nts v))), x6], []⟩ = some (.int ((5 - v.length : Nat) : Int), []) := by
    have l1 := nts_len v
    have hs : (5 : Int) - ((v.length : Nat) : Int) = ((5 - v.length : Nat) : Int) := by omega
    simp! [l1, hs]
  have er := rep0 (5 - v.length) (by omega) [x0, x1, x2, x3, x4, some (.dat (.list (nts v))), x6] es
  generalize hfr : (fRep (fLst (fConsA (fLit (.int 0)) fNilA)) (fOp gSub (fLit (.int 5)) (fBi gLen (fConsA (fVar 5) fNilA)))) = fr at er
  have hall : nts v ++ nts (List.replicate (5 - v.length) 0) = [.int (c 0), .int (c 1), .int (c 2), .int (c 3), .int (c 4)] := by
    rw [← hc 0, ← hc 1, ← hc 2, ← hc 3, ← hc 4]
    match v, hl with
    | [], _ => rfl
    | [_], _ => rfl
    | [_, _], _ => rfl
    | [_, _, _], _ => rfl
    | [_, _, _, _], _ => rfl
    | [_, _, _, _, _], _ => rfl
  have ea : (fStarA (fVar 5) (fStarA fr fNilA)) ⟨[x0, x1, x2, x3, x4, some (.dat (.list (nts v))), x6], []⟩ = some ([.dat (.int (c 0)), .dat (.int (c 1)), .dat (.int (c 2)), .dat (.int (c 3)), .dat (.int (c 4))], []) := by
    have hm : (nts v).map SV.dat ++ (nts (List.replicate (5 - v.length) 0)).map SV.dat = [.dat (.int (c 0)), .dat (.int (c 1)), .dat (.int (c 2)), .dat (.int (c 3)), .dat (.int (c 4))] := by
      rw [← List.map_append, hall]; rfl
    simp! [er, hm]
  have e0 : WhE = (fSet 6 (fOfL (fLst (fStarA (fVar 5) (fStarA (fRep (fLst (fConsA (fLit (.int 0)) fNilA)) (fOp gSub (fLit (.int 5)) (fBi gLen (fConsA (fVar 5) fNilA)))) fNilA))))) := rfl
  rw [e0, hfr]
  generalize (fStarA (fVar 5) (fStarA fr fNilA)) = fs at ea ⊢
  simp! [ea]
theorem wb_1L {m : Nat} {c t : Nat → Int} {X Y W : PyData} {B p q : Int} {x6 : Option SV} (h : PoL m c W) (hm : m ≤ 3000) (ht : ∀ k, Sm 4000 (t k)) (q0 : 0 < q) (sq : Sm 4000 q) (sB : Sm 4000 (B / q)) (sp : Sm 4000 p) (ss : Sm 4000 (p * (B / q))) :
    WbB ⟨[some (.dat X), some (.dat Y), some (.dat (.int B)), some (.dat (T2 p q)), some (.dat (T5f t)), some (.dat W), x6], []⟩ = some (.nx ⟨[some (.dat X), some (.dat Y), some (.dat (.int B)), some (.dat (T2 p q)), some (.dat (T5f fun k => t k + p * (B / q) * c k)), some (.dat W), some (.dat (L5 (c 0) (c 1) (c 2) (c 3) (c 4)))], []⟩) := by
  have w := whole_okL h (x0 := some (.dat X)) (x1 := some (.dat Y)) (x2 := some (.dat (.int B))) (x3 := some (.dat (T2 p q))) (x4 := some (.dat (T5f t))) (x6 := x6)
  obtain ⟨_, _, _, _, hs⟩ := h
  have d := gDiv_ok (i := B) q0 sq
  have m1 := gMul_ok sp sB
  have cb := w_comb (ht 0) (ht 1) (ht 2) (ht 3) (ht 4) ss ((hs 0).sm (by omega)) ((hs 1).sm (by omega)) ((hs 2).sm (by omega)) ((hs 3).sm (by omega)) ((hs 4).sm (by omega))
  refine (seq_nx w).trans ?_
  show (fSet 4 (fCall F_combined (fConsA (fLit (.int 1)) (fConsA (fVar 4) (fConsA (fOp gMul (fOp gIx (fVar 3) (fLit (.int 0))) (fOp gDiv (fVar 2) (fOp gIx (fVar 3) (fLit (.int 1))))) (fConsA (fVar 6) fNilA)))))) ⟨[some (.dat X), some (.dat Y), some (.dat (.int B)), some (.dat (T2 p q)), some (.dat (T5 (t 0) (t 1) (t 2) (t 3) (t 4))), some (.dat W), some (.dat (L5 (c 0) (c 1) (c 2) (c 3) (c 4)))], []⟩ = some (.nx ⟨[some (.dat X), some (.dat Y), some (.dat (.int B)), some (.dat (T2 p q)), some (.dat (T5 (t 0 + p * (B / q) * c 0) (t 1 + p * (B / q) * c 1) (t 2 + p * (B / q) * c 2) (t 3 + p * (B / q) * c 3) (t 4 + p * (B / q) * c 4))), some (.dat W), some (.dat (L5 (c 0) (c 1) (c 2) (c 3) (c 4)))], []⟩)
  clear w hs ht
  simp! [gIx, ix2_0, ix2_1, d, m1, cb]
structure Wt5 (m Mp : Nat) (N : Int) (l : (Nat → Int) × PyData × Int × Int) : Prop where
  pol : PoL m l.1 l.2.1
  q0 : 0 < l.2.2.2
  qN : l.2.2.2 ∣ N
  sp : Sz Mp l.2.2.1
theorem wb_forL {m Mp M : Nat} {N B : Int} {X Y : PyData} (sN : Sz M N) (hN : 0 < N) (b0 : 0 < B) (bN : B ∣ N) (hm : m + Mp + M ≤ 3000) : ∀ (ls : List ((Nat → Int) × PyData × Int × Int)) (t : Nat → Int) (P : Nat) (x3 x5 x6 : Option SV), (∀ l ∈ ls, Wt5 m Mp N l) → (∀ k, Sz P (t k)) → m + Mp + M ≤ P → P + ls.length ≤ 3900 →
    ∃ y3 y5 y6, forGo (aTup 2 (aCons (aName 5) (aCons (aName 3) aNil))) WbB (ls.map fun l => .tuple [l.2.1, T2 l.2.2.1 l.2.2.2]) ⟨[some (.dat X), some (.dat Y), some (.dat (.int B)), x3, some (.dat (T5f t)), x5, x6], []⟩ = some (.nx ⟨[some (.dat X), some (.dat Y), some (.dat (.int B)), y3, some (.dat (T5f (accL B ls t))), y5, y6], []⟩) ∧ ∀ k, Sz (P + ls.length) (accL B ls t k)
  | [], t, P, x3, x5, x6, _, ht, _, _ => ⟨x3, x5, x6, rfl, fun k => by simpa [accL] using ht k⟩
  | l :: ls, t, P, x3, x5, x6, hl, ht, hQ, hP => by
    rw [List.length_cons] at hP
    have L := hl l List.mem_cons_self
    have sB := sz_dvd sN hN bN b0
    have sq := sz_dvd sN hN L.qN L.q0
    have sBq : Sz M (B / l.2.2.2) := sB.div
    have ss : Sz (Mp + M) (l.2.2.1 * (B / l.2.2.2)) := (L.sp.mul sBq).by _ (by omega)
    have e := wb_1L (X := X) (Y := Y) (B := B) (t := t) (x6 := x6) L.pol (by omega) (fun k => (ht k).sm (by omega)) L.q0 (sq.sm (by omega)) (sBq.sm (by omega)) (L.sp.sm (by omega)) (ss.sm (by omega))
    have ht' : ∀ k, Sz (P + 1) (t k + l.2.2.1 * (B / l.2.2.2) * l.1 k) := fun k => by
      obtain ⟨_, _, _, _, hs⟩ := L.pol
      exact ((ht k).add ((ss.mul (hs k)).by P (by omega))).by _ (by omega)
    obtain ⟨y3, y5, y6, ih, hz⟩ := wb_forL (X := X) (Y := Y) sN hN b0 bN hm ls (fun k => t k + l.2.2.1 * (B / l.2.2.2) * l.1 k) (P + 1) (some (.dat (T2 l.2.2.1 l.2.2.2))) (some (.dat l.2.1)) (some (.dat (L5 (l.1 0) (l.1 1) (l.1 2) (l.1 3) (l.1 4)))) (fun v hv => hl v (List.mem_cons_of_mem _ hv)) ht' (by omega) (by omega)
    refine ⟨y3, y5, y6, ?_, fun k => ?_⟩
    · generalize WbB = b at e ih ⊢
      simp only [List.map_cons, forGo, aTup, aCons, aName, aNil, setD, List.length_cons, List.length_nil, List.set_cons_succ, List.set_cons_zero, Option.bind_some, Nat.reduceAdd, and_self, if_true, ↓reduceIte, e]
      exact ih
    · have := hz k
      rw [List.length_cons]
      exact this.by _ (by omega)
theorem w_weighedL {m Mp M : Nat} {N : Int} {l0 l1 l2 l3 l4 : (Nat → Int) × PyData × Int × Int} (sN : Sz M N) (hN : 0 < N) (hM : 1 ≤ M) (hM3 : M ≤ 3000) (hm : m + Mp + M ≤ 3000) (h0 : Wt5 m Mp N l0) (h1 : Wt5 m Mp N l1) (h2 : Wt5 m Mp N l2) (h3 : Wt5 m Mp N l3) (h4 : Wt5 m Mp N l4) :
    ∃ (B : Int) (u : Nat → Int), F__weighed_course [.dat (.list [l0.2.1, l1.2.1, l2.2.1, l3.2.1, l4.2.1]), .dat (.list [T2 l0.2.2.1 l0.2.2.2, T2 l1.2.2.1 l1.2.2.2, T2 l2.2.2.1 l2.2.2.2, T2 l3.2.2.1 l3.2.2.2, T2 l4.2.2.1 l4.2.2.2])] [] = some (.dat (.tuple ((red [u 0, u 1, u 2, u 3, u 4, B]).map .int)), []) ∧ 0 < B ∧ B ∣ N ∧
      (∀ l ∈ [l0, l1, l2, l3, l4], l.2.2.2 ∣ B) ∧ u = accL B [l0, l1, l2, l3, l4] (fun _ => 0) ∧ ∀ k, Sz (m + Mp + M + 5) (u k) := by
  have hall : ∀ l ∈ [l0, l1, l2, l3, l4], Wt5 m Mp N l := fun l hl => by
    simp only [List.mem_cons, List.not_mem_nil, or_false] at hl
    rcases hl with rfl | rfl | rfl | rfl | rfl <;> assumption
  obtain ⟨B, y3, e1, b0, bN, _, hd⟩ := lc_for (X := (.list [l0.2.1, l1.2.1, l2.2.1, l3.2.1, l4.2.1])) (Y := (.list [T2 l0.2.2.1 l0.2.2.2, T2 l1.2.2.1 l1.2.2.2, T2 l2.2.2.1 l2.2.2.2, T2 l3.2.2.1 l3.2.2.2, T2 l4.2.2.1 l4.2.2.2])) sN hN hM3 hM [(l0.2.2.1, l0.2.2.2), (l1.2.2.1, l1.2.2.2), (l2.2.2.1, l2.2.2.2), (l3.2.2.1, l3.2.2.2), (l4.2.2.1, l4.2.2.2)] 1 none (by decide) (Int.one_dvd _) (fun w hw => by
    simp only [List.mem_cons, List.not_mem_nil, or_false] at hw
    rcases hw with rfl | rfl | rfl | rfl | rfl
    · exact ⟨h0.q0, h0.qN⟩
    · exact ⟨h1.q0, h1.qN⟩
    · exact ⟨h2.q0, h2.qN⟩
    · exact ⟨h3.q0, h3.qN⟩
    · exact ⟨h4.q0, h4.qN⟩)
  obtain ⟨z3, z5, z6, e2, hz⟩ := wb_forL (X := (.list [l0.2.1, l1.2.1, l2.2.1, l3.2.1, l4.2.1])) (Y := (.list [T2 l0.2.2.1 l0.2.2.2, T2 l1.2.2.1 l1.2.2.2, T2 l2.2.2.1 l2.2.2.2, T2 l3.2.2.1 l3.2.2.2, T2 l4.2.2.1 l4.2.2.2])) sN hN b0 bN hm [l0, l1, l2, l3, l4] (fun _ => 0) (m + Mp + M) y3 none none hall (fun k => sz_0.by _ (Nat.zero_le _)) (Nat.le_refl _) (by simp only [List.length_cons, List.length_nil]; omega)
  refine ⟨B, _, ?_, b0, bN, fun l hl => ?_, rfl, fun k => (hz k)⟩
  · generalize accL B [l0, l1, l2, l3, l4] (fun _ => 0) = u at *
    simp only [List.length_cons, List.length_nil] at hz
    have hr := e_reduced (v := [u 0, u 1, u 2, u 3, u 4, B]) (r := T6 (u 0) (u 1) (u 2) (u 3) (u 4) B) .t (fun x hx => by
      have hk : ∀ k, Sm 4000 (u k) := fun k => (hz k).sm (by omega)
      simp only [List.mem_cons, List.not_mem_nil, or_false] at hx
      rcases hx with rfl | rfl | rfl | rfl | rfl | rfl
      · exact hk 0
      · exact hk 1
      · exact hk 2
      · exact hk 3
      · exact hk 4
      · exact (sz_dvd sN hN bN b0).sm (by omega)) (by simp)
    generalize ((red [u 0, u 1, u 2, u 3, u 4, B]).map PyData.int) = out at *
    clear h0 h1 h2 h3 h4 hall hz
    have a0 : (fSet 2 (fLit (.int 1))) ⟨[some (.dat (.list [l0.2.1, l1.2.1, l2.2.1, l3.2.1, l4.2.1])), some (.dat (.list [T2 l0.2.2.1 l0.2.2.2, T2 l1.2.2.1 l1.2.2.2, T2 l2.2.2.1 l2.2.2.2, T2 l3.2.2.1 l3.2.2.2, T2 l4.2.2.1 l4.2.2.2])), none, none, none, none, none], []⟩ = some (.nx ⟨[some (.dat (.list [l0.2.1, l1.2.1, l2.2.1, l3.2.1, l4.2.1])), some (.dat (.list [T2 l0.2.2.1 l0.2.2.2, T2 l1.2.2.1 l1.2.2.2, T2 l2.2.2.1 l2.2.2.2, T2 l3.2.2.1 l3.2.2.2, T2 l4.2.2.1 l4.2.2.2])), some (.dat (.int 1)), none, none, none, none], []⟩) := by
      simp! []
    have a1 : (fFor (fIt (fVar 1)) (aName 3) LcB) ⟨[some (.dat (.list [l0.2.1, l1.2.1, l2.2.1, l3.2.1, l4.2.1])), some (.dat (.list [T2 l0.2.2.1 l0.2.2.2, T2 l1.2.2.1 l1.2.2.2, T2 l2.2.2.1 l2.2.2.2, T2 l3.2.2.1 l3.2.2.2, T2 l4.2.2.1 l4.2.2.2])), some (.dat (.int 1)), none, none, none, none], []⟩ = some (.nx ⟨[some (.dat (.list [l0.2.1, l1.2.1, l2.2.1, l3.2.1, l4.2.1])), some (.dat (.list [T2 l0.2.2.1 l0.2.2.2, T2 l1.2.2.1 l1.2.2.2, T2 l2.2.2.1 l2.2.2.2, T2 l3.2.2.1 l3.2.2.2, T2 l4.2.2.1 l4.2.2.2])), some (.dat (.int B)), y3, none, none, none], []⟩) := e1
    have a2 : (fSet 4 (fTup (fConsA (fLit (.int 0)) (fConsA (fLit (.int 0)) (fConsA (fLit (.int 0)) (fConsA (fLit (.int 0)) (fConsA (fLit (.int 0)) fNilA))))))) ⟨[some (.dat (.list [l0.2.1, l1.2.1, l2.2.1, l3.2.1, l4.2.1])), some (.dat (.list [T2 l0.2.2.1 l0.2.2.2, T2 l1.2.2.1 l1.2.2.2, T2 l2.2.2.1 l2.2.2.2, T2 l3.2.2.1 l3.2.2.2, T2 l4.2.2.1 l4.2.2.2])), some (.dat (.int B)), y3, none, none, none], []⟩ = some (.nx ⟨[some (.dat (.list [l0.2.1, l1.2.1, l2.2.1, l3.2.1, l4.2.1])), some (.dat (.list [T2 l0.2.2.1 l0.2.2.2, T2 l1.2.2.1 l1.2.2.2, T2 l2.2.2.1 l2.2.2.2, T2 l3.2.2.1 l3.2.2.2, T2 l4.2.2.1 l4.2.2.2])), some (.dat (.int B)), y3, some (.dat (T5f fun _ => 0)), none, none], []⟩) := by
      simp! []
    have a3 : (fFor (fZip (fConsA (fVar 0) (fConsA (fVar 1) fNilA))) (aTup 2 (aCons (aName 5) (aCons (aName 3) aNil))) WbB) ⟨[some (.dat (.list [l0.2.1, l1.2.1, l2.2.1, l3.2.1, l4.2.1])), some (.dat (.list [T2 l0.2.2.1 l0.2.2.2, T2 l1.2.2.1 l1.2.2.2, T2 l2.2.2.1 l2.2.2.2, T2 l3.2.2.1 l3.2.2.2, T2 l4.2.2.1 l4.2.2.2])), some (.dat (.int B)), y3, some (.dat (T5f fun _ => 0)), none, none], []⟩ = some (.nx ⟨[some (.dat (.list [l0.2.1, l1.2.1, l2.2.1, l3.2.1, l4.2.1])), some (.dat (.list [T2 l0.2.2.1 l0.2.2.2, T2 l1.2.2.1 l1.2.2.2, T2 l2.2.2.1 l2.2.2.2, T2 l3.2.2.1 l3.2.2.2, T2 l4.2.2.1 l4.2.2.2])), some (.dat (.int B)), z3, some (.dat (T5 (u 0) (u 1) (u 2) (u 3) (u 4))), z5, z6], []⟩) := e2
    have e0 : b__weighed_course = fSeq (fSet 2 (fLit (.int 1))) (fSeq (fFor (fIt (fVar 1)) (aName 3) LcB) (fSeq (fSet 4 (fTup (fConsA (fLit (.int 0)) (fConsA (fLit (.int 0)) (fConsA (fLit (.int 0)) (fConsA (fLit (.int 0)) (fConsA (fLit (.int 0)) fNilA))))))) (fSeq (fFor (fZip (fConsA (fVar 0) (fConsA (fVar 1) fNilA))) (aTup 2 (aCons (aName 5) (aCons (aName 3) aNil))) WbB) (fRet (fCall F_reduced (fConsA (fTup (fStarA (fVar 4) (fConsA (fVar 2) fNilA))) fNilA)))))) := rfl
    refine fn_ok (np := 2) (nN := 7) (n0 := 0) (c := []) ?_ ⟨rfl, rfl⟩ rfl
    rw [e0]
    refine (seq_nx a0).trans ((seq_nx a1).trans ((seq_nx a2).trans ((seq_nx a3).trans ?_)))
    clear a0 a1 a2 a3 e1 e2
    simp! [fStarA, hr]
  · simp only [List.mem_cons, List.not_mem_nil, or_false] at hl
    rcases hl with rfl | rfl | rfl | rfl | rfl
    · exact hd (l.2.2.1, l.2.2.2) (by simp)
    · exact hd (l.2.2.1, l.2.2.2) (by simp)
    · exact hd (l.2.2.1, l.2.2.2) (by simp)
    · exact hd (l.2.2.1, l.2.2.2) (by simp)
    · exact hd (l.2.2.1, l.2.2.2) (by simp)
end PL


set_option Elab.async false
set_option linter.all false
set_option maxRecDepth 100000
set_option maxHeartbeats 4000000
set_option exponentiation.threshold 20000
namespace PL
open PySem PySem.Spec L2 DL
local macro_rules | `(tactic| simp! [$as,*]) => `(tactic| simp only [fThaw, fThawT, fThawL, thawD, thawO, noL, noLAll, fAug, gAug, fRev, fFnA, fCallV, fBot, fZip, zipD, gSum, intsOf, List.foldl_cons, List.foldl_nil, mkF, fRet, fRetL, fRetN, fSkip, fSeq, fNever, fSet, fAsg, fNew, fIfS, fDrop, fPar, fPar3, fSetc, fSetc2, fVar, fLit, fOp, fUn, fTup, fTup.datsOf, fLst, fNilA, fConsA, fStarA, fCelA, fOfL, fTru, fAndT, fOrT, fNotT, fAndV, fOrV, fNotV, fIf, fBi, fCall, fCallL, fCallFr, fPerm, callF, celOf, celsOk, norm, aName, aNil, aCons, aTup, setD, fSl, fIt, fItL, fItT, fFor, forGo, fLc, lcGo, fYes, wipeD, fCix, fList, fSlL, fPart, fNoPart, fChain, List.length_cons, List.length_nil, List.getElem?_cons_zero, List.getElem?_cons_succ, List.getElem?_nil, List.set_cons_zero, List.set_cons_succ, List.map_cons, List.map_nil, List.cons_append, List.nil_append, List.append_nil, List.replicate, List.take_zero, List.take_nil, List.take_succ_cons, ↓bsome, ↓msome, Option.bind_some, Option.map_some, Option.bind_none, Option.map_none, Nat.sub_self, Int.cast_ofNat_Int, Nat.reduceAdd, Nat.reduceMul, Nat.reduceSub, Nat.reduceLeDiff, Nat.reduceLT, Nat.zero_add, Nat.add_zero, and_self, and_true, true_and, if_true, if_false, ↓reduceIte, ite_true, Bool.true_eq_false, Bool.false_eq_true, beq_self_eq_true, Bool.and_self, Bool.not_true, Bool.not_false, decide_true, decide_false, gLen, gTyIs, gTyNot, tyOf, gNeg, gPlus, DL.gSub, gCmp, gInt, gAbs, gTuple, gMax, gMin, gGcd, LIM, gIx, $as,*])
abbrev ThI : FS := (fIfS (fTru (fOp gNe (fVar 8) (fVar 3))) (fSet 5 (fCall F_polynomial_product (fConsA (fVar 5) (fConsA (fTup (fConsA (fUn gNeg (fOp gIx (fVar 8) (fLit (.int 0)))) (fConsA (fOp gIx (fVar 8) (fLit (.int 1))) fNilA))) fNilA)))) fSkip)
abbrev ThF : FS := (fFor (fIt (fVar 0)) (aTup 2 (aCons (aName 8) (aCons (aName 9) aNil))) ThI)
abbrev BdB : FS := (fSeq (fSet 5 (fTup (fConsA (fLit (.int 1)) fNilA))) (fSeq ThF (fSeq WhT (fSeq (fSet 7 (fCall F__length_of (fConsA (fVar 3) fNilA))) (fSeq (fApp 1 (fVar 6)) (fApp 2 (fCall F_ratio (fConsA (fOp gMul (fOp gMul (fOp gIx (fVar 4) (fLit (.int 0))) (fVar 7)) (fVar 7)) (fConsA (fOp gMul (fOp gIx (fVar 4) (fLit (.int 1))) (fCall F_value_at (fConsA (fVar 6) (fConsA (fVar 3) fNilA)))) fNilA)))))))))
section
variable {Z S L O W W' : PyData} {a b : Int} {x6 x7 : Option SV} {cs : Cs}
theorem in_ne (hn : gNe (T2 a b) S = some (.bool true)) (hp : F_polynomial_product [.dat W, .dat (T2 (-a) b)] [] = some (.dat W', [])) : ThI ⟨[some (.dat Z), some (.cel 0), some (.cel 1), some (.dat S), some (.dat L), some (.dat W), x6, x7, some (.dat (T2 a b)), some (.dat O)], cs⟩ = some (.nx ⟨[some (.dat Z), some (.cel 0), some (.cel 1), some (.dat S), some (.dat L), some (.dat W'), x6, x7, some (.dat (T2 a b)), some (.dat O)], cs⟩) := by
  simp! [gIx, ix2_0, ix2_1, hn, hp]
theorem in_eq (hn : gNe (T2 a b) S = some (.bool false)) : ThI ⟨[some (.dat Z), some (.cel 0), some (.cel 1), some (.dat S), some (.dat L), some (.dat W), x6, x7, some (.dat (T2 a b)), some (.dat O)], cs⟩ = some (.nx ⟨[some (.dat Z), some (.cel 0), some (.cel 1), some (.dat S), some (.dat L), some (.dat W), x6, x7, some (.dat (T2 a b)), some (.dat O)], cs⟩) := by
  simp! [hn]
end
theorem inf0 {a0 b0 a1 b1 a2 b2 a3 b3 a4 b4 : Int} {O0 O1 O2 O3 O4 W0 W1 W2 W3 W4 : PyData} {x6 x7 x8 x9 : Option SV} {cs : Cs} (n0 : gNe (T2 a0 b0) (T2 a0 b0) = some (.bool false)) (n1 : gNe (T2 a1 b1) (T2 a0 b0) = some (.bool true)) (p1 : F_polynomial_product [.dat W0, .dat (T2 (-a1) b1)] [] = some (.dat W1, [])) (n2 : gNe (T2 a2 b2) (T2 a0 b0) = some (.bool true)) (p2 : F_polynomial_product [.dat W1, .dat (T2 (-a2) b2)] [] = some (.dat W2, [])) (n3 : gNe (T2 a3 b3) (T2 a0 b0) = some (.bool true)) (p3 : F_polynomial_product [.dat W2, .dat (T2 (-a3) b3)] [] = some (.dat W3, [])) (n4 : gNe (T2 a4 b4) (T2 a0 b0) = some (.bool true)) (p4 : F_polynomial_product [.dat W3, .dat (T2 (-a4) b4)] [] = some (.dat W4, [])) :
    ThF ⟨[some (.dat (.tuple [.tuple [T2 a0 b0, O0], .tuple [T2 a1 b1, O1], .tuple [T2 a2 b2, O2], .tuple [T2 a3 b3, O3], .tuple [T2 a4 b4, O4]])), some (.cel 0), some (.cel 1), some (.dat (T2 a0 b0)), some (.dat O0), some (.dat W0), x6, x7, x8, x9], cs⟩ = some (.nx ⟨[some (.dat (.tuple [.tuple [T2 a0 b0, O0], .tuple [T2 a1 b1, O1], .tuple [T2 a2 b2, O2], .tuple [T2 a3 b3, O3], .tuple [T2 a4 b4, O4]])), some (.cel 0), some (.cel 1), some (.dat (T2 a0 b0)), some (.dat O0), some (.dat W4), x6, x7, some (.dat (T2 a4 b4)), some (.dat O4)], cs⟩) := by
  have q0 := in_eq (W := W0) (Z := (.tuple [.tuple [T2 a0 b0, O0], .tuple [T2 a1 b1, O1], .tuple [T2 a2 b2, O2], .tuple [T2 a3 b3, O3], .tuple [T2 a4 b4, O4]])) (S := T2 a0 b0) (L := O0) (O := O0) (x6 := x6) (x7 := x7) (cs := cs) n0
  have q1 := in_ne (Z := (.tuple [.tuple [T2 a0 b0, O0], .tuple [T2 a1 b1, O1], .tuple [T2 a2 b2, O2], .tuple [T2 a3 b3, O3], .tuple [T2 a4 b4, O4]])) (S := T2 a0 b0) (L := O0) (O := O1) (x6 := x6) (x7 := x7) (cs := cs) n1 p1
  have q2 := in_ne (Z := (.tuple [.tuple [T2 a0 b0, O0], .tuple [T2 a1 b1, O1], .tuple [T2 a2 b2, O2], .tuple [T2 a3 b3, O3], .tuple [T2 a4 b4, O4]])) (S := T2 a0 b0) (L := O0) (O := O2) (x6 := x6) (x7 := x7) (cs := cs) n2 p2
  have q3 := in_ne (Z := (.tuple [.tuple [T2 a0 b0, O0], .tuple [T2 a1 b1, O1], .tuple [T2 a2 b2, O2], .tuple [T2 a3 b3, O3], .tuple [T2 a4 b4, O4]])) (S := T2 a0 b0) (L := O0) (O := O3) (x6 := x6) (x7 := x7) (cs := cs) n3 p3
  have q4 := in_ne (Z := (.tuple [.tuple [T2 a0 b0, O0], .tuple [T2 a1 b1, O1], .tuple [T2 a2 b2, O2], .tuple [T2 a3 b3, O3], .tuple [T2 a4 b4, O4]])) (S := T2 a0 b0) (L := O0) (O := O4) (x6 := x6) (x7 := x7) (cs := cs) n4 p4
  have e0 : ThF = (fFor (fIt (fVar 0)) (aTup 2 (aCons (aName 8) (aCons (aName 9) aNil))) ThI) := rfl
  rw [e0]
  clear n0 n1 p1 n2 p2 n3 p3 n4 p4
  generalize ThI = B at *
  simp! [aTup, q0, q1, q2, q3, q4]
theorem inf1 {a0 b0 a1 b1 a2 b2 a3 b3 a4 b4 : Int} {O0 O1 O2 O3 O4 W0 W1 W2 W3 W4 : PyData} {x6 x7 x8 x9 : Option SV} {cs : Cs} (n0 : gNe (T2 a0 b0) (T2 a1 b1) = some (.bool true)) (p0 : F_polynomial_product [.dat W0, .dat (T2 (-a0) b0)] [] = some (.dat W1, [])) (n1 : gNe (T2 a1 b1) (T2 a1 b1) = some (.bool false)) (n2 : gNe (T2 a2 b2) (T2 a1 b1) = some (.bool true)) (p2 : F_polynomial_product [.dat W1, .dat (T2 (-a2) b2)] [] = some (.dat W2, [])) (n3 : gNe (T2 a3 b3) (T2 a1 b1) = some (.bool true)) (p3 : F_polynomial_product [.dat W2, .dat (T2 (-a3) b3)] [] = some (.dat W3, [])) (n4 : gNe (T2 a4 b4) (T2 a1 b1) = some (.bool true)) (p4 : F_polynomial_product [.dat W3, .dat (T2 (-a4) b4)] [] = some (.dat W4, [])) :
    ThF ⟨[some (.dat (.tuple [.tuple [T2 a0 b0, O0], .tuple [T2 a1 b1, O1], .tuple [T2 a2 b2, O2], .tuple [T2 a3 b3, O3], .tuple [T2 a4 b4, O4]])), some (.cel 0), some (.cel 1), some (.dat (T2 a1 b1)), some (.dat O1), some (.dat W0), x6, x7, x8, x9], cs⟩ = some (.nx ⟨[some (.dat (.tuple [.tuple [T2 a0 b0, O0], .tuple [T2 a1 b1, O1], .tuple [T2 a2 b2, O2], .tuple [T2 a3 b3, O3], .tuple [T2 a4 b4, O4]])), some (.cel 0), some (.cel 1), some (.dat (T2 a1 b1)), some (.dat O1), some (.dat W4), x6, x7, some (.dat (T2 a4 b4)), some (.dat O4)], cs⟩) := by
  have q0 := in_ne (Z := (.tuple [.tuple [T2 a0 b0, O0], .tuple [T2 a1 b1, O1], .tuple [T2 a2 b2, O2], .tuple [T2 a3 b3, O3], .tuple [T2 a4 b4, O4]])) (S := T2 a1 b1) (L := O1) (O := O0) (x6 := x6) (x7 := x7) (cs := cs) n0 p0
  have q1 := in_eq (W := W1) (Z := (.tuple [.tuple [T2 a0 b0, O0], .tuple [T2 a1 b1, O1], .tuple [T2 a2 b2, O2], .tuple [T2 a3 b3, O3], .tuple [T2 a4 b4, O4]])) (S := T2 a1 b1) (L := O1) (O := O1) (x6 := x6) (x7 := x7) (cs := cs) n1
  have q2 := in_ne (Z := (.tuple [.tuple [T2 a0 b0, O0], .tuple [T2 a1 b1, O1], .tuple [T2 a2 b2, O2], .tuple [T2 a3 b3, O3], .tuple [T2 a4 b4, O4]])) (S := T2 a1 b1) (L := O1) (O := O2) (x6 := x6) (x7 := x7) (cs := cs) n2 p2
  have q3 := in_ne (Z := (.tuple [.tuple [T2 a0 b0, O0], .tuple [T2 a1 b1, O1], .tuple [T2 a2 b2, O2], .tuple [T2 a3 b3, O3], .tuple [T2 a4 b4, O4]])) (S := T2 a1 b1) (L := O1) (O := O3) (x6 := x6) (x7 := x7) (cs := cs) n3 p3
  have q4 := in_ne (Z := (.tuple [.tuple [T2 a0 b0, O0], .tuple [T2 a1 b1, O1], .tuple [T2 a2 b2, O2], .tuple [T2 a3 b3, O3], .tuple [T2 a4 b4, O4]])) (S := T2 a1 b1) (L := O1) (O := O4) (x6 := x6) (x7 := x7) (cs := cs) n4 p4
  have e0 : ThF = (fFor (fIt (fVar 0)) (aTup 2 (aCons (aName 8) (aCons (aName 9) aNil))) ThI) := rfl
  rw [e0]
  clear n0 p0 n1 n2 p2 n3 p3 n4 p4
  generalize ThI = B at *
  simp! [aTup, q0, q1, q2, q3, q4]
theorem inf2 {a0 b0 a1 b1 a2 b2 a3 b3 a4 b4 : Int} {O0 O1 O2 O3 O4 W0 W1 W2 W3 W4 : PyData} {x6 x7 x8 x9 : Option SV} {cs : Cs} (n0 : gNe (T2 a0 b0) (T2 a2 b2) = some (.bool true)) (p0 : F_polynomial_product [.dat W0, .dat (T2 (-a0) b0)] [] = some (.dat W1, [])) (n1 : gNe (T2 a1 b1) (T2 a2 b2) = some (.bool true)) (p1 : F_polynomial_product [.dat W1, .dat (T2 (-a1) b1)] [] = some (.dat W2, [])) (n2 : gNe (T2 a2 b2) (T2 a2 b2) = some (.bool false)) (n3 : gNe (T2 a3 b3) (T2 a2 b2) = some (.bool true)) (p3 : F_polynomial_product [.dat W2, .dat (T2 (-a3) b3)] [] = some (.dat W3, [])) (n4 : gNe (T2 a4 b4) (T2 a2 b2) = some (.bool true)) (p4 : F_polynomial_product [.dat W3, .dat (T2 (-a4) b4)] [] = some (.dat W4, [])) :
    ThF ⟨[some (.dat (.tuple [.tuple [T2 a0 b0, O0], .tuple [T2 a1 b1, O1], .tuple [T2 a2 b2, O2], .tuple [T2 a3 b3, O3], .tuple [T2 a4 b4, O4]])), some (.cel 0), some (.cel 1), some (.dat (T2 a2 b2)), some (.dat O2), some (.dat W0), x6, x7, x8, x9], cs⟩ = some (.nx ⟨[some (.dat (.tuple [.tuple [T2 a0 b0, O0], .tuple [T2 a1 b1, O1], .tuple [T2 a2 b2, O2], .tuple [T2 a3 b3, O3], .tuple [T2 a4 b4, O4]])), some (.cel 0), some (.cel 1), some (.dat (T2 a2 b2)), some (.dat O2), some (.dat W4), x6, x7, some (.dat (T2 a4 b4)), some (.dat O4)], cs⟩) := by
  have q0 := in_ne (Z := (.tuple [.tuple [T2 a0 b0, O0], .tuple [T2 a1 b1, O1], .tuple [T2 a2 b2, O2], .tuple [T2 a3 b3, O3], .tuple [T2 a4 b4, O4]])) (S := T2 a2 b2) (L := O2) (O := O0) (x6 := x6) (x7 := x7) (cs := cs) n0 p0
  have q1 := in_ne (Z := (.tuple [.tuple [T2 a0 b0, O0], .tuple [T2 a1 b1, O1], .tuple [T2 a2 b2, O2], .tuple [T2 a3 b3, O3], .tuple [T2 a4 b4, O4]])) (S := T2 a2 b2) (L := O2) (O := O1) (x6 := x6) (x7 := x7) (cs := cs) n1 p1
  have q2 := in_eq (W := W2) (Z := (.tuple [.tuple [T2 a0 b0, O0], .tuple [T2 a1 b1, O1], .tuple [T2 a2 b2, O2], .tuple [T2 a3 b3, O3], .tuple [T2 a4 b4, O4]])) (S := T2 a2 b2) (L := O2) (O := O2) (x6 := x6) (x7 := x7) (cs := cs) n2
  have q3 := in_ne (Z := (.tuple [.tuple [T2 a0 b0, O0], .tuple [T2 a1 b1, O1], .tuple [T2 a2 b2, O2], .tuple [T2 a3 b3, O3], .tuple [T2 a4 b4, O4]])) (S := T2 a2 b2) (L := O2) (O := O3) (x6 := x6) (x7 := x7) (cs := cs) n3 p3
  have q4 := in_ne (Z := (.tuple [.tuple [T2 a0 b0, O0], .tuple [T2 a1 b1, O1], .tuple [T2 a2 b2, O2], .tuple [T2 a3 b3, O3], .tuple [T2 a4 b4, O4]])) (S := T2 a2 b2) (L := O2) (O := O4) (x6 := x6) (x7 := x7) (cs := cs) n4 p4
  have e0 : ThF = (fFor (fIt (fVar 0)) (aTup 2 (aCons (aName 8) (aCons (aName 9) aNil))) ThI) := rfl
  rw [e0]
  clear n0 p0 n1 p1 n2 n3 p3 n4 p4
  generalize ThI = B at *
  simp! [aTup, q0, q1, q2, q3, q4]
theorem inf3 {a0 b0 a1 b1 a2 b2 a3 b3 a4 b4 : Int} {O0 O1 O2 O3 O4 W0 W1 W2 W3 W4 : PyData} {x6 x7 x8 x9 : Option SV} {cs : Cs} (n0 : gNe (T2 a0 b0) (T2 a3 b3) = some (.bool true)) (p0 : F_polynomial_product [.dat W0, .dat (T2 (-a0) b0)] [] = some (.dat W1, [])) (n1 : gNe (T2 a1 b1) (T2 a3 b3) = some (.bool true)) (p1 : F_polynomial_product [.dat W1, .dat (T2 (-a1) b1)] [] = some (.dat W2, [])) (n2 : gNe (T2 a2 b2) (T2 a3 b3) = some (.bool true)) (p2 : F_polynomial_product [.dat W2, .dat (T2 (-a2) b2)] [] = some (.dat W3, [])) (n3 : gNe (T2 a3 b3) (T2 a3 b3) = some (.bool false)) (n4 : gNe (T2 a4 b4) (T2 a3 b3) = some (.bool true)) (p4 : F_polynomial_product [.dat W3, .dat (T2 (-a4) b4)] [] = some (.dat W4, [])) :
    ThF ⟨[some (.dat (.tuple [.tuple [T2 a0 b0, O0], .tuple [T2 a1 b1, O1], .tuple [T2 a2 b2, O2], .tuple [T2 a3 b3, O3], .tuple [T2 a4 b4, O4]])), some (.cel 0), some (.cel 1), some (.dat (T2 a3 b3)), some (.dat O3), some (.dat W0), x6, x7, x8, x9], cs⟩ = some (.nx ⟨[some (.dat (.tuple [.tuple [T2 a0 b0, O0], .tuple [T2 a1 b1, O1], .tuple [T2 a2 b2, O2], .tuple [T2 a3 b3, O3], .tuple [T2 a4 b4, O4]])), some (.cel 0), some (.cel 1), some (.dat (T2 a3 b3)), some (.dat O3), some (.dat W4), x6, x7, some (.dat (T2 a4 b4)), some (.dat O4)], cs⟩) := by
  have q0 := in_ne (Z := (.tuple [.tuple [T2 a0 b0, O0], .tuple [T2 a1 b1, O1], .tuple [T2 a2 b2, O2], .tuple [T2 a3 b3, O3], .tuple [T2 a4 b4, O4]])) (S := T2 a3 b3) (L := O3) (O := O0) (x6 := x6) (x7 := x7) (cs := cs) n0 p0
  have q1 := in_ne (Z := (.tuple [.tuple [T2 a0 b0, O0], .tuple [T2 a1 b1, O1], .tuple [T2 a2 b2, O2], .tuple [T2 a3 b3, O3], .tuple [T2 a4 b4, O4]])) (S := T2 a3 b3) (L := O3) (O := O1) (x6 := x6) (x7 := x7) (cs := cs) n1 p1
  have q2 := in_ne (Z := (.tuple [.tuple [T2 a0 b0, O0], .tuple [T2 a1 b1, O1], .tuple [T2 a2 b2, O2], .tuple [T2 a3 b3, O3], .tuple [T2 a4 b4, O4]])) (S := T2 a3 b3) (L := O3) (O := O2) (x6 := x6) (x7 := x7) (cs := cs) n2 p2
  have q3 := in_eq (W := W3) (Z := (.tuple [.tuple [T2 a0 b0, O0], .tuple [T2 a1 b1, O1], .tuple [T2 a2 b2, O2], .tuple [T2 a3 b3, O3], .tuple [T2 a4 b4, O4]])) (S := T2 a3 b3) (L := O3) (O := O3) (x6 := x6) (x7 := x7) (cs := cs) n3
  have q4 := in_ne (Z := (.tuple [.tuple [T2 a0 b0, O0], .tuple [T2 a1 b1, O1], .tuple [T2 a2 b2, O2], .tuple [T2 a3 b3, O3], .tuple [T2 a4 b4, O4]])) (S := T2 a3 b3) (L := O3) (O := O4) (x6 := x6) (x7 := x7) (cs := cs) n4 p4
  have e0 : ThF = (fFor (fIt (fVar 0)) (aTup 2 (aCons (aName 8) (aCons (aName 9) aNil))) ThI) := rfl
  rw [e0]
  clear n0 p0 n1 p1 n2 p2 n3 n4 p4
  generalize ThI = B at *
  simp! [aTup, q0, q1, q2, q3, q4]
theorem inf4 {a0 b0 a1 b1 a2 b2 a3 b3 a4 b4 : Int} {O0 O1 O2 O3 O4 W0 W1 W2 W3 W4 : PyData} {x6 x7 x8 x9 : Option SV} {cs : Cs} (n0 : gNe (T2 a0 b0) (T2 a4 b4) = some (.bool true)) (p0 : F_polynomial_product [.dat W0, .dat (T2 (-a0) b0)] [] = some (.dat W1, [])) (n1 : gNe (T2 a1 b1) (T2 a4 b4) = some (.bool true)) (p1 : F_polynomial_product [.dat W1, .dat (T2 (-a1) b1)] [] = some (.dat W2, [])) (n2 : gNe (T2 a2 b2) (T2 a4 b4) = some (.bool true)) (p2 : F_polynomial_product [.dat W2, .dat (T2 (-a2) b2)] [] = some (.dat W3, [])) (n3 : gNe (T2 a3 b3) (T2 a4 b4) = some (.bool true)) (p3 : F_polynomial_product [.dat W3, .dat (T2 (-a3) b3)] [] = some (.dat W4, [])) (n4 : gNe (T2 a4 b4) (T2 a4 b4) = some (.bool false)) :
    ThF ⟨[some (.dat (.tuple [.tuple [T2 a0 b0, O0], .tuple [T2 a1 b1, O1], .tuple [T2 a2 b2, O2], .tuple [T2 a3 b3, O3], .tuple [T2 a4 b4, O4]])), some (.cel 0), some (.cel 1), some (.dat (T2 a4 b4)), some (.dat O4), some (.dat W0), x6, x7, x8, x9], cs⟩ = some (.nx ⟨[some (.dat (.tuple [.tuple [T2 a0 b0, O0], .tuple [T2 a1 b1, O1], .tuple [T2 a2 b2, O2], .tuple [T2 a3 b3, O3], .tuple [T2 a4 b4, O4]])), some (.cel 0), some (.cel 1), some (.dat (T2 a4 b4)), some (.dat O4), some (.dat W4), x6, x7, some (.dat (T2 a4 b4)), some (.dat O4)], cs⟩) := by
  have q0 := in_ne (Z := (.tuple [.tuple [T2 a0 b0, O0], .tuple [T2 a1 b1, O1], .tuple [T2 a2 b2, O2], .tuple [T2 a3 b3, O3], .tuple [T2 a4 b4, O4]])) (S := T2 a4 b4) (L := O4) (O := O0) (x6 := x6) (x7 := x7) (cs := cs) n0 p0
  have q1 := in_ne (Z := (.tuple [.tuple [T2 a0 b0, O0], .tuple [T2 a1 b1, O1], .tuple [T2 a2 b2, O2], .tuple [T2 a3 b3, O3], .tuple [T2 a4 b4, O4]])) (S := T2 a4 b4) (L := O4) (O := O1) (x6 := x6) (x7 := x7) (cs := cs) n1 p1
  have q2 := in_ne (Z := (.tuple [.tuple [T2 a0 b0, O0], .tuple [T2 a1 b1, O1], .tuple [T2 a2 b2, O2], .tuple [T2 a3 b3, O3], .tuple [T2 a4 b4, O4]])) (S := T2 a4 b4) (L := O4) (O := O2) (x6 := x6) (x7 := x7) (cs := cs) n2 p2
  have q3 := in_ne (Z := (.tuple [.tuple [T2 a0 b0, O0], .tuple [T2 a1 b1, O1], .tuple [T2 a2 b2, O2], .tuple [T2 a3 b3, O3], .tuple [T2 a4 b4, O4]])) (S := T2 a4 b4) (L := O4) (O := O3) (x6 := x6) (x7 := x7) (cs := cs) n3 p3
  have q4 := in_eq (W := W4) (Z := (.tuple [.tuple [T2 a0 b0, O0], .tuple [T2 a1 b1, O1], .tuple [T2 a2 b2, O2], .tuple [T2 a3 b3, O3], .tuple [T2 a4 b4, O4]])) (S := T2 a4 b4) (L := O4) (O := O4) (x6 := x6) (x7 := x7) (cs := cs) n4
  have e0 : ThF = (fFor (fIt (fVar 0)) (aTup 2 (aCons (aName 8) (aCons (aName 9) aNil))) ThI) := rfl
  rw [e0]
  clear n0 p0 n1 p1 n2 p2 n3 p3 n4
  generalize ThI = B at *
  simp! [aTup, q0, q1, q2, q3, q4]
theorem bd_1 {m : Nat} {Z S W Q : PyData} {c : Nat → Int} {p q L l1 l2 V r3 : Int} {x5 x6 x7 x8 x9 y8 y9 : Option SV} {RS VS : List PyData} (hP : Pol 4 m c W) (hf : ThF ⟨[some (.dat Z), some (.cel 0), some (.cel 1), some (.dat S), some (.dat (T2 p q)), some (.dat (.tuple [.int 1])), x6, x7, x8, x9], [RS, VS]⟩ = some (.nx ⟨[some (.dat Z), some (.cel 0), some (.cel 1), some (.dat S), some (.dat (T2 p q)), some (.dat W), x6, x7, y8, y9], [RS, VS]⟩))
    (el : F__length_of [.dat S] [] = some (.dat (.int L), [])) (m1 : gMul (.int p) (.int L) = some (.int l1)) (m2 : gMul (.int l1) (.int L) = some (.int l2)) (ev : F_value_at [.dat (L5 (c 0) (c 1) (c 2) (c 3) (c 4)), .dat S] [] = some (.dat (.int V), [])) (m3 : gMul (.int q) (.int V) = some (.int r3)) (er : F_ratio [.dat (.int l2), .dat (.int r3)] [] = some (.dat Q, []))
    (h1 : RS.length < 100000) (h2 : VS.length < 100000) : BdB ⟨[some (.dat Z), some (.cel 0), some (.cel 1), some (.dat S), some (.dat (T2 p q)), x5, x6, x7, x8, x9], [RS, VS]⟩ = some (.nx ⟨[some (.dat Z), some (.cel 0), some (.cel 1), some (.dat S), some (.dat (T2 p q)), some (.dat W), some (.dat (L5 (c 0) (c 1) (c 2) (c 3) (c 4))), some (.dat (.int L)), y8, y9], [RS ++ [L5 (c 0) (c 1) (c 2) (c 3) (c 4)], VS ++ [Q]]⟩) := by
  have w := wholeT hP (x0 := some (.dat Z)) (x1 := some (.cel 0)) (x2 := some (.cel 1)) (x3 := some (.dat S)) (x4 := some (.dat (T2 p q))) (x6 := x6) (x7 := x7) (x8 := y8) (x9 := y9) (cs := [RS, VS])
  have e0 : BdB = (fSeq (fSet 5 (fTup (fConsA (fLit (.int 1)) fNilA))) (fSeq ThF (fSeq WhT (fSeq (fSet 7 (fCall F__length_of (fConsA (fVar 3) fNilA))) (fSeq (fApp 1 (fVar 6)) (fApp 2 (fCall F_ratio (fConsA (fOp gMul (fOp gMul (fOp gIx (fVar 4) (fLit (.int 0))) (fVar 7)) (fVar 7)) (fConsA (fOp gMul (fOp gIx (fVar 4) (fLit (.int 1))) (fCall F_value_at (fConsA (fVar 6) (fConsA (fVar 3) fNilA)))) fNilA))))))))) := rfl
  rw [e0]
  clear hP
  generalize ThF = I at *
  generalize WhT = T at *
  generalize L5 (c 0) (c 1) (c 2) (c 3) (c 4) = CL at *
  simp! [fApp, gIx, ix2_0, ix2_1, hf, w, el, m1, m2, ev, m3, er, h1, h2]
theorem nc1 {Z V S L : PyData} {W : Slots} {R : List PyData} (h : noCel 0 W = true) : noCel 0 (some (.dat Z) :: some (.dat (.list R)) :: some (.dat V) :: some (.dat S) :: some (.dat L) :: W) = true := h
theorem nc2 {Z S L : PyData} {W : Slots} {R : List PyData} (h : noCel 1 W = true) : noCel 1 (some (.dat Z) :: some (.cel 0) :: some (.dat (.list R)) :: some (.dat S) :: some (.dat L) :: W) = true := by
  show (decide (0 ≠ 1) && noCel 1 W) = true
  rw [h]; rfl
theorem core_through {Z S0 L0 R0 V0 S1 L1 R1 V1 S2 L2 R2 V2 S3 L3 R3 V3 S4 L4 R4 V4 out : PyData} {x0_0 x0_1 x0_2 x0_3 x0_4 x1_0 x1_1 x1_2 x1_3 x1_4 x2_0 x2_1 x2_2 x2_3 x2_4 x3_0 x3_1 x3_2 x3_3 x3_4 x4_0 x4_1 x4_2 x4_3 x4_4 : Option SV} (eZ : Z = (.tuple [.tuple [S0, L0], .tuple [S1, L1], .tuple [S2, L2], .tuple [S3, L3], .tuple [S4, L4]])) (ec : F__check_samples [.dat Z] [] = some (.dat .none, []))
    (b0 : BdB ⟨[some (.dat Z), some (.cel 0), some (.cel 1), some (.dat S0), some (.dat L0), none, none, none, none, none], [[], []]⟩ = some (.nx ⟨[some (.dat Z), some (.cel 0), some (.cel 1), some (.dat S0), some (.dat L0), x0_0, x0_1, x0_2, x0_3, x0_4], [[R0], [V0]]⟩))
    (b1 : BdB ⟨[some (.dat Z), some (.cel 0), some (.cel 1), some (.dat S1), some (.dat L1), x0_0, x0_1, x0_2, x0_3, x0_4], [[R0], [V0]]⟩ = some (.nx ⟨[some (.dat Z), some (.cel 0), some (.cel 1), some (.dat S1), some (.dat L1), x1_0, x1_1, x1_2, x1_3, x1_4], [[R0, R1], [V0, V1]]⟩))
    (b2 : BdB ⟨[some (.dat Z), some (.cel 0), some (.cel 1), some (.dat S2), some (.dat L2), x1_0, x1_1, x1_2, x1_3, x1_4], [[R0, R1], [V0, V1]]⟩ = some (.nx ⟨[some (.dat Z), some (.cel 0), some (.cel 1), some (.dat S2), some (.dat L2), x2_0, x2_1, x2_2, x2_3, x2_4], [[R0, R1, R2], [V0, V1, V2]]⟩))
    (b3 : BdB ⟨[some (.dat Z), some (.cel 0), some (.cel 1), some (.dat S3), some (.dat L3), x2_0, x2_1, x2_2, x2_3, x2_4], [[R0, R1, R2], [V0, V1, V2]]⟩ = some (.nx ⟨[some (.dat Z), some (.cel 0), some (.cel 1), some (.dat S3), some (.dat L3), x3_0, x3_1, x3_2, x3_3, x3_4], [[R0, R1, R2, R3], [V0, V1, V2, V3]]⟩))
    (b4 : BdB ⟨[some (.dat Z), some (.cel 0), some (.cel 1), some (.dat S4), some (.dat L4), x3_0, x3_1, x3_2, x3_3, x3_4], [[R0, R1, R2, R3], [V0, V1, V2, V3]]⟩ = some (.nx ⟨[some (.dat Z), some (.cel 0), some (.cel 1), some (.dat S4), some (.dat L4), x4_0, x4_1, x4_2, x4_3, x4_4], [[R0, R1, R2, R3, R4], [V0, V1, V2, V3, V4]]⟩))
    (nc : noCel 0 [x4_0, x4_1, x4_2, x4_3, x4_4] = true) (nd : noCel 1 [x4_0, x4_1, x4_2, x4_3, x4_4] = true) (ew : F__weighed_course [.dat (.list [R0, R1, R2, R3, R4]), .dat (.list [V0, V1, V2, V3, V4])] [] = some (.dat out, [])) : F_course_through [.dat Z] [] = some (.dat out, []) := by
  have c0 : (fDrop (fCall F__check_samples (fConsA (fVar 0) fNilA))) ⟨[some (.dat Z), none, none, none, none, none, none, none, none, none], []⟩ = some (.nx ⟨[some (.dat Z), none, none, none, none, none, none, none, none, none], []⟩) := by
    simp! [ec]
  have c1 : (fParN 1 2 (fNNew (fLst fNilA) (fNNew (fLst fNilA) fNNil))) ⟨[some (.dat Z), none, none, none, none, none, none, none, none, none], []⟩ = some (.nx ⟨[some (.dat Z), some (.cel 0), some (.cel 1), none, none, none, none, none, none, none], [[], []]⟩) := by
    simp! [fParN, fNNew, fNNil, putN]
  have c2 : (fFor (fIt (fVar 0)) (aTup 2 (aCons (aName 3) (aCons (aName 4) aNil))) BdB) ⟨[some (.dat Z), some (.cel 0), some (.cel 1), none, none, none, none, none, none, none], [[], []]⟩ = some (.nx ⟨[some (.dat Z), some (.cel 0), some (.cel 1), some (.dat S4), some (.dat L4), x4_0, x4_1, x4_2, x4_3, x4_4], [[R0, R1, R2, R3, R4], [V0, V1, V2, V3, V4]]⟩) := by
    generalize BdB = B at *
    subst eZ
    clear c0 c1 ec ew
    simp! [aTup, b0, b1, b2, b3, b4]
  have f1 : ∀ B : FS, fFrz 0 2 B ⟨[some (.dat Z), some (.cel 0), some (.cel 1), some (.dat S4), some (.dat L4), x4_0, x4_1, x4_2, x4_3, x4_4], [[R0, R1, R2, R3, R4], [V0, V1, V2, V3, V4]]⟩ = B ⟨[some (.dat Z), some (.cel 0), some (.dat (.list [V0, V1, V2, V3, V4])), some (.dat S4), some (.dat L4), x4_0, x4_1, x4_2, x4_3, x4_4], [[R0, R1, R2, R3, R4]]⟩ := fun B => frzk (k := 1) rfl ⟨by decide, rfl⟩ rfl (nc2 nd)
  have f2 : ∀ B : FS, fFrz 0 1 B ⟨[some (.dat Z), some (.cel 0), some (.dat (.list [V0, V1, V2, V3, V4])), some (.dat S4), some (.dat L4), x4_0, x4_1, x4_2, x4_3, x4_4], [[R0, R1, R2, R3, R4]]⟩ = B ⟨[some (.dat Z), some (.dat (.list [R0, R1, R2, R3, R4])), some (.dat (.list [V0, V1, V2, V3, V4])), some (.dat S4), some (.dat L4), x4_0, x4_1, x4_2, x4_3, x4_4], []⟩ := fun B => frzk (k := 0) rfl ⟨by decide, rfl⟩ rfl (nc1 nc)
  have c3 : (fRet (fCall F__weighed_course (fConsA (fVar 1) (fConsA (fVar 2) fNilA)))) ⟨[some (.dat Z), some (.dat (.list [R0, R1, R2, R3, R4])), some (.dat (.list [V0, V1, V2, V3, V4])), some (.dat S4), some (.dat L4), x4_0, x4_1, x4_2, x4_3, x4_4], []⟩ = some (.rt (.dat out) []) := by
    simp! [ew]
  have e0 : b_course_through = fSeq (fDrop (fCall F__check_samples (fConsA (fVar 0) fNilA))) (fSeq (fParN 1 2 (fNNew (fLst fNilA) (fNNew (fLst fNilA) fNNil))) (fSeq (fFor (fIt (fVar 0)) (aTup 2 (aCons (aName 3) (aCons (aName 4) aNil))) BdB) (fFrz 0 2 (fFrz 0 1 (fRet (fCall F__weighed_course (fConsA (fVar 1) (fConsA (fVar 2) fNilA)))))))) := rfl
  refine fn_ok (np := 1) (nN := 10) (n0 := 0) (c := []) ?_ ⟨rfl, rfl⟩ rfl
  rw [e0]
  exact (seq_nx c0).trans ((seq_nx c1).trans ((seq_nx c2).trans ((f1 _).trans ((f2 _).trans c3))))
end PL


set_option Elab.async false
set_option linter.all false
set_option maxRecDepth 100000
set_option maxHeartbeats 4000000
set_option exponentiation.threshold 20000
namespace PL
open PySem PySem.Spec L2 DL
theorem ne_sls (s r : Int × Int) : gNe (PP2 s) (PP2 r) = some (.bool (!(s == r))) := by
  show (if SeqAt.shaped (PP2 s) = true ∧ SeqAt.shaped (PP2 r) = true then some (PyData.bool (!PyData.eqv (PP2 s) (PP2 r))) else none) = _
  rw [if_pos ⟨shaped_tup [s.1, s.2], shaped_tup [r.1, r.2]⟩, eqv_T2]
theorem ne_t {s r : Int × Int} (h : s ≠ r) : gNe (T2 s.1 s.2) (T2 r.1 r.2) = some (.bool true) := by
  have e := ne_sls s r
  rw [show (s == r) = false from beq_eq_false_iff_ne.mpr h] at e
  exact e
theorem ne_f (s : Int × Int) : gNe (T2 s.1 s.2) (T2 s.1 s.2) = some (.bool false) := by
  have e := ne_sls s s
  rw [show (s == s) = true from beq_self_eq_true s] at e
  exact e
abbrev FoC (c : Nat → Int) (x y : Int) : Int := Fo (c 0) (c 1) (c 2) (c 3) (c 4) x y
theorem fo_szR {m s : Nat} {x0 x1 x2 x3 x4 p q : Int} (c0 : Sz m x0) (c1 : Sz m x1) (c2 : Sz m x2) (c3 : Sz m x3) (c4 : Sz m x4) (sp : Sz s p) (sq : Sz s q) : Sz (m + 4 * s + 4) (Fo x0 x1 x2 x3 x4 p q) := by
  unfold Fo
  exact (((((c0.mul (((sq.mul sq).mul sq).mul sq)).add (c1.mul (((sp.mul sq).mul sq).mul sq))).add (c2.mul (((sp.mul sp).mul sq).mul sq))).add (c3.mul (((sp.mul sp).mul sp).mul sq))).add (c4.mul (((sp.mul sp).mul sp).mul sp))).by _ (by omega)
/-- a row of a sample, and its weight -/
structure Row (m k : Nat) (s r1 r2 r3 r4 : Int × Int) (p q : Int) (W1 W2 W3 W4 : PyData) (c : Nat → Int) (P Q V : Int) : Prop where
  p1 : F_polynomial_product [.dat (.tuple [.int 1]), .dat (T2 (-r1.1) r1.2)] [] = some (.dat W1, [])
  p2 : F_polynomial_product [.dat W1, .dat (T2 (-r2.1) r2.2)] [] = some (.dat W2, [])
  p3 : F_polynomial_product [.dat W2, .dat (T2 (-r3.1) r3.2)] [] = some (.dat W3, [])
  p4 : F_polynomial_product [.dat W3, .dat (T2 (-r4.1) r4.2)] [] = some (.dat W4, [])
  pol : Pol 4 (4 * m + 20) c W4
  el : F__length_of [.dat (T2 s.1 s.2)] [] = some (.dat (.int (Ls s.1 s.2)), [])
  m1 : gMul (.int p) (.int (Ls s.1 s.2)) = some (.int (p * Ls s.1 s.2))
  m2 : gMul (.int (p * Ls s.1 s.2)) (.int (Ls s.1 s.2)) = some (.int (p * Ls s.1 s.2 * Ls s.1 s.2))
  ev : F_value_at [.dat (L5 (c 0) (c 1) (c 2) (c 3) (c 4)), .dat (T2 s.1 s.2)] [] = some (.dat (.int V), [])
  m3 : gMul (.int q) (.int V) = some (.int (q * V))
  er : F_ratio [.dat (.int (p * Ls s.1 s.2 * Ls s.1 s.2)), .dat (.int (q * V))] [] = some (.dat (T2 P Q), [])
  fr : Fr (k + 8 * m + 24) P Q
  eq : P * (q * V) = Q * (p * Ls s.1 s.2 * Ls s.1 s.2)
  fv : FoC c s.1 s.2 = V
  fo : ∀ x y, FoC c x y = (-r1.1 * y + r1.2 * x) * (-r2.1 * y + r2.2 * x) * (-r3.1 * y + r3.2 * x) * (-r4.1 * y + r4.2 * x)
theorem w_row {m k : Nat} {s r1 r2 r3 r4 : Int × Int} {p q : Int} (hm : m ≤ 10) (hk : k ≤ 100) (S : Sg m s.1 s.2) (R1 : Sg m r1.1 r1.2) (R2 : Sg m r2.1 r2.2) (R3 : Sg m r3.1 r3.2) (R4 : Sg m r4.1 r4.2) (n1 : s ≠ r1) (n2 : s ≠ r2) (n3 : s ≠ r3) (n4 : s ≠ r4) (F : Fr k p q) :
    ∃ W1 W2 W3 W4 c P Q V, Row m k s r1 r2 r3 r4 p q W1 W2 W3 W4 c P Q V := by
  obtain ⟨W1, W2, W3, W4, e1, e2, e3, e4, PW⟩ := row4 (m := m) (by omega) R1.sa.neg R1.sb R2.sa.neg R2.sb R3.sa.neg R3.sb R4.sa.neg R4.sb
  have fo := fun x y => l4_fo (-r1.1) r1.2 (-r2.1) r2.2 (-r3.1) r3.2 (-r4.1) r4.2 x y
  generalize Ln4 (-r1.1) r1.2 (-r2.1) r2.2 (-r3.1) r3.2 (-r4.1) r4.2 = c at *
  have pw := PW
  obtain ⟨_, _, _, _, hs⟩ := pw
  have ev := w_valueL (hs 0) (hs 1) (hs 2) (hs 3) (hs 4) S.sa S.sb (by omega)
  have sV := fo_szR (hs 0) (hs 1) (hs 2) (hs 3) (hs 4) S.sa S.sb
  obtain ⟨V, hV⟩ : ∃ V, V = Fo (c 0) (c 1) (c 2) (c 3) (c 4) s.1 s.2 := ⟨_, rfl⟩
  rw [← hV] at ev sV
  have V0 : V ≠ 0 := by
    have d : ∀ {r : Int × Int}, Sg m r.1 r.2 → s ≠ r → -r.1 * s.2 + r.2 * s.1 ≠ 0 := fun R n e => sg_cross S R n (by
      rw [Int.neg_mul] at e
      rw [Int.mul_comm s.2, Int.mul_comm s.1]
      omega)
    rw [hV, fo]
    exact Int.mul_ne_zero (Int.mul_ne_zero (Int.mul_ne_zero (d R1 n1) (d R2 n2)) (d R3 n3)) (d R4 n4)
  have sL := ls_sz S.sa S.sb
  have q0 := F.q0
  have m1 := gMul_ok (F.sp.sm (m := 4000) (by omega)) (sL.sm (m := 4000) (by omega))
  have m2 := gMul_ok ((F.sp.mul sL).sm (m := 4000) (by omega)) (sL.sm (m := 4000) (by omega))
  have m3 := gMul_ok (F.sq.sm (m := 4000) (by omega)) (sV.sm (m := 4000) (by omega))
  have sA : Sz (k + 8 * m + 24) (p * Ls s.1 s.2 * Ls s.1 s.2) := ((F.sp.mul sL).mul sL).by _ (by omega)
  have sB : Sz (k + 8 * m + 24) (q * V) := (F.sq.mul sV).by _ (by omega)
  have B0 : q * V ≠ 0 := Int.mul_ne_zero (by omega) V0
  obtain ⟨P, Q, er, fr, eq⟩ : ∃ P Q, F_ratio [.dat (.int (p * Ls s.1 s.2 * Ls s.1 s.2)), .dat (.int (q * V))] [] = some (.dat (T2 P Q), []) ∧ Fr (k + 8 * m + 24) P Q ∧ P * (q * V) = Q * (p * Ls s.1 s.2 * Ls s.1 s.2) := by
    generalize p * Ls s.1 s.2 * Ls s.1 s.2 = A at *
    generalize q * V = B at *
    rcases Int.lt_or_lt_of_ne B0 with h | h
    · have e := e_ratioN (p := A) h (sA.sm (by omega)) (sB.sm (by omega))
      obtain ⟨P, Q, g, e', F', _, h1, h2⟩ := ratN (p := -A) (q := -B) (by omega) sA.neg sB.neg
      rw [e'] at e
      refine ⟨P, Q, e, F', ?_⟩
      have hA : A = -(P * g) := by omega
      have hB : B = -(Q * g) := by omega
      rw [hA, hB]; grind
    · have e := e_ratio (p := A) h (sA.sm (by omega)) (sB.sm (by omega))
      obtain ⟨P, Q, g, e', F', _, h1, h2⟩ := ratN (p := A) (q := B) h sA sB
      rw [e'] at e
      refine ⟨P, Q, e, F', ?_⟩
      rw [← h1, ← h2]; grind
  exact ⟨W1, W2, W3, W4, c, P, Q, V, e1, e2, e3, e4, PW, w_length S.sa S.sb (by omega), m1, m2, ev, m3, er, fr, eq, hV.symm, fo⟩
theorem row_pol {m k : Nat} {s r1 r2 r3 r4 : Int × Int} {p q : Int} {W1 W2 W3 W4 : PyData} {c : Nat → Int} {P Q V : Int} (R : Row m k s r1 r2 r3 r4 p q W1 W2 W3 W4 c P Q V) : PoL (4 * m + 20) (fun k => [c 0, c 1, c 2, c 3, c 4].getD k 0) (L5 (c 0) (c 1) (c 2) (c 3) (c 4)) :=
  ⟨[c 0, c 1, c 2, c 3, c 4], rfl, Nat.le_refl _, fun _ => rfl, sz_get (fun x hx => by
    obtain ⟨_, _, _, _, hs⟩ := R.pol
    simp only [List.mem_cons, List.not_mem_nil, or_false] at hx
    rcases hx with rfl | rfl | rfl | rfl | rfl <;> exact hs _) (by omega)⟩
theorem fo_lin5 {w0 w1 w2 w3 w4 : Int} {c0 c1 c2 c3 c4 u : Nat → Int} (h : ∀ k, k < 5 → u k = 0 + w0 * c0 k + w1 * c1 k + w2 * c2 k + w3 * c3 k + w4 * c4 k) (x y : Int) : FoC u x y = w0 * FoC c0 x y + w1 * FoC c1 x y + w2 * FoC c2 x y + w3 * FoC c3 x y + w4 * FoC c4 x y := by
  show Fo (u 0) (u 1) (u 2) (u 3) (u 4) x y = _
  rw [h 0 (by decide), h 1 (by decide), h 2 (by decide), h 3 (by decide), h 4 (by decide)]
  unfold FoC Fo
  generalize y * y * y * y = z0, x * y * y * y = z1, x * x * y * y = z2, x * x * x * y = z3, x * x * x * x = z4
  grind
theorem thr_fin {t0 t1 t2 t3 t4 u0 u1 u2 u3 u4 d G B Q P V p q L x y : Int} (G0 : 0 < G) (h0 : t0 * G = u0) (h1 : t1 * G = u1) (h2 : t2 * G = u2) (h3 : t3 * G = u3) (h4 : t4 * G = u4) (h5 : d * G = B) (hQ : Q ∣ B) (Q0 : 0 < Q) (eq : P * (q * V) = Q * (p * L * L)) (hF : Fo u0 u1 u2 u3 u4 x y = P * (B / Q) * V) : Fo t0 t1 t2 t3 t4 x y * q = p * L * L * d := by
  have e := fo_scale (t0 := t0) (t1 := t1) (t2 := t2) (t3 := t3) (t4 := t4) (G := G) (d := 1) (p := x) (q := y)
  rw [h0, h1, h2, h3, h4, hF, Int.one_mul, Int.mul_one] at e
  obtain ⟨z, rfl⟩ := hQ
  rw [Int.mul_ediv_cancel_left _ (by omega)] at e
  have key : (Fo t0 t1 t2 t3 t4 x y * q) * G = (p * L * L * d) * G := by
    have a1 : (Fo t0 t1 t2 t3 t4 x y * q) * G = (Fo t0 t1 t2 t3 t4 x y * G) * q := by grind
    have a2 : (p * L * L * d) * G = (p * L * L) * (d * G) := by grind
    rw [a1, a2, e, h5]
    have a3 : P * z * V * q = (P * (q * V)) * z := by grind
    rw [a3, eq]; grind
  exact Int.eq_of_mul_eq_mul_right (by omega) key
theorem thr_call {m k : Nat} {s0 s1 s2 s3 s4 : Int × Int} {p0 q0 P0 Q0 V0 p1 q1 P1 Q1 V1 p2 q2 P2 Q2 V2 p3 q3 P3 Q3 V3 p4 q4 P4 Q4 V4 : Int} {W01 W02 W03 W04 W11 W12 W13 W14 W21 W22 W23 W24 W31 W32 W33 W34 W41 W42 W43 W44 : PyData} {c0 c1 c2 c3 c4 : Nat → Int} {out : PyData} (R0 : Row m k s0 s1 s2 s3 s4 p0 q0 W01 W02 W03 W04 c0 P0 Q0 V0) (R1 : Row m k s1 s0 s2 s3 s4 p1 q1 W11 W12 W13 W14 c1 P1 Q1 V1) (R2 : Row m k s2 s0 s1 s3 s4 p2 q2 W21 W22 W23 W24 c2 P2 Q2 V2) (R3 : Row m k s3 s0 s1 s2 s4 p3 q3 W31 W32 W33 W34 c3 P3 Q3 V3) (R4 : Row m k s4 s0 s1 s2 s3 p4 q4 W41 W42 W43 W44 c4 P4 Q4 V4)
    (n01 : s0 ≠ s1) (n02 : s0 ≠ s2) (n03 : s0 ≠ s3) (n04 : s0 ≠ s4) (n10 : s1 ≠ s0) (n12 : s1 ≠ s2) (n13 : s1 ≠ s3) (n14 : s1 ≠ s4) (n20 : s2 ≠ s0) (n21 : s2 ≠ s1) (n23 : s2 ≠ s3) (n24 : s2 ≠ s4) (n30 : s3 ≠ s0) (n31 : s3 ≠ s1) (n32 : s3 ≠ s2) (n34 : s3 ≠ s4) (n40 : s4 ≠ s0) (n41 : s4 ≠ s1) (n42 : s4 ≠ s2) (n43 : s4 ≠ s3)
    (ec : F__check_samples [.dat (.tuple [.tuple [T2 s0.1 s0.2, T2 p0 q0], .tuple [T2 s1.1 s1.2, T2 p1 q1], .tuple [T2 s2.1 s2.2, T2 p2 q2], .tuple [T2 s3.1 s3.2, T2 p3 q3], .tuple [T2 s4.1 s4.2, T2 p4 q4]])] [] = some (.dat .none, []))
    (ew : F__weighed_course [.dat (.list [L5 (c0 0) (c0 1) (c0 2) (c0 3) (c0 4), L5 (c1 0) (c1 1) (c1 2) (c1 3) (c1 4), L5 (c2 0) (c2 1) (c2 2) (c2 3) (c2 4), L5 (c3 0) (c3 1) (c3 2) (c3 3) (c3 4), L5 (c4 0) (c4 1) (c4 2) (c4 3) (c4 4)]), .dat (.list [T2 P0 Q0, T2 P1 Q1, T2 P2 Q2, T2 P3 Q3, T2 P4 Q4])] [] = some (.dat out, [])) : F_course_through [.dat (.tuple [.tuple [T2 s0.1 s0.2, T2 p0 q0], .tuple [T2 s1.1 s1.2, T2 p1 q1], .tuple [T2 s2.1 s2.2, T2 p2 q2], .tuple [T2 s3.1 s3.2, T2 p3 q3], .tuple [T2 s4.1 s4.2, T2 p4 q4]])] [] = some (.dat out, []) := by
  exact core_through rfl ec
    (bd_1 R0.pol (inf0 (ne_f s0) (ne_t n10) R0.p1 (ne_t n20) R0.p2 (ne_t n30) R0.p3 (ne_t n40) R0.p4 ) R0.el R0.m1 R0.m2 R0.ev R0.m3 R0.er (Nat.lt_of_le_of_lt (Nat.le_of_ble_eq_true rfl : _ ≤ 5) (by decide)) (Nat.lt_of_le_of_lt (Nat.le_of_ble_eq_true rfl : _ ≤ 5) (by decide)))
    (bd_1 R1.pol (inf1 (ne_t n01) R1.p1 (ne_f s1) (ne_t n21) R1.p2 (ne_t n31) R1.p3 (ne_t n41) R1.p4 ) R1.el R1.m1 R1.m2 R1.ev R1.m3 R1.er (Nat.lt_of_le_of_lt (Nat.le_of_ble_eq_true rfl : _ ≤ 5) (by decide)) (Nat.lt_of_le_of_lt (Nat.le_of_ble_eq_true rfl : _ ≤ 5) (by decide)))
    (bd_1 R2.pol (inf2 (ne_t n02) R2.p1 (ne_t n12) R2.p2 (ne_f s2) (ne_t n32) R2.p3 (ne_t n42) R2.p4 ) R2.el R2.m1 R2.m2 R2.ev R2.m3 R2.er (Nat.lt_of_le_of_lt (Nat.le_of_ble_eq_true rfl : _ ≤ 5) (by decide)) (Nat.lt_of_le_of_lt (Nat.le_of_ble_eq_true rfl : _ ≤ 5) (by decide)))
    (bd_1 R3.pol (inf3 (ne_t n03) R3.p1 (ne_t n13) R3.p2 (ne_t n23) R3.p3 (ne_f s3) (ne_t n43) R3.p4 ) R3.el R3.m1 R3.m2 R3.ev R3.m3 R3.er (Nat.lt_of_le_of_lt (Nat.le_of_ble_eq_true rfl : _ ≤ 5) (by decide)) (Nat.lt_of_le_of_lt (Nat.le_of_ble_eq_true rfl : _ ≤ 5) (by decide)))
    (bd_1 R4.pol (inf4 (ne_t n04) R4.p1 (ne_t n14) R4.p2 (ne_t n24) R4.p3 (ne_t n34) R4.p4 (ne_f s4) ) R4.el R4.m1 R4.m2 R4.ev R4.m3 R4.er (Nat.lt_of_le_of_lt (Nat.le_of_ble_eq_true rfl : _ ≤ 5) (by decide)) (Nat.lt_of_le_of_lt (Nat.le_of_ble_eq_true rfl : _ ≤ 5) (by decide)))
    rfl rfl ew
theorem w_through {m k : Nat} {s0 s1 s2 s3 s4 : Int × Int} {p0 q0 p1 q1 p2 q2 p3 q3 p4 q4 : Int} (hm : m ≤ 10) (hk : k ≤ 100) (nd : [s0, s1, s2, s3, s4].Nodup) (S0 : Sg m s0.1 s0.2) (S1 : Sg m s1.1 s1.2) (S2 : Sg m s2.1 s2.2) (S3 : Sg m s3.1 s3.2) (S4 : Sg m s4.1 s4.2) (F0 : Fr k p0 q0) (F1 : Fr k p1 q1) (F2 : Fr k p2 q2) (F3 : Fr k p3 q3) (F4 : Fr k p4 q4) :
    ∃ t0 t1 t2 t3 t4 d : Int, F_course_through [.dat (.tuple [.tuple [T2 s0.1 s0.2, T2 p0 q0], .tuple [T2 s1.1 s1.2, T2 p1 q1], .tuple [T2 s2.1 s2.2, T2 p2 q2], .tuple [T2 s3.1 s3.2, T2 p3 q3], .tuple [T2 s4.1 s4.2, T2 p4 q4]])] [] = some (.dat (T6 t0 t1 t2 t3 t4 d), []) ∧ Co (6 * k + 52 * m + 200) t0 t1 t2 t3 t4 d ∧ Fo t0 t1 t2 t3 t4 s0.1 s0.2 * q0 = p0 * Ls s0.1 s0.2 * Ls s0.1 s0.2 * d ∧ Fo t0 t1 t2 t3 t4 s1.1 s1.2 * q1 = p1 * Ls s1.1 s1.2 * Ls s1.1 s1.2 * d ∧ Fo t0 t1 t2 t3 t4 s2.1 s2.2 * q2 = p2 * Ls s2.1 s2.2 * Ls s2.1 s2.2 * d ∧ Fo t0 t1 t2 t3 t4 s3.1 s3.2 * q3 = p3 * Ls s3.1 s3.2 * Ls s3.1 s3.2 * d ∧ Fo t0 t1 t2 t3 t4 s4.1 s4.2 * q4 = p4 * Ls s4.1 s4.2 * Ls s4.1 s4.2 * d := by
  have ec := w_check nd S0 S1 S2 S3 S4 F0 F1 F2 F3 F4
  simp only [List.nodup_cons, List.mem_cons, List.not_mem_nil, or_false, not_or] at nd
  obtain ⟨⟨n01, n02, n03, n04⟩, ⟨n12, n13, n14⟩, ⟨n23, n24⟩, n34, _⟩ := nd
  have n10 : s1 ≠ s0 := fun e => n01 e.symm
  have n20 : s2 ≠ s0 := fun e => n02 e.symm
  have n21 : s2 ≠ s1 := fun e => n12 e.symm
  have n30 : s3 ≠ s0 := fun e => n03 e.symm
  have n31 : s3 ≠ s1 := fun e => n13 e.symm
  have n32 : s3 ≠ s2 := fun e => n23 e.symm
  have n40 : s4 ≠ s0 := fun e => n04 e.symm
  have n41 : s4 ≠ s1 := fun e => n14 e.symm
  have n42 : s4 ≠ s2 := fun e => n24 e.symm
  have n43 : s4 ≠ s3 := fun e => n34 e.symm
  obtain ⟨W01, W02, W03, W04, c0, P0, Q0, V0, R0⟩ := w_row hm hk S0 S1 S2 S3 S4 n01 n02 n03 n04 F0
  obtain ⟨W11, W12, W13, W14, c1, P1, Q1, V1, R1⟩ := w_row hm hk S1 S0 S2 S3 S4 n10 n12 n13 n14 F1
  obtain ⟨W21, W22, W23, W24, c2, P2, Q2, V2, R2⟩ := w_row hm hk S2 S0 S1 S3 S4 n20 n21 n23 n24 F2
  obtain ⟨W31, W32, W33, W34, c3, P3, Q3, V3, R3⟩ := w_row hm hk S3 S0 S1 S2 S4 n30 n31 n32 n34 F3
  obtain ⟨W41, W42, W43, W44, c4, P4, Q4, V4, R4⟩ := w_row hm hk S4 S0 S1 S2 S3 n40 n41 n42 n43 F4
  have sN := nq_sz R0.fr.sq R1.fr.sq R2.fr.sq R3.fr.sq R4.fr.sq
  have hN := nq_pos R0.fr.q0 R1.fr.q0 R2.fr.q0 R3.fr.q0 R4.fr.q0
  obtain ⟨B, u, ew, B0, BN, hd, hu, su⟩ := w_weighedL (m := 4 * m + 20) (Mp := k + 8 * m + 24) sN hN (by omega) (by omega) (by omega)
    (l0 := (fun k => [c0 0, c0 1, c0 2, c0 3, c0 4].getD k 0, L5 (c0 0) (c0 1) (c0 2) (c0 3) (c0 4), P0, Q0))
    (l1 := (fun k => [c1 0, c1 1, c1 2, c1 3, c1 4].getD k 0, L5 (c1 0) (c1 1) (c1 2) (c1 3) (c1 4), P1, Q1))
    (l2 := (fun k => [c2 0, c2 1, c2 2, c2 3, c2 4].getD k 0, L5 (c2 0) (c2 1) (c2 2) (c2 3) (c2 4), P2, Q2))
    (l3 := (fun k => [c3 0, c3 1, c3 2, c3 3, c3 4].getD k 0, L5 (c3 0) (c3 1) (c3 2) (c3 3) (c3 4), P3, Q3))
    (l4 := (fun k => [c4 0, c4 1, c4 2, c4 3, c4 4].getD k 0, L5 (c4 0) (c4 1) (c4 2) (c4 3) (c4 4), P4, Q4))
    ⟨row_pol R0, R0.fr.q0, nq_0, R0.fr.sp⟩ ⟨row_pol R1, R1.fr.q0, nq_1, R1.fr.sp⟩ ⟨row_pol R2, R2.fr.q0, nq_2, R2.fr.sp⟩ ⟨row_pol R3, R3.fr.q0, nq_3, R3.fr.sp⟩ ⟨row_pol R4, R4.fr.q0, nq_4, R4.fr.sp⟩
  have g0 : Q0 ∣ B := hd _ (List.mem_cons_self)
  have g1 : Q1 ∣ B := hd _ (List.mem_cons_of_mem _ (List.mem_cons_self))
  have g2 : Q2 ∣ B := hd _ (List.mem_cons_of_mem _ (List.mem_cons_of_mem _ (List.mem_cons_self)))
  have g3 : Q3 ∣ B := hd _ (List.mem_cons_of_mem _ (List.mem_cons_of_mem _ (List.mem_cons_of_mem _ (List.mem_cons_self))))
  have g4 : Q4 ∣ B := hd _ (List.mem_cons_of_mem _ (List.mem_cons_of_mem _ (List.mem_cons_of_mem _ (List.mem_cons_of_mem _ (List.mem_cons_self)))))
  have main := thr_call R0 R1 R2 R3 R4 n01 n02 n03 n04 n10 n12 n13 n14 n20 n21 n23 n24 n30 n31 n32 n34 n40 n41 n42 n43 ec ew
  have lin := fo_lin5 (u := u) (w0 := P0 * (B / Q0)) (c0 := c0) (w1 := P1 * (B / Q1)) (c1 := c1) (w2 := P2 * (B / Q2)) (c2 := c2) (w3 := P3 * (B / Q3)) (c3 := c3) (w4 := P4 * (B / Q4)) (c4 := c4) (fun k hk => by
    rw [hu]
    simp only [accL, List.foldl_cons, List.foldl_nil]
    have h5 : k = 0 ∨ k = 1 ∨ k = 2 ∨ k = 3 ∨ k = 4 := by omega
    rcases h5 with rfl | rfl | rfl | rfl | rfl <;> rfl)
  have f0 : Fo (u 0) (u 1) (u 2) (u 3) (u 4) s0.1 s0.2 = P0 * (B / Q0) * V0 := by
    have h := lin s0.1 s0.2
    rw [R0.fv, R1.fo, R2.fo, R3.fo, R4.fo] at h
    have z : ∀ a b : Int, -a * b + b * a = 0 := fun a b => by grind
    simp only [z, Int.mul_zero, Int.zero_mul, Int.add_zero, Int.zero_add] at h
    exact h
  have f1 : Fo (u 0) (u 1) (u 2) (u 3) (u 4) s1.1 s1.2 = P1 * (B / Q1) * V1 := by
    have h := lin s1.1 s1.2
    rw [R1.fv, R0.fo, R2.fo, R3.fo, R4.fo] at h
    have z : ∀ a b : Int, -a * b + b * a = 0 := fun a b => by grind
    simp only [z, Int.mul_zero, Int.zero_mul, Int.add_zero, Int.zero_add] at h
    exact h
  have f2 : Fo (u 0) (u 1) (u 2) (u 3) (u 4) s2.1 s2.2 = P2 * (B / Q2) * V2 := by
    have h := lin s2.1 s2.2
    rw [R2.fv, R0.fo, R1.fo, R3.fo, R4.fo] at h
    have z : ∀ a b : Int, -a * b + b * a = 0 := fun a b => by grind
    simp only [z, Int.mul_zero, Int.zero_mul, Int.add_zero, Int.zero_add] at h
    exact h
  have f3 : Fo (u 0) (u 1) (u 2) (u 3) (u 4) s3.1 s3.2 = P3 * (B / Q3) * V3 := by
    have h := lin s3.1 s3.2
    rw [R3.fv, R0.fo, R1.fo, R2.fo, R4.fo] at h
    have z : ∀ a b : Int, -a * b + b * a = 0 := fun a b => by grind
    simp only [z, Int.mul_zero, Int.zero_mul, Int.add_zero, Int.zero_add] at h
    exact h
  have f4 : Fo (u 0) (u 1) (u 2) (u 3) (u 4) s4.1 s4.2 = P4 * (B / Q4) * V4 := by
    have h := lin s4.1 s4.2
    rw [R4.fv, R0.fo, R1.fo, R2.fo, R3.fo] at h
    have z : ∀ a b : Int, -a * b + b * a = 0 := fun a b => by grind
    simp only [z, Int.mul_zero, Int.zero_mul, Int.add_zero, Int.zero_add] at h
    exact h
  have su' : ∀ k', Sz (6 * k + 52 * m + 200) (u k') := fun k' => (su k').by _ (by omega)
  have y0 := su' 0
  have y1 := su' 1
  have y2 := su' 2
  have y3 := su' 3
  have y4 := su' 4
  have sB : Sz (6 * k + 52 * m + 200) B := (sz_dvd sN hN BN B0).by _ (by omega)
  clear hu lin su su' ew sN hN BN hd ec
  generalize u 0 = Y0, u 1 = Y1, u 2 = Y2, u 3 = Y3, u 4 = Y4 at *
  have gr := gL_red (v := [Y0, Y1, Y2, Y3, Y4, B]) (gL_ne (x := B) (by simp) (by omega))
  have d0 := div_mul (v := [Y0, Y1, Y2, Y3, Y4, B]) (x := Y0) (by simp)
  have d1 := div_mul (v := [Y0, Y1, Y2, Y3, Y4, B]) (x := Y1) (by simp)
  have d2 := div_mul (v := [Y0, Y1, Y2, Y3, Y4, B]) (x := Y2) (by simp)
  have d3 := div_mul (v := [Y0, Y1, Y2, Y3, Y4, B]) (x := Y3) (by simp)
  have d4 := div_mul (v := [Y0, Y1, Y2, Y3, Y4, B]) (x := Y4) (by simp)
  have d5 := div_mul (v := [Y0, Y1, Y2, Y3, Y4, B]) (x := B) (by simp)
  have G0 := mL_pos [Y0, Y1, Y2, Y3, Y4, B]
  have dp := Int.ediv_pos_of_pos_of_dvd B0 (by omega) (mL_dvd (v := [Y0, Y1, Y2, Y3, Y4, B]) (x := B) (by simp))
  exact ⟨Y0 / mL [Y0, Y1, Y2, Y3, Y4, B], Y1 / mL [Y0, Y1, Y2, Y3, Y4, B], Y2 / mL [Y0, Y1, Y2, Y3, Y4, B], Y3 / mL [Y0, Y1, Y2, Y3, Y4, B], Y4 / mL [Y0, Y1, Y2, Y3, Y4, B], B / mL [Y0, Y1, Y2, Y3, Y4, B], main, ⟨dp, gr, y0.div, y1.div, y2.div, y3.div, y4.div, sB.div⟩, thr_fin G0 d0.symm d1.symm d2.symm d3.symm d4.symm d5.symm g0 R0.fr.q0 R0.eq f0, thr_fin G0 d0.symm d1.symm d2.symm d3.symm d4.symm d5.symm g1 R1.fr.q0 R1.eq f1, thr_fin G0 d0.symm d1.symm d2.symm d3.symm d4.symm d5.symm g2 R2.fr.q0 R2.eq f2, thr_fin G0 d0.symm d1.symm d2.symm d3.symm d4.symm d5.symm g3 R3.fr.q0 R3.eq f3, thr_fin G0 d0.symm d1.symm d2.symm d3.symm d4.symm d5.symm g4 R4.fr.q0 R4.eq f4⟩
end PL


set_option Elab.async false
set_option linter.all false
set_option maxRecDepth 100000
set_option maxHeartbeats 400000
namespace K35
open PySem PySem.Spec L2 DL
open PyProof.Rows hiding St
open PL
/-! the text by places -/
def topS (i : Nat) : Stmt := PySem.Challenge.pw_platelights_k35_courses_levels_parts.main.body.getD i (.Pass ⟨0, 0, 0, 0⟩)
abbrev s_is_whole : Stmt := topS 11
abbrev n_is_whole : List Str := ["value"]
theorem sc_is_whole : FnScope n_is_whole ["value"] (defScope s_is_whole) := ⟨rfl, rfl, rfl, by decide +kernel, rfl, by decide +kernel, by decide +kernel⟩
abbrev s_is_row : Stmt := topS 12
abbrev n_is_row : List Str := ["value", "many", "part"]
theorem sc_is_row : FnScope n_is_row ["value", "many"] (defScope s_is_row) := ⟨rfl, rfl, rfl, by decide +kernel, rfl, by decide +kernel, by decide +kernel⟩
abbrev s_divisor_of : Stmt := topS 13
abbrev n_divisor_of : List Str := ["numbers", "divisor", "number"]
theorem sc_divisor_of : FnScope n_divisor_of ["numbers"] (defScope s_divisor_of) := ⟨rfl, rfl, rfl, by decide +kernel, rfl, by decide +kernel, by decide +kernel⟩
abbrev s_is_reduced_row : Stmt := topS 14
abbrev n_is_reduced_row : List Str := ["value", "many"]
theorem sc_is_reduced_row : FnScope n_is_reduced_row ["value", "many"] (defScope s_is_reduced_row) := ⟨rfl, rfl, rfl, by decide +kernel, rfl, by decide +kernel, by decide +kernel⟩
abbrev s_reduced : Stmt := topS 15
abbrev n_reduced : List Str := ["numbers", "divisor", "number"]
theorem sc_reduced : FnScope n_reduced ["numbers"] (defScope s_reduced) := ⟨rfl, rfl, rfl, by decide +kernel, rfl, by decide +kernel, by decide +kernel⟩
abbrev s_dot : Stmt := topS 16
abbrev n_dot : List Str := ["row", "other", "one", "two"]
theorem sc_dot : FnScope n_dot ["row", "other"] (defScope s_dot) := ⟨rfl, rfl, rfl, by decide +kernel, rfl, by decide +kernel, by decide +kernel⟩
abbrev s_combined : Stmt := topS 17
abbrev n_combined : List Str := ["one", "row", "two", "other", "left", "right"]
theorem sc_combined : FnScope n_combined ["one", "row", "two", "other"] (defScope s_combined) := ⟨rfl, rfl, rfl, by decide +kernel, rfl, by decide +kernel, by decide +kernel⟩
abbrev s_ratio : Stmt := topS 20
abbrev n_ratio : List Str := ["p", "q", "divisor"]
theorem sc_ratio : FnScope n_ratio ["p", "q"] (defScope s_ratio) := ⟨rfl, rfl, rfl, by decide +kernel, rfl, by decide +kernel, by decide +kernel⟩
abbrev s_is_fraction : Stmt := topS 22
abbrev n_is_fraction : List Str := ["value"]
theorem sc_is_fraction : FnScope n_is_fraction ["value"] (defScope s_is_fraction) := ⟨rfl, rfl, rfl, by decide +kernel, rfl, by decide +kernel, by decide +kernel⟩
abbrev s_check_fraction : Stmt := topS 23
abbrev n_check_fraction : List Str := ["value"]
theorem sc_check_fraction : FnScope n_check_fraction ["value"] (defScope s_check_fraction) := ⟨rfl, rfl, rfl, by decide +kernel, rfl, by decide +kernel, by decide +kernel⟩
abbrev s_check_below : Stmt := topS 24
abbrev n_check_below : List Str := ["value"]
theorem sc_check_below : FnScope n_check_below ["value"] (defScope s_check_below) := ⟨rfl, rfl, rfl, by decide +kernel, rfl, by decide +kernel, by decide +kernel⟩
abbrev s_trimmed : Stmt := topS 26
abbrev n_trimmed : List Str := ["polynomial", "size"]
theorem sc_trimmed : FnScope n_trimmed ["polynomial"] (defScope s_trimmed) := ⟨rfl, rfl, rfl, by decide +kernel, rfl, by decide +kernel, by decide +kernel⟩
abbrev s_polynomial_product : Stmt := topS 27
abbrev n_polynomial_product : List Str := ["one", "two", "whole", "at", "first", "place", "second"]
theorem sc_polynomial_product : FnScope n_polynomial_product ["one", "two"] (defScope s_polynomial_product) := ⟨rfl, rfl, rfl, by decide +kernel, rfl, by decide +kernel, by decide +kernel⟩
abbrev s_value_at : Stmt := topS 28
abbrev n_value_at : List Str := ["polynomial", "point", "number", "total", "power"]
theorem sc_value_at : FnScope n_value_at ["polynomial", "point"] (defScope s_value_at) := ⟨rfl, rfl, rfl, by decide +kernel, rfl, by decide +kernel, by decide +kernel⟩
abbrev s_is_setting : Stmt := topS 30
abbrev n_is_setting : List Str := ["value"]
theorem sc_is_setting : FnScope n_is_setting ["value"] (defScope s_is_setting) := ⟨rfl, rfl, rfl, by decide +kernel, rfl, by decide +kernel, by decide +kernel⟩
abbrev s_check_setting : Stmt := topS 31
abbrev n_check_setting : List Str := ["value"]
theorem sc_check_setting : FnScope n_check_setting ["value"] (defScope s_check_setting) := ⟨rfl, rfl, rfl, by decide +kernel, rfl, by decide +kernel, by decide +kernel⟩
abbrev s_is_course : Stmt := topS 36
abbrev n_is_course : List Str := ["value"]
theorem sc_is_course : FnScope n_is_course ["value"] (defScope s_is_course) := ⟨rfl, rfl, rfl, by decide +kernel, rfl, by decide +kernel, by decide +kernel⟩
abbrev s_check_course : Stmt := topS 37
abbrev n_check_course : List Str := ["value"]
theorem sc_check_course : FnScope n_check_course ["value"] (defScope s_check_course) := ⟨rfl, rfl, rfl, by decide +kernel, rfl, by decide +kernel, by decide +kernel⟩
abbrev s_course_of : Stmt := topS 38
abbrev n_course_of : List Str := ["numbers", "below"]
theorem sc_course_of : FnScope n_course_of ["numbers", "below"] (defScope s_course_of) := ⟨rfl, rfl, rfl, by decide +kernel, rfl, by decide +kernel, by decide +kernel⟩
abbrev s__length_of : Stmt := topS 39
abbrev n__length_of : List Str := ["setting"]
theorem sc__length_of : FnScope n__length_of ["setting"] (defScope s__length_of) := ⟨rfl, rfl, rfl, by decide +kernel, rfl, by decide +kernel, by decide +kernel⟩
abbrev s_level_at : Stmt := topS 40
abbrev n_level_at : List Str := ["course", "setting", "length"]
theorem sc_level_at : FnScope n_level_at ["course", "setting"] (defScope s_level_at) := ⟨rfl, rfl, rfl, by decide +kernel, rfl, by decide +kernel, by decide +kernel⟩
abbrev s_level_course : Stmt := topS 41
abbrev n_level_course : List Str := ["level", "number"]
theorem sc_level_course : FnScope n_level_course ["level"] (defScope s_level_course) := ⟨rfl, rfl, rfl, by decide +kernel, rfl, by decide +kernel, by decide +kernel⟩
abbrev s_course_less : Stmt := topS 42
abbrev n_course_less : List Str := ["course", "other", "numbers"]
theorem sc_course_less : FnScope n_course_less ["course", "other"] (defScope s_course_less) := ⟨rfl, rfl, rfl, by decide +kernel, rfl, by decide +kernel, by decide +kernel⟩
abbrev s__weighed_course : Stmt := topS 43
abbrev n__weighed_course : List Str := ["rows", "weights", "below", "weight", "total", "row", "whole"]
theorem sc__weighed_course : FnScope n__weighed_course ["rows", "weights"] (defScope s__weighed_course) := ⟨rfl, rfl, rfl, by decide +kernel, rfl, by decide +kernel, by decide +kernel⟩
abbrev s_course_parts : Stmt := topS 44
abbrev n_course_parts : List Str := ["course", "row"]
theorem sc_course_parts : FnScope n_course_parts ["course"] (defScope s_course_parts) := ⟨rfl, rfl, rfl, by decide +kernel, rfl, by decide +kernel, by decide +kernel⟩
abbrev s_first_wrong__is_fraction : Stmt := topS 18
abbrev n_first_wrong__is_fraction : List Str := ["things", "is_right", "most", "index", "thing"]
theorem sc_first_wrong__is_fraction : FnScope n_first_wrong__is_fraction ["things", "is_right", "most"] (defScope s_first_wrong__is_fraction) := ⟨rfl, rfl, rfl, by decide +kernel, rfl, by decide +kernel, by decide +kernel⟩
abbrev s_course_of_parts : Stmt := topS 45
abbrev n_course_of_parts : List Str := ["parts", "index"]
theorem sc_course_of_parts : FnScope n_course_of_parts ["parts"] (defScope s_course_of_parts) := ⟨rfl, rfl, rfl, by decide +kernel, rfl, by decide +kernel, by decide +kernel⟩
abbrev s__is_sample : Stmt := topS 46
abbrev n__is_sample : List Str := ["value"]
theorem sc__is_sample : FnScope n__is_sample ["value"] (defScope s__is_sample) := ⟨rfl, rfl, rfl, by decide +kernel, rfl, by decide +kernel, by decide +kernel⟩
abbrev s__check_samples : Stmt := topS 47
abbrev n__check_samples : List Str := ["samples", "settings", "index", "sample"]
theorem sc__check_samples : FnScope n__check_samples ["samples"] (defScope s__check_samples) := ⟨rfl, rfl, rfl, by decide +kernel, rfl, by decide +kernel, by decide +kernel⟩
abbrev s_course_through : Stmt := topS 48
abbrev n_course_through : List Str := ["samples", "rows", "weights", "setting", "level", "row", "whole", "length", "other", "_"]
theorem sc_course_through : FnScope n_course_through ["samples"] (defScope s_course_through) := ⟨rfl, rfl, rfl, by decide +kernel, rfl, by decide +kernel, by decide +kernel⟩
abbrev s_setting_sum : Stmt := topS 49
abbrev n_setting_sum : List Str := ["setting", "other", "a", "b"]
theorem sc_setting_sum : FnScope n_setting_sum ["setting", "other"] (defScope s_setting_sum) := ⟨rfl, rfl, rfl, by decide +kernel, rfl, by decide +kernel, by decide +kernel⟩
abbrev s_setting_back : Stmt := topS 50
abbrev n_setting_back : List Str := ["setting"]
theorem sc_setting_back : FnScope n_setting_back ["setting"] (defScope s_setting_back) := ⟨rfl, rfl, rfl, by decide +kernel, rfl, by decide +kernel, by decide +kernel⟩
abbrev s__law_source : Stmt := topS 52
abbrev n__law_source : List Str := ["_law_script", "_law_at_here", "_law_own", "_law_mixed", "_law_cell", "_law_state"]
theorem sc__law_source : FnScope n__law_source ["_law_script", "_law_at_here"] (defScope s__law_source) := ⟨rfl, rfl, rfl, by decide +kernel, rfl, by decide +kernel, by decide +kernel⟩
abbrev s__law_draw : Stmt := topS 53
abbrev n__law_draw : List Str := ["_law_source_here", "_law_top", "_law_step", "_law_figure"]
theorem sc__law_draw : FnScope n__law_draw ["_law_source_here", "_law_top"] (defScope s__law_draw) := ⟨rfl, rfl, rfl, by decide +kernel, rfl, by decide +kernel, by decide +kernel⟩
abbrev s__law_pick : Stmt := topS 54
abbrev n__law_pick : List Str := ["_law_source_here", "_law_some"]
theorem sc__law_pick : FnScope n__law_pick ["_law_source_here", "_law_some"] (defScope s__law_pick) := ⟨rfl, rfl, rfl, by decide +kernel, rfl, by decide +kernel, by decide +kernel⟩
abbrev s__law_about : Stmt := topS 55
abbrev n__law_about : List Str := ["_law_source_here", "_law_most"]
theorem sc__law_about : FnScope n__law_about ["_law_source_here", "_law_most"] (defScope s__law_about) := ⟨rfl, rfl, rfl, by decide +kernel, rfl, by decide +kernel, by decide +kernel⟩
abbrev s__law_common : Stmt := topS 56
abbrev n__law_common : List Str := ["_law_row", "_law_found", "_law_part", "_law_one", "_law_two"]
theorem sc__law_common : FnScope n__law_common ["_law_row"] (defScope s__law_common) := ⟨rfl, rfl, rfl, by decide +kernel, rfl, by decide +kernel, by decide +kernel⟩
abbrev s__law_low : Stmt := topS 57
abbrev n__law_low : List Str := ["_law_row", "_law_found", "_law_part"]
theorem sc__law_low : FnScope n__law_low ["_law_row"] (defScope s__law_low) := ⟨rfl, rfl, rfl, by decide +kernel, rfl, by decide +kernel, by decide +kernel⟩
abbrev s__law_ratio : Stmt := topS 58
abbrev n__law_ratio : List Str := ["_law_top", "_law_under", "_law_found"]
theorem sc__law_ratio : FnScope n__law_ratio ["_law_top", "_law_under"] (defScope s__law_ratio) := ⟨rfl, rfl, rfl, by decide +kernel, rfl, by decide +kernel, by decide +kernel⟩
abbrev s__law_slot : Stmt := topS 59
abbrev n__law_slot : List Str := ["_law_source_here", "_law_way", "_law_most"]
theorem sc__law_slot : FnScope n__law_slot ["_law_source_here"] (defScope s__law_slot) := ⟨rfl, rfl, rfl, by decide +kernel, rfl, by decide +kernel, by decide +kernel⟩
abbrev s__law_signed : Stmt := topS 60
abbrev n__law_signed : List Str := ["_law_pair", "_law_a", "_law_b"]
theorem sc__law_signed : FnScope n__law_signed ["_law_pair"] (defScope s__law_signed) := ⟨rfl, rfl, rfl, by decide +kernel, rfl, by decide +kernel, by decide +kernel⟩
abbrev s__law_summed : Stmt := topS 61
abbrev n__law_summed : List Str := ["_law_one", "_law_two"]
theorem sc__law_summed : FnScope n__law_summed ["_law_one", "_law_two"] (defScope s__law_summed) := ⟨rfl, rfl, rfl, by decide +kernel, rfl, by decide +kernel, by decide +kernel⟩
abbrev s__law_form : Stmt := topS 62
abbrev n__law_form : List Str := ["_law_row", "_law_slot_here", "_law_early", "_law_a", "_law_b"]
theorem sc__law_form : FnScope n__law_form ["_law_row", "_law_slot_here"] (defScope s__law_form) := ⟨rfl, rfl, rfl, by decide +kernel, rfl, by decide +kernel, by decide +kernel⟩
abbrev s__law_at : Stmt := topS 63
abbrev n__law_at : List Str := ["_law_row", "_law_slot_here", "_law_length"]
theorem sc__law_at : FnScope n__law_at ["_law_row", "_law_slot_here"] (defScope s__law_at) := ⟨rfl, rfl, rfl, by decide +kernel, rfl, by decide +kernel, by decide +kernel⟩
abbrev s__law_quad : Stmt := topS 64
abbrev n__law_quad : List Str := ["_law_source_here", "_law_way", "_law_most", "_law_p", "_law_q", "_law_r"]
theorem sc__law_quad : FnScope n__law_quad ["_law_source_here"] (defScope s__law_quad) := ⟨rfl, rfl, rfl, by decide +kernel, rfl, by decide +kernel, by decide +kernel⟩
abbrev s__law_folded : Stmt := topS 65
abbrev n__law_folded : List Str := ["_law_one", "_law_two"]
theorem sc__law_folded : FnScope n__law_folded ["_law_one", "_law_two"] (defScope s__law_folded) := ⟨rfl, rfl, rfl, by decide +kernel, rfl, by decide +kernel, by decide +kernel⟩
abbrev s__law_course : Stmt := topS 66
abbrev n__law_course : List Str := ["_law_source_here", "_law_one", "_law_two", "_law_five", "_law_level_five", "_law_way", "_law_mark", "_law_under", "_law_part", "_law_k"]
theorem sc__law_course : FnScope n__law_course ["_law_source_here"] (defScope s__law_course) := ⟨rfl, rfl, rfl, by decide +kernel, rfl, by decide +kernel, by decide +kernel⟩
abbrev s__law_fraction : Stmt := topS 67
abbrev n__law_fraction : List Str := ["_law_source_here", "_law_most"]
theorem sc__law_fraction : FnScope n__law_fraction ["_law_source_here"] (defScope s__law_fraction) := ⟨rfl, rfl, rfl, by decide +kernel, rfl, by decide +kernel, by decide +kernel⟩
abbrev s__law_slots : Stmt := topS 68
abbrev n__law_slots : List Str := ["_law_source_here", "_law_found", "_law_k", "_law_slot_here", "_law_kept"]
theorem sc__law_slots : FnScope n__law_slots ["_law_source_here"] (defScope s__law_slots) := ⟨rfl, rfl, rfl, by decide +kernel, rfl, by decide +kernel, by decide +kernel⟩
abbrev s__law_parts : Stmt := topS 69
abbrev n__law_parts : List Str := ["_law_row", "_law_first", "_law_a", "_law_b", "_law_c", "_law_d", "_law_e", "_law_under"]
theorem sc__law_parts : FnScope n__law_parts ["_law_row"] (defScope s__law_parts) := ⟨rfl, rfl, rfl, by decide +kernel, rfl, by decide +kernel, by decide +kernel⟩
abbrev s__law_laid : Stmt := topS 70
abbrev n__law_laid : List Str := ["_law_parts_here", "_law_under", "_law_part", "_law_m", "_law_p", "_law_q", "_law_u", "_law_v"]
theorem sc__law_laid : FnScope n__law_laid ["_law_parts_here"] (defScope s__law_laid) := ⟨rfl, rfl, rfl, by decide +kernel, rfl, by decide +kernel, by decide +kernel⟩
abbrev s__law_less : Stmt := topS 71
abbrev n__law_less : List Str := ["_law_one", "_law_two", "_law_k"]
theorem sc__law_less : FnScope n__law_less ["_law_one", "_law_two"] (defScope s__law_less) := ⟨rfl, rfl, rfl, by decide +kernel, rfl, by decide +kernel, by decide +kernel⟩
abbrev s__law_are_through : Stmt := topS 72
abbrev n__law_are_through : List Str := ["_law_source_here", "_law_row", "_law_slots_here", "_law_told", "_law_free", "_law_slot_here", "_law_pair"]
theorem sc__law_are_through : FnScope n__law_are_through ["_law_source_here", "_law_row"] (defScope s__law_are_through) := ⟨rfl, rfl, rfl, by decide +kernel, rfl, by decide +kernel, by decide +kernel⟩
abbrev s__law_right : Stmt := topS 73
abbrev n__law_right : List Str := ["_law_source_here", "_law_two", "_law_by", "_law_told", "_law_flat", "_law_drawn", "_law_back", "_law_bad", "_law_one", "_law_mark", "_law_slot_here", "_law_far", "_law_k", "_law_part", "_law_each"]
theorem sc__law_right : FnScope n__law_right ["_law_source_here"] (defScope s__law_right) := ⟨rfl, rfl, rfl, by decide +kernel, rfl, by decide +kernel, by decide +kernel⟩
abbrev s_law : Stmt := topS 74
abbrev n_law : List Str := ["_law_script", "_law_k"]
theorem sc_law : FnScope n_law ["_law_script"] (defScope s_law) := ⟨rfl, rfl, rfl, by decide +kernel, rfl, by decide +kernel, by decide +kernel⟩
/-! what is asked of the top -/
structure Tx (K : PySem.W.Frag) (mg : Str → Option Value) : Prop where
  i_gcd : mg "gcd" = some (.builtin "math.gcd")
  i_lcm : mg "lcm" = some (.builtin "math.lcm")
  b_abs : mg "abs" = none
  b_all : mg "all" = none
  b_divmod : mg "divmod" = none
  b_enumerate : mg "enumerate" = none
  b_int : mg "int" = none
  b_isinstance : mg "isinstance" = none
  b_len : mg "len" = none
  b_list : mg "list" = none
  b_max : mg "max" = none
  b_min : mg "min" = none
  b_range : mg "range" = none
  b_repr : mg "repr" = none
  b_reversed : mg "reversed" = none
  b_sum : mg "sum" = none
  b_tuple : mg "tuple" = none
  b_type : mg "type" = none
  b_zip : mg "zip" = none
  fn_is_fraction : FnIn K mg "is_fraction"
  k__ROUND : ∃ (v : V) (u : Value), mg "_ROUND" = some u ∧ RelV v u ∧ ∀ H, Dp K H v c__ROUND
  k__ROWS_OF_PARTS : ∃ (v : V) (u : Value), mg "_ROWS_OF_PARTS" = some u ∧ RelV v u ∧ ∀ H, Dp K H v c__ROWS_OF_PARTS
  k__COURSES_OF_PARTS : ∃ (v : V) (u : Value), mg "_COURSES_OF_PARTS" = some u ∧ RelV v u ∧ ∀ H, Dp K H v c__COURSES_OF_PARTS
variable {P : Program} {w : World} {K : PySem.W.Frag} {mg : Str → Option Value} {base : Heap}
theorem ok_is_whole {f : Addr} {fd : FuncData} (U : Fun K "is_whole" "is_whole" s_is_whole f fd) (T : Tx K mg)  : FnG P w K mg base 1 f fd ["value"] F_is_whole := by
  refine fng_of (n0 := 0) (k := 0) U sc_is_whole (fun cdv A outer s H E hg hr => ?_)
  exact (rss_one (rs_ret (re_tyIs (he := sn_name) (hnT := (by decide)) (hdT := (by decide)) rfl T.b_type rfl T.b_int (by decide +kernel) (v 0))))
theorem ok_is_row {f : Addr} {fd : FuncData} (U : Fun K "is_row" "is_row" s_is_row f fd) (T : Tx K mg) (C_is_whole : At P w K mg base 1 "is_whole" ["value"] F_is_whole) : FnG P w K mg base 2 f fd ["value", "many"] F_is_row := by
  refine fng_of (n0 := 0) (k := 1) U sc_is_row (fun cdv A outer s H E hg hr => ?_)
  exact (rss_one (rs_ret (re_and (re_tyIs (he := sn_name) (hnT := (by decide)) (hdT := (by decide)) rfl T.b_type rfl T.b_tuple (by decide +kernel) (v 0)) (re_and (re_eq (hu64 hr) (re_len (he := sn_name) rfl T.b_len (ra_cons (hs := sn_name) (v 0) ra_nil)) (v 1)) (re_one (re_all (he := sn_lc) rfl rfl T.b_all (ra_cons (hs := sn_lc) (re_ofL (rl_lc (own := [("part", 2)]) (hs := fun _ => rfl) rfl sc_is_row.nd (ri_seq (v 0)) (blkOk_by (N := n_is_row) (sc := defScope s_is_row) (by decide +kernel)) (fun _ _ _ _ _ => (rg_name (i := 2) sc_is_row.nd rfl (by first | exact Or.inl rfl | exact Or.inr rfl))) (fun _ _ _ _ _ => rts_nil) (fun _ _ _ _ _ => (re_call (hdb := (by decide)) (he := sn_name) (hpl := rfl) C_is_whole hg (hr.mono (by decide)) rfl (ra_cons (hs := sn_name) (v 2) ra_nil))) (by decide))) ra_nil)))))))
theorem ok_divisor_of {f : Addr} {fd : FuncData} (U : Fun K "divisor_of" "divisor_of" s_divisor_of f fd) (T : Tx K mg)  : FnG P w K mg base 1 f fd ["numbers"] F_divisor_of := by
  refine fng_of (n0 := 0) (k := 0) U sc_divisor_of (fun cdv A outer s H E hg hr => ?_)
  exact (rss_cons (rs_set (i := 1) (hs := rfl) (hf := (by first | exact Or.inl rfl | exact Or.inr rfl)) sc_divisor_of.nd rfl (by first | exact Or.inl rfl | exact Or.inr rfl) re_int)
  (rss_cons (rs_for (hs := fun _ => rfl) PassesOwn.never rfl (ri_seq (v 0)) (rg_name (i := 2) sc_divisor_of.nd rfl (by first | exact Or.inl rfl | exact Or.inr rfl)) (fun _ => (rss_one (rs_set (i := 1) (hs := rfl) (hf := (by first | exact Or.inl rfl | exact Or.inr rfl)) sc_divisor_of.nd rfl (by first | exact Or.inl rfl | exact Or.inr rfl) (re_gcd (hdb := (by decide)) (he := sn_name) (hpl := rfl) rfl T.i_gcd (ra_cons (hs := sn_name) (v 1) (ra_cons (hs := sn_name) (v 2) ra_nil)))))))
  (rss_one (rs_ret (v 1)))))
theorem ok_is_reduced_row {f : Addr} {fd : FuncData} (U : Fun K "is_reduced_row" "is_reduced_row" s_is_reduced_row f fd) (T : Tx K mg) (C_divisor_of : At P w K mg base 1 "divisor_of" ["numbers"] F_divisor_of) (C_is_row : At P w K mg base 2 "is_row" ["value", "many"] F_is_row) : FnG P w K mg base 3 f fd ["value", "many"] F_is_reduced_row := by
  refine fng_of (n0 := 0) (k := 2) U sc_is_reduced_row (fun cdv A outer s H E hg hr => ?_)
  exact (rss_one (rs_ret (re_and (re_call (hdb := (by decide)) (he := sn_name) (hpl := rfl) C_is_row hg (hr.mono (by decide)) rfl (ra_cons (hs := sn_name) (v 0) (ra_cons (hs := sn_name) (v 1) ra_nil))) (re_one (re_eq (hu64 hr) (re_call (hdb := (by decide)) (he := sn_name) (hpl := rfl) C_divisor_of hg (hr.mono (by decide)) rfl (ra_cons (hs := sn_name) (v 0) ra_nil)) re_int)))))
theorem ok_reduced {f : Addr} {fd : FuncData} (U : Fun K "reduced" "reduced" s_reduced f fd) (T : Tx K mg) (C_divisor_of : At P w K mg base 1 "divisor_of" ["numbers"] F_divisor_of) : FnG P w K mg base 2 f fd ["numbers"] F_reduced := by
  refine fng_of (n0 := 0) (k := 1) U sc_reduced (fun cdv A outer s H E hg hr => ?_)
  exact (rss_cons (rs_set (i := 1) (hs := rfl) (hf := (by first | exact Or.inl rfl | exact Or.inr rfl)) sc_reduced.nd rfl (by first | exact Or.inl rfl | exact Or.inr rfl) (re_max (he := sn_call) (hpl := rfl) rfl rfl T.b_max (ra_cons (hs := sn_call) (re_call (hdb := (by decide)) (he := sn_name) (hpl := rfl) C_divisor_of hg (hr.mono (by decide)) rfl (ra_cons (hs := sn_name) (v 0) ra_nil)) (ra_cons (hs := sn_const) re_int ra_nil))))
  (rss_one (rs_ret (re_tuple (he := sn_lc) rfl T.b_tuple (ra_cons (hs := sn_lc) (re_ofL (rl_lc (own := [("number", 2)]) (hs := fun _ => rfl) rfl sc_reduced.nd (ri_seq (v 0)) (blkOk_by (N := n_reduced) (sc := defScope s_reduced) (by decide +kernel)) (fun _ _ _ _ _ => (rg_name (i := 2) sc_reduced.nd rfl (by first | exact Or.inl rfl | exact Or.inr rfl))) (fun _ _ _ _ _ => rts_nil) (fun _ _ _ _ _ => (re_div (v 2) (v 1))) (by decide))) ra_nil)))))
theorem ok_dot {f : Addr} {fd : FuncData} (U : Fun K "dot" "dot" s_dot f fd) (T : Tx K mg)  : FnG P w K mg base 1 f fd ["row", "other"] F_dot := by
  refine fng_of (n0 := 0) (k := 0) U sc_dot (fun cdv A outer s H E hg hr => ?_)
  exact (rss_one (rs_ret (re_sum (he := sn_lc) rfl rfl T.b_sum (ra_cons (hs := sn_lc) (re_ofL (rl_lc (own := [("one", 2), ("two", 3)]) (hs := fun _ => rfl) rfl sc_dot.nd (ri_zip (hs := by first | rfl | with_reducible exact sn_name) (hpl := rfl) rfl T.b_zip (ra_cons (hs := sn_name) (v 0) (ra_cons (hs := sn_name) (v 1) ra_nil))) (blkOk_by (N := n_dot) (sc := defScope s_dot) (by decide +kernel)) (fun _ _ _ _ _ => (rg_tupK K rfl (hn := rfl) (hst := rfl) rfl (rgs_cons (hs := rfl) (rg_name (i := 2) sc_dot.nd rfl (by first | exact Or.inl rfl | exact Or.inr rfl)) (rgs_cons (hs := rfl) (rg_name (i := 3) sc_dot.nd rfl (by first | exact Or.inl rfl | exact Or.inr rfl)) rgs_nil)))) (fun _ _ _ _ _ => rts_nil) (fun _ _ _ _ _ => (re_mul (v 2) (v 3))) (by decide))) ra_nil))))
theorem ok_combined {f : Addr} {fd : FuncData} (U : Fun K "combined" "combined" s_combined f fd) (T : Tx K mg)  : FnG P w K mg base 1 f fd ["one", "row", "two", "other"] F_combined := by
  refine fng_of (n0 := 0) (k := 0) U sc_combined (fun cdv A outer s H E hg hr => ?_)
  exact (rss_one (rs_ret (re_tuple (he := sn_lc) rfl T.b_tuple (ra_cons (hs := sn_lc) (re_ofL (rl_lc (own := [("left", 4), ("right", 5)]) (hs := fun _ => rfl) rfl sc_combined.nd (ri_zip (hs := by first | rfl | with_reducible exact sn_name) (hpl := rfl) rfl T.b_zip (ra_cons (hs := sn_name) (v 1) (ra_cons (hs := sn_name) (v 3) ra_nil))) (blkOk_by (N := n_combined) (sc := defScope s_combined) (by decide +kernel)) (fun _ _ _ _ _ => (rg_tupK K rfl (hn := rfl) (hst := rfl) rfl (rgs_cons (hs := rfl) (rg_name (i := 4) sc_combined.nd rfl (by first | exact Or.inl rfl | exact Or.inr rfl)) (rgs_cons (hs := rfl) (rg_name (i := 5) sc_combined.nd rfl (by first | exact Or.inl rfl | exact Or.inr rfl)) rgs_nil)))) (fun _ _ _ _ _ => rts_nil) (fun _ _ _ _ _ => (re_plus (re_mul (v 0) (v 4)) (re_mul (v 2) (v 5)))) (by decide))) ra_nil))))
theorem ok_ratio {f : Addr} {fd : FuncData} (U : Fun K "ratio" "ratio" s_ratio f fd) (T : Tx K mg)  : FnG P w K mg base 1 f fd ["p", "q"] F_ratio := by
  refine fng_of (n0 := 0) (k := 0) U sc_ratio (fun cdv A outer s H E hg hr => ?_)
  exact (rss_cons (rs_set (i := 2) (hs := rfl) (hf := (by first | exact Or.inl rfl | exact Or.inr rfl)) sc_ratio.nd rfl (by first | exact Or.inl rfl | exact Or.inr rfl) (re_if (rt_gt (v 1) re_int) (re_gcd (hdb := (by decide)) (he := sn_name) (hpl := rfl) rfl T.i_gcd (ra_cons (hs := sn_name) (v 0) (ra_cons (hs := sn_name) (v 1) ra_nil))) (re_neg (re_gcd (hdb := (by decide)) (he := sn_name) (hpl := rfl) rfl T.i_gcd (ra_cons (hs := sn_name) (v 0) (ra_cons (hs := sn_name) (v 1) ra_nil))))))
  (rss_one (rs_ret (re_tup (ra_cons (hs := sn_bin) (re_div (v 0) (v 2)) (ra_cons (hs := sn_bin) (re_div (v 1) (v 2)) ra_nil))))))
theorem ok_is_fraction {f : Addr} {fd : FuncData} (U : Fun K "is_fraction" "is_fraction" s_is_fraction f fd) (T : Tx K mg) (C_is_reduced_row : At P w K mg base 3 "is_reduced_row" ["value", "many"] F_is_reduced_row) : FnG P w K mg base 4 f fd ["value"] F_is_fraction := by
  refine fng_of (n0 := 0) (k := 3) U sc_is_fraction (fun cdv A outer s H E hg hr => ?_)
  exact (rss_one (rs_ret (re_and (re_call (hdb := (by decide)) (he := sn_name) (hpl := rfl) C_is_reduced_row hg (hr.mono (by decide)) rfl (ra_cons (hs := sn_name) (v 0) (ra_cons (hs := sn_const) re_int ra_nil))) (re_one (re_gt (re_ix (hs := fun _ _ => rfl) (v 0) re_int) re_int)))))
theorem ok_check_fraction {f : Addr} {fd : FuncData} (U : Fun K "check_fraction" "check_fraction" s_check_fraction f fd) (T : Tx K mg) (C_is_fraction : At P w K mg base 4 "is_fraction" ["value"] F_is_fraction) : FnG P w K mg base 5 f fd ["value"] F_check_fraction := by
  refine fng_of (n0 := 0) (k := 4) U sc_check_fraction (fun cdv A outer s H E hg hr => ?_)
  exact (rss_one (rs_if (rt_not (rt_val (he := fun _ => rfl) (re_call (hdb := (by decide)) (he := sn_name) (hpl := rfl) C_is_fraction hg (hr.mono (by decide)) rfl (ra_cons (hs := sn_name) (v 0) ra_nil)))) (rss_one rs_never) rss_nil))
theorem ok_check_below {f : Addr} {fd : FuncData} (U : Fun K "check_below" "check_below" s_check_below f fd) (T : Tx K mg) (C_is_whole : At P w K mg base 1 "is_whole" ["value"] F_is_whole) : FnG P w K mg base 2 f fd ["value"] F_check_below := by
  refine fng_of (n0 := 0) (k := 1) U sc_check_below (fun cdv A outer s H E hg hr => ?_)
  exact (rss_one (rs_if (rt_w (rw_or (rt_not (rt_val (he := fun _ => rfl) (re_call (hdb := (by decide)) (he := sn_name) (hpl := rfl) C_is_whole hg (hr.mono (by decide)) rfl (ra_cons (hs := sn_name) (v 0) ra_nil)))) (rw_or1 (rt_le (v 0) re_int)))) (rss_one rs_never) rss_nil))
theorem ok_trimmed {f : Addr} {fd : FuncData} (U : Fun K "trimmed" "trimmed" s_trimmed f fd) (T : Tx K mg)  : FnG P w K mg base 1 f fd ["polynomial"] F_trimmed := by
  refine fng_of (n0 := 0) (k := 0) U sc_trimmed (fun cdv A outer s H E hg hr => ?_)
  exact (rss_cons (rs_set (i := 1) (hs := rfl) (hf := (by first | exact Or.inl rfl | exact Or.inr rfl)) sc_trimmed.nd rfl (by first | exact Or.inl rfl | exact Or.inr rfl) (re_len (he := sn_name) rfl T.b_len (ra_cons (hs := sn_name) (v 0) ra_nil)))
  (rss_cons (rs_while PassesOwn.never (rt_w (rw_and (rt_gt (v 1) re_int) (rw_and1 (rt_eq (hu64 hr) (re_ix (hs := fun _ _ => rfl) (v 0) (re_sub (v 1) re_int)) re_int)))) (fun _ => (rss_one (rs_aug (i := 1) (hf := (by first | exact Or.inl rfl | exact Or.inr rfl)) sc_trimmed.nd rfl (by first | exact Or.inl rfl | exact Or.inr rfl) ipd_sub re_int))))
  (rss_one (rs_ret (re_tuple (he := sn_sub) rfl T.b_tuple (ra_cons (hs := sn_sub) (re_sl (v 0) ro_none (ro_some (v 1))) ra_nil))))))
theorem ok_polynomial_product {f : Addr} {fd : FuncData} (U : Fun K "polynomial_product" "polynomial_product" s_polynomial_product f fd) (T : Tx K mg) (C_trimmed : At P w K mg base 1 "trimmed" ["polynomial"] F_trimmed) : FnG P w K mg base 2 f fd ["one", "two"] F_polynomial_product := by
  refine fng_of (n0 := 0) (k := 1) U sc_polynomial_product (fun cdv A outer s H E hg hr => ?_)
  exact (rss_cons (rs_new (i := 2) (hs := rfl) (hf := (by first | exact Or.inl rfl | exact Or.inr rfl)) sc_polynomial_product.nd rfl (by first | exact Or.inl rfl | exact Or.inr rfl) (rl_rep (rl_lst (ra_cons (hs := sn_const) re_int ra_nil)) (re_plus (re_len (he := sn_name) rfl T.b_len (ra_cons (hs := sn_name) (v 0) ra_nil)) (re_len (he := sn_name) rfl T.b_len (ra_cons (hs := sn_name) (v 1) ra_nil)))))
  (rss_cons (rs_for (hs := fun _ => rfl) PassesOwn.never rfl (ri_enum (hs := rfl) rfl T.b_enumerate (ra_cons (hs := sn_name) (v 0) ra_nil)) (rg_tupK K rfl (hn := rfl) (hst := rfl) rfl (rgs_cons (hs := rfl) (rg_name (i := 3) sc_polynomial_product.nd rfl (by first | exact Or.inl rfl | exact Or.inr rfl)) (rgs_cons (hs := rfl) (rg_name (i := 4) sc_polynomial_product.nd rfl (by first | exact Or.inl rfl | exact Or.inr rfl)) rgs_nil))) (fun _ => (rss_one (rs_for (hs := fun _ => rfl) PassesOwn.never rfl (ri_enum (hs := rfl) rfl T.b_enumerate (ra_cons (hs := sn_name) (v 1) ra_nil)) (rg_tupK K rfl (hn := rfl) (hst := rfl) rfl (rgs_cons (hs := rfl) (rg_name (i := 5) sc_polynomial_product.nd rfl (by first | exact Or.inl rfl | exact Or.inr rfl)) (rgs_cons (hs := rfl) (rg_name (i := 6) sc_polynomial_product.nd rfl (by first | exact Or.inl rfl | exact Or.inr rfl)) rgs_nil))) (fun _ => (rss_one (rs_augc (i := 2) (ha := fun _ _ _ => rfl) (hd := (by decide)) (hcd := (by decide)) rfl (by first | exact Or.inl rfl | exact Or.inr (Or.inl rfl) | exact Or.inr (Or.inr rfl)) (re_plus (v 3) (v 5)) ipd_add (re_mul (v 4) (v 6)))))))))
  (rss_frz (rss_one (rs_ret (re_call (hdb := (by decide)) (he := sn_name) (hpl := rfl) C_trimmed hg (hr.mono (by decide)) rfl (ra_cons (hs := sn_name) (v 2) ra_nil)))))))
theorem ok_value_at {f : Addr} {fd : FuncData} (U : Fun K "value_at" "value_at" s_value_at f fd) (T : Tx K mg)  : FnG P w K mg base 1 f fd ["polynomial", "point"] F_value_at := by
  refine fng_of (n0 := 0) (k := 0) U sc_value_at (fun cdv A outer s H E hg hr => ?_)
  exact (rss_cons (rs_asg (hs := rfl) (hw := rfl) (h1 := rfl) (re_tup (ra_cons (hs := sn_const) re_int (ra_cons (hs := sn_const) re_int ra_nil))) (rg_tupK K rfl (hn := rfl) (hst := rfl) rfl (rgs_cons (hs := rfl) (rg_name (i := 3) sc_value_at.nd rfl (by first | exact Or.inl rfl | exact Or.inr rfl)) (rgs_cons (hs := rfl) (rg_name (i := 4) sc_value_at.nd rfl (by first | exact Or.inl rfl | exact Or.inr rfl)) rgs_nil))))
  (rss_cons (rs_for (hs := fun _ => rfl) PassesOwn.never rfl (ri_rev (hs := sn_name) rfl T.b_reversed (v 0)) (rg_name (i := 2) sc_value_at.nd rfl (by first | exact Or.inl rfl | exact Or.inr rfl)) (fun _ => (rss_cons (rs_set (i := 3) (hs := rfl) (hf := (by first | exact Or.inl rfl | exact Or.inr rfl)) sc_value_at.nd rfl (by first | exact Or.inl rfl | exact Or.inr rfl) (re_plus (re_mul (v 3) (re_ix (hs := fun _ _ => rfl) (v 1) re_int)) (re_mul (v 2) (v 4))))
  (rss_one (rs_aug (i := 4) (hf := (by first | exact Or.inl rfl | exact Or.inr rfl)) sc_value_at.nd rfl (by first | exact Or.inl rfl | exact Or.inr rfl) ipd_mul (re_ix (hs := fun _ _ => rfl) (v 1) re_int))))))
  (rss_one (rs_ret (v 3)))))
theorem ok_is_setting {f : Addr} {fd : FuncData} (U : Fun K "is_setting" "is_setting" s_is_setting f fd) (T : Tx K mg) (C_is_reduced_row : At P w K mg base 3 "is_reduced_row" ["value", "many"] F_is_reduced_row) : FnG P w K mg base 4 f fd ["value"] F_is_setting := by
  refine fng_of (n0 := 0) (k := 3) U sc_is_setting (fun cdv A outer s H E hg hr => ?_)
  exact (rss_one (rs_ret (re_and (re_call (hdb := (by decide)) (he := sn_name) (hpl := rfl) C_is_reduced_row hg (hr.mono (by decide)) rfl (ra_cons (hs := sn_name) (v 0) (ra_cons (hs := sn_const) re_int ra_nil))) (re_one (re_or (re_gt (re_ix (hs := fun _ _ => rfl) (v 0) re_int) re_int) (re_one (re_eq (hu64 hr) (v 0) (re_tup (ra_cons (hs := sn_const) re_int (ra_cons (hs := sn_const) re_int ra_nil))))))))))
theorem ok_check_setting {f : Addr} {fd : FuncData} (U : Fun K "check_setting" "check_setting" s_check_setting f fd) (T : Tx K mg) (C_is_setting : At P w K mg base 4 "is_setting" ["value"] F_is_setting) : FnG P w K mg base 5 f fd ["value"] F_check_setting := by
  refine fng_of (n0 := 0) (k := 4) U sc_check_setting (fun cdv A outer s H E hg hr => ?_)
  exact (rss_one (rs_if (rt_not (rt_val (he := fun _ => rfl) (re_call (hdb := (by decide)) (he := sn_name) (hpl := rfl) C_is_setting hg (hr.mono (by decide)) rfl (ra_cons (hs := sn_name) (v 0) ra_nil)))) (rss_one rs_never) rss_nil))
theorem ok_is_course {f : Addr} {fd : FuncData} (U : Fun K "is_course" "is_course" s_is_course f fd) (T : Tx K mg) (C_is_reduced_row : At P w K mg base 3 "is_reduced_row" ["value", "many"] F_is_reduced_row) : FnG P w K mg base 4 f fd ["value"] F_is_course := by
  refine fng_of (n0 := 0) (k := 3) U sc_is_course (fun cdv A outer s H E hg hr => ?_)
  exact (rss_one (rs_ret (re_and (re_call (hdb := (by decide)) (he := sn_name) (hpl := rfl) C_is_reduced_row hg (hr.mono (by decide)) rfl (ra_cons (hs := sn_name) (v 0) (ra_cons (hs := sn_const) re_int ra_nil))) (re_one (re_gt (re_ix (hs := fun _ _ => rfl) (v 0) re_int) re_int)))))
theorem ok_check_course {f : Addr} {fd : FuncData} (U : Fun K "check_course" "check_course" s_check_course f fd) (T : Tx K mg) (C_is_course : At P w K mg base 4 "is_course" ["value"] F_is_course) : FnG P w K mg base 5 f fd ["value"] F_check_course := by
  refine fng_of (n0 := 0) (k := 4) U sc_check_course (fun cdv A outer s H E hg hr => ?_)
  exact (rss_one (rs_if (rt_not (rt_val (he := fun _ => rfl) (re_call (hdb := (by decide)) (he := sn_name) (hpl := rfl) C_is_course hg (hr.mono (by decide)) rfl (ra_cons (hs := sn_name) (v 0) ra_nil)))) (rss_one rs_never) rss_nil))
theorem ok_course_of {f : Addr} {fd : FuncData} (U : Fun K "course_of" "course_of" s_course_of f fd) (T : Tx K mg) (C_check_below : At P w K mg base 2 "check_below" ["value"] F_check_below) (C_is_row : At P w K mg base 2 "is_row" ["value", "many"] F_is_row) (C_reduced : At P w K mg base 2 "reduced" ["numbers"] F_reduced) : FnG P w K mg base 3 f fd ["numbers", "below"] F_course_of := by
  refine fng_of (n0 := 0) (k := 2) U sc_course_of (fun cdv A outer s H E hg hr => ?_)
  exact (rss_cons (rs_if (rt_not (rt_val (he := fun _ => rfl) (re_call (hdb := (by decide)) (he := sn_name) (hpl := rfl) C_is_row hg (hr.mono (by decide)) rfl (ra_cons (hs := sn_name) (v 0) (ra_cons (hs := sn_const) re_int ra_nil))))) (rss_one rs_never) rss_nil)
  (rss_cons (rs_drop (hs := rfl) (re_call (hdb := (by decide)) (he := sn_name) (hpl := rfl) C_check_below hg (hr.mono (by decide)) rfl (ra_cons (hs := sn_name) (v 1) ra_nil)))
  (rss_one (rs_ret (re_call (hdb := (by decide)) (he := sn_tup) (hpl := rfl) C_reduced hg (hr.mono (by decide)) rfl (ra_cons (hs := sn_tup) (re_tup (ra_star (hs := by rfl) (v 0) (ra_cons (hs := sn_name) (v 1) ra_nil))) ra_nil))))))
theorem ok__length_of {f : Addr} {fd : FuncData} (U : Fun K "_length_of" "_length_of" s__length_of f fd) (T : Tx K mg)  : FnG P w K mg base 1 f fd ["setting"] F__length_of := by
  refine fng_of (n0 := 0) (k := 0) U sc__length_of (fun cdv A outer s H E hg hr => ?_)
  exact (rss_one (rs_ret (re_plus (re_mul (re_ix (hs := fun _ _ => rfl) (v 0) re_int) (re_ix (hs := fun _ _ => rfl) (v 0) re_int)) (re_mul (re_ix (hs := fun _ _ => rfl) (v 0) re_int) (re_ix (hs := fun _ _ => rfl) (v 0) re_int)))))
theorem ok_level_at {f : Addr} {fd : FuncData} (U : Fun K "level_at" "level_at" s_level_at f fd) (T : Tx K mg) (C__length_of : At P w K mg base 1 "_length_of" ["setting"] F__length_of) (C_check_course : At P w K mg base 5 "check_course" ["value"] F_check_course) (C_check_setting : At P w K mg base 5 "check_setting" ["value"] F_check_setting) (C_ratio : At P w K mg base 1 "ratio" ["p", "q"] F_ratio) (C_value_at : At P w K mg base 1 "value_at" ["polynomial", "point"] F_value_at) : FnG P w K mg base 6 f fd ["course", "setting"] F_level_at := by
  refine fng_of (n0 := 0) (k := 5) U sc_level_at (fun cdv A outer s H E hg hr => ?_)
  exact (rss_cons (rs_drop (hs := rfl) (re_call (hdb := (by decide)) (he := sn_name) (hpl := rfl) C_check_course hg (hr.mono (by decide)) rfl (ra_cons (hs := sn_name) (v 0) ra_nil)))
  (rss_cons (rs_drop (hs := rfl) (re_call (hdb := (by decide)) (he := sn_name) (hpl := rfl) C_check_setting hg (hr.mono (by decide)) rfl (ra_cons (hs := sn_name) (v 1) ra_nil)))
  (rss_cons (rs_set (i := 2) (hs := rfl) (hf := (by first | exact Or.inl rfl | exact Or.inr rfl)) sc_level_at.nd rfl (by first | exact Or.inl rfl | exact Or.inr rfl) (re_call (hdb := (by decide)) (he := sn_name) (hpl := rfl) C__length_of hg (hr.mono (by decide)) rfl (ra_cons (hs := sn_name) (v 1) ra_nil)))
  (rss_one (rs_ret (re_call (hdb := (by decide)) (he := sn_call) (hpl := rfl) C_ratio hg (hr.mono (by decide)) rfl (ra_cons (hs := sn_call) (re_call (hdb := (by decide)) (he := sn_sub) (hpl := rfl) C_value_at hg (hr.mono (by decide)) rfl (ra_cons (hs := sn_sub) (re_sl (v 0) ro_none (ro_some re_int)) (ra_cons (hs := sn_name) (v 1) ra_nil))) (ra_cons (hs := sn_bin) (re_mul (re_mul (re_ix (hs := fun _ _ => rfl) (v 0) re_int) (v 2)) (v 2)) ra_nil))))))))
theorem ok_level_course {f : Addr} {fd : FuncData} (U : Fun K "level_course" "level_course" s_level_course f fd) (T : Tx K mg) (C_check_fraction : At P w K mg base 5 "check_fraction" ["value"] F_check_fraction) (C_reduced : At P w K mg base 2 "reduced" ["numbers"] F_reduced) : FnG P w K mg base 6 f fd ["level"] F_level_course := by
  obtain ⟨v__ROUND, u__ROUND, m__ROUND, r__ROUND, d__ROUND⟩ := T.k__ROUND
  refine fng_of (n0 := 0) (k := 5) U sc_level_course (fun cdv A outer s H E hg hr => ?_)
  exact (rss_cons (rs_drop (hs := rfl) (re_call (hdb := (by decide)) (he := sn_name) (hpl := rfl) C_check_fraction hg (hr.mono (by decide)) rfl (ra_cons (hs := sn_name) (v 0) ra_nil)))
  (rss_one (rs_ret (re_call (hdb := (by decide)) (he := sn_tup) (hpl := rfl) C_reduced hg (hr.mono (by decide)) rfl (ra_cons (hs := sn_tup) (re_tup (ra_star (hs := by rfl) (re_ofL (rl_lc (own := [("number", 1)]) (hs := fun _ => rfl) rfl sc_level_course.nd (ri_seq (re_glob (v := v__ROUND) rfl m__ROUND r__ROUND d__ROUND)) (blkOk_by (N := n_level_course) (sc := defScope s_level_course) (by decide +kernel)) (fun _ _ _ _ _ => (rg_name (i := 1) sc_level_course.nd rfl (by first | exact Or.inl rfl | exact Or.inr rfl))) (fun _ _ _ _ _ => rts_nil) (fun _ _ _ _ _ => (re_mul (re_ix (hs := fun _ _ => rfl) (v 0) re_int) (v 1))) (by decide))) (ra_cons (hs := sn_sub) (re_ix (hs := fun _ _ => rfl) (v 0) re_int) ra_nil))) ra_nil)))))
theorem ok_course_less {f : Addr} {fd : FuncData} (U : Fun K "course_less" "course_less" s_course_less f fd) (T : Tx K mg) (C_check_course : At P w K mg base 5 "check_course" ["value"] F_check_course) (C_combined : At P w K mg base 1 "combined" ["one", "row", "two", "other"] F_combined) (C_reduced : At P w K mg base 2 "reduced" ["numbers"] F_reduced) : FnG P w K mg base 6 f fd ["course", "other"] F_course_less := by
  refine fng_of (n0 := 0) (k := 5) U sc_course_less (fun cdv A outer s H E hg hr => ?_)
  exact (rss_cons (rs_drop (hs := rfl) (re_call (hdb := (by decide)) (he := sn_name) (hpl := rfl) C_check_course hg (hr.mono (by decide)) rfl (ra_cons (hs := sn_name) (v 0) ra_nil)))
  (rss_cons (rs_drop (hs := rfl) (re_call (hdb := (by decide)) (he := sn_name) (hpl := rfl) C_check_course hg (hr.mono (by decide)) rfl (ra_cons (hs := sn_name) (v 1) ra_nil)))
  (rss_cons (rs_set (i := 2) (hs := rfl) (hf := (by first | exact Or.inl rfl | exact Or.inr rfl)) sc_course_less.nd rfl (by first | exact Or.inl rfl | exact Or.inr rfl) (re_call (hdb := (by decide)) (he := sn_sub) (hpl := rfl) C_combined hg (hr.mono (by decide)) rfl (ra_cons (hs := sn_sub) (re_ix (hs := fun _ _ => rfl) (v 1) re_int) (ra_cons (hs := sn_sub) (re_sl (v 0) ro_none (ro_some re_int)) (ra_cons (hs := sn_un) (re_neg (re_ix (hs := fun _ _ => rfl) (v 0) re_int)) (ra_cons (hs := sn_sub) (re_sl (v 1) ro_none (ro_some re_int)) ra_nil))))))
  (rss_one (rs_ret (re_call (hdb := (by decide)) (he := sn_tup) (hpl := rfl) C_reduced hg (hr.mono (by decide)) rfl (ra_cons (hs := sn_tup) (re_tup (ra_star (hs := by rfl) (v 2) (ra_cons (hs := sn_bin) (re_mul (re_ix (hs := fun _ _ => rfl) (v 0) re_int) (re_ix (hs := fun _ _ => rfl) (v 1) re_int)) ra_nil))) ra_nil)))))))
theorem ok__weighed_course {f : Addr} {fd : FuncData} (U : Fun K "_weighed_course" "_weighed_course" s__weighed_course f fd) (T : Tx K mg) (C_combined : At P w K mg base 1 "combined" ["one", "row", "two", "other"] F_combined) (C_reduced : At P w K mg base 2 "reduced" ["numbers"] F_reduced) : FnG P w K mg base 3 f fd ["rows", "weights"] F__weighed_course := by
  refine fng_of (n0 := 0) (k := 2) U sc__weighed_course (fun cdv A outer s H E hg hr => ?_)
  exact (rss_cons (rs_set (i := 2) (hs := rfl) (hf := (by first | exact Or.inl rfl | exact Or.inr rfl)) sc__weighed_course.nd rfl (by first | exact Or.inl rfl | exact Or.inr rfl) re_int)
  (rss_cons (rs_for (hs := fun _ => rfl) PassesOwn.never rfl (ri_seq (v 1)) (rg_name (i := 3) sc__weighed_course.nd rfl (by first | exact Or.inl rfl | exact Or.inr rfl)) (fun _ => (rss_one (rs_set (i := 2) (hs := rfl) (hf := (by first | exact Or.inl rfl | exact Or.inr rfl)) sc__weighed_course.nd rfl (by first | exact Or.inl rfl | exact Or.inr rfl) (re_lcm (hdb := (by decide)) (he := sn_name) (hpl := rfl) rfl T.i_lcm (ra_cons (hs := sn_name) (v 2) (ra_cons (hs := sn_sub) (re_ix (hs := fun _ _ => rfl) (v 3) re_int) ra_nil)))))))
  (rss_cons (rs_set (i := 4) (hs := rfl) (hf := (by first | exact Or.inl rfl | exact Or.inr rfl)) sc__weighed_course.nd rfl (by first | exact Or.inl rfl | exact Or.inr rfl) (re_tup (ra_cons (hs := sn_const) re_int (ra_cons (hs := sn_const) re_int (ra_cons (hs := sn_const) re_int (ra_cons (hs := sn_const) re_int (ra_cons (hs := sn_const) re_int ra_nil)))))))
  (rss_cons (rs_for (hs := fun _ => rfl) PassesOwn.never rfl (ri_zip (hs := by first | rfl | with_reducible exact sn_name) (hpl := rfl) rfl T.b_zip (ra_cons (hs := sn_name) (v 0) (ra_cons (hs := sn_name) (v 1) ra_nil))) (rg_tupK K rfl (hn := rfl) (hst := rfl) rfl (rgs_cons (hs := rfl) (rg_name (i := 5) sc__weighed_course.nd rfl (by first | exact Or.inl rfl | exact Or.inr rfl)) (rgs_cons (hs := rfl) (rg_name (i := 3) sc__weighed_course.nd rfl (by first | exact Or.inl rfl | exact Or.inr rfl)) rgs_nil))) (fun _ => (rss_cons (rs_set (i := 6) (hs := rfl) (hf := (by first | exact Or.inl rfl | exact Or.inr rfl)) sc__weighed_course.nd rfl (by first | exact Or.inl rfl | exact Or.inr rfl) (re_ofL (rl_lst (ra_star (hs := by rfl) (v 5) (ra_star (hs := by rfl) (re_rep (rl_lst (ra_cons (hs := sn_const) re_int ra_nil)) (re_sub re_int (re_len (he := sn_name) rfl T.b_len (ra_cons (hs := sn_name) (v 5) ra_nil)))) ra_nil)))))
  (rss_one (rs_set (i := 4) (hs := rfl) (hf := (by first | exact Or.inl rfl | exact Or.inr rfl)) sc__weighed_course.nd rfl (by first | exact Or.inl rfl | exact Or.inr rfl) (re_call (hdb := (by decide)) (he := sn_const) (hpl := rfl) C_combined hg (hr.mono (by decide)) rfl (ra_cons (hs := sn_const) re_int (ra_cons (hs := sn_name) (v 4) (ra_cons (hs := sn_bin) (re_mul (re_ix (hs := fun _ _ => rfl) (v 3) re_int) (re_div (v 2) (re_ix (hs := fun _ _ => rfl) (v 3) re_int))) (ra_cons (hs := sn_name) (v 6) ra_nil))))))))))
  (rss_one (rs_ret (re_call (hdb := (by decide)) (he := sn_tup) (hpl := rfl) C_reduced hg (hr.mono (by decide)) rfl (ra_cons (hs := sn_tup) (re_tup (ra_star (hs := by rfl) (v 4) (ra_cons (hs := sn_name) (v 2) ra_nil))) ra_nil))))))))
theorem ok_course_parts {f : Addr} {fd : FuncData} (U : Fun K "course_parts" "course_parts" s_course_parts f fd) (T : Tx K mg) (C_check_course : At P w K mg base 5 "check_course" ["value"] F_check_course) (C_dot : At P w K mg base 1 "dot" ["row", "other"] F_dot) (C_ratio : At P w K mg base 1 "ratio" ["p", "q"] F_ratio) : FnG P w K mg base 6 f fd ["course"] F_course_parts := by
  obtain ⟨v__ROWS_OF_PARTS, u__ROWS_OF_PARTS, m__ROWS_OF_PARTS, r__ROWS_OF_PARTS, d__ROWS_OF_PARTS⟩ := T.k__ROWS_OF_PARTS
  refine fng_of (n0 := 0) (k := 5) U sc_course_parts (fun cdv A outer s H E hg hr => ?_)
  exact (rss_cons (rs_drop (hs := rfl) (re_call (hdb := (by decide)) (he := sn_name) (hpl := rfl) C_check_course hg (hr.mono (by decide)) rfl (ra_cons (hs := sn_name) (v 0) ra_nil)))
  (rss_one (rs_ret (re_tuple (he := sn_lc) rfl T.b_tuple (ra_cons (hs := sn_lc) (re_ofL (rl_lc (own := [("row", 1)]) (hs := fun _ => rfl) rfl sc_course_parts.nd (ri_seq (re_glob (v := v__ROWS_OF_PARTS) rfl m__ROWS_OF_PARTS r__ROWS_OF_PARTS d__ROWS_OF_PARTS)) (blkOk_by (N := n_course_parts) (sc := defScope s_course_parts) (by decide +kernel)) (fun _ _ _ _ _ => (rg_name (i := 1) sc_course_parts.nd rfl (by first | exact Or.inl rfl | exact Or.inr rfl))) (fun _ _ _ _ _ => rts_nil) (fun _ _ _ _ _ => (re_call (hdb := (by decide)) (he := sn_call) (hpl := rfl) C_ratio hg (hr.mono (by decide)) rfl (ra_cons (hs := sn_call) (re_call (hdb := (by decide)) (he := sn_name) (hpl := rfl) C_dot hg (hr.mono (by decide)) rfl (ra_cons (hs := sn_name) (v 1) (ra_cons (hs := sn_sub) (re_sl (v 0) ro_none (ro_some re_int)) ra_nil))) (ra_cons (hs := sn_bin) (re_mul re_int (re_ix (hs := fun _ _ => rfl) (v 0) re_int)) ra_nil)))) (by decide))) ra_nil)))))
theorem ok_first_wrong__is_fraction {f : Addr} {fd : FuncData} (U : Fun K "first_wrong" "first_wrong" s_first_wrong__is_fraction f fd) (T : Tx K mg) (C_is_fraction : At P w K mg base 4 "is_fraction" ["value"] F_is_fraction) : FnG P w K mg base 5 f fd ["things", "is_right", "most"] F_first_wrong__is_fraction := by
  refine fng_of (n0 := 0) (k := 4) U sc_first_wrong__is_fraction (fun cdv A outer s H E hg hr => ?_)
  exact (rss_cons (rs_for (hs := fun _ => rfl) PassesOwn.never rfl (ri_enum (hs := rfl) rfl T.b_enumerate (ra_cons (hs := sn_name) (v 0) ra_nil)) (rg_tupK K rfl (hn := rfl) (hst := rfl) rfl (rgs_cons (hs := rfl) (rg_name (i := 3) sc_first_wrong__is_fraction.nd rfl (by first | exact Or.inl rfl | exact Or.inr rfl)) (rgs_cons (hs := rfl) (rg_name (i := 4) sc_first_wrong__is_fraction.nd rfl (by first | exact Or.inl rfl | exact Or.inr rfl)) rgs_nil))) (fun _ => (rss_one (rs_if (rt_w (rw_or (rt_eq (hu64 hr) (v 3) (v 2)) (rw_or1 (rt_not (rt_val (he := fun _ => rfl) (re_callV (i := 1) (hdb := (by decide)) (hcd := (by decide)) (he := sn_name) (hpl := rfl) C_is_fraction T.fn_is_fraction hg (hr.mono (by decide)) rfl (by first | exact Or.inl rfl | exact Or.inr (Or.inl rfl) | exact Or.inr (Or.inr rfl)) (ra_cons (hs := sn_name) (v 4) ra_nil))))))) (rss_one (rs_ret (v 3))) rss_nil))))
  (rss_one (rs_ret re_non)))
theorem ok_course_of_parts {f : Addr} {fd : FuncData} (U : Fun K "course_of_parts" "course_of_parts" s_course_of_parts f fd) (T : Tx K mg) (C__weighed_course : At P w K mg base 3 "_weighed_course" ["rows", "weights"] F__weighed_course) (C_first_wrong__is_fraction : At P w K mg base 5 "first_wrong" ["things", "is_right", "most"] F_first_wrong__is_fraction) : FnG P w K mg base 6 f fd ["parts"] F_course_of_parts := by
  obtain ⟨v__COURSES_OF_PARTS, u__COURSES_OF_PARTS, m__COURSES_OF_PARTS, r__COURSES_OF_PARTS, d__COURSES_OF_PARTS⟩ := T.k__COURSES_OF_PARTS
  refine fng_of (n0 := 0) (k := 5) U sc_course_of_parts (fun cdv A outer s H E hg hr => ?_)
  exact (rss_cons (rs_if (rt_w (rw_or (rt_tyNot (he := sn_name) (hnT := (by decide)) (hdT := (by decide)) rfl T.b_type rfl T.b_tuple (by decide +kernel) (v 0)) (rw_or1 (rt_ne (hu64 hr) (re_len (he := sn_name) rfl T.b_len (ra_cons (hs := sn_name) (v 0) ra_nil)) re_int)))) (rss_one rs_never) rss_nil)
  (rss_cons (rs_set (i := 1) (hs := rfl) (hf := (by first | exact Or.inl rfl | exact Or.inr rfl)) sc_course_of_parts.nd rfl (by first | exact Or.inl rfl | exact Or.inr rfl) (re_call (hdb := (by decide)) (he := sn_name) (hpl := rfl) C_first_wrong__is_fraction hg (hr.mono (by decide)) rfl (ra_cons (hs := sn_name) (v 0) (ra_fn (hdb := (by decide)) rfl T.fn_is_fraction (ra_cons (hs := sn_const) re_int ra_nil)))))
  (rss_cons (rs_if (rt_notN (hm := nomark _) (v 1) re_non) (rss_one rs_never) rss_nil)
  (rss_one (rs_ret (re_call (hdb := (by decide)) (he := sn_name) (hpl := rfl) C__weighed_course hg (hr.mono (by decide)) rfl (ra_cons (hs := sn_name) (re_glob (v := v__COURSES_OF_PARTS) rfl m__COURSES_OF_PARTS r__COURSES_OF_PARTS d__COURSES_OF_PARTS) (ra_cons (hs := sn_name) (v 0) ra_nil))))))))
theorem ok__is_sample {f : Addr} {fd : FuncData} (U : Fun K "_is_sample" "_is_sample" s__is_sample f fd) (T : Tx K mg) (C_is_fraction : At P w K mg base 4 "is_fraction" ["value"] F_is_fraction) (C_is_setting : At P w K mg base 4 "is_setting" ["value"] F_is_setting) : FnG P w K mg base 5 f fd ["value"] F__is_sample := by
  refine fng_of (n0 := 0) (k := 4) U sc__is_sample (fun cdv A outer s H E hg hr => ?_)
  exact (rss_one (rs_ret (re_and (re_tyIs (he := sn_name) (hnT := (by decide)) (hdT := (by decide)) rfl T.b_type rfl T.b_tuple (by decide +kernel) (v 0)) (re_and (re_eq (hu64 hr) (re_len (he := sn_name) rfl T.b_len (ra_cons (hs := sn_name) (v 0) ra_nil)) re_int) (re_and (re_call (hdb := (by decide)) (he := sn_sub) (hpl := rfl) C_is_setting hg (hr.mono (by decide)) rfl (ra_cons (hs := sn_sub) (re_ix (hs := fun _ _ => rfl) (v 0) re_int) ra_nil)) (re_one (re_call (hdb := (by decide)) (he := sn_sub) (hpl := rfl) C_is_fraction hg (hr.mono (by decide)) rfl (ra_cons (hs := sn_sub) (re_ix (hs := fun _ _ => rfl) (v 0) re_int) ra_nil))))))))
theorem ok__check_samples {f : Addr} {fd : FuncData} (U : Fun K "_check_samples" "_check_samples" s__check_samples f fd) (T : Tx K mg) (C__is_sample : At P w K mg base 5 "_is_sample" ["value"] F__is_sample) : FnG P w K mg base 6 f fd ["samples"] F__check_samples := by
  refine fng_of (n0 := 0) (k := 5) U sc__check_samples (fun cdv A outer s H E hg hr => ?_)
  exact (rss_cons (rs_if (rt_w (rw_or (rt_tyNot (he := sn_name) (hnT := (by decide)) (hdT := (by decide)) rfl T.b_type rfl T.b_tuple (by decide +kernel) (v 0)) (rw_or1 (rt_ne (hu64 hr) (re_len (he := sn_name) rfl T.b_len (ra_cons (hs := sn_name) (v 0) ra_nil)) re_int)))) (rss_one rs_never) rss_nil)
  (rss_cons (rs_new (i := 1) (hs := rfl) (hf := (by first | exact Or.inl rfl | exact Or.inr rfl)) sc__check_samples.nd rfl (by first | exact Or.inl rfl | exact Or.inr rfl) (rl_lst ra_nil))
  (rss_cons (rs_for (hs := fun _ => rfl) PassesOwn.never rfl (ri_enum (hs := rfl) rfl T.b_enumerate (ra_cons (hs := sn_name) (v 0) ra_nil)) (rg_tupK K rfl (hn := rfl) (hst := rfl) rfl (rgs_cons (hs := rfl) (rg_name (i := 2) sc__check_samples.nd rfl (by first | exact Or.inl rfl | exact Or.inr rfl)) (rgs_cons (hs := rfl) (rg_name (i := 3) sc__check_samples.nd rfl (by first | exact Or.inl rfl | exact Or.inr rfl)) rgs_nil))) (fun _ => (rss_cons (rs_if (rt_w (rw_or (rt_not (rt_val (he := fun _ => rfl) (re_call (hdb := (by decide)) (he := sn_name) (hpl := rfl) C__is_sample hg (hr.mono (by decide)) rfl (ra_cons (hs := sn_name) (v 3) ra_nil)))) (rw_or1 (rt_thaw (rt_inD (hu65 hr) (hm := by with_unfolding_all rfl) (re_ix (hs := fun _ _ => rfl) (v 3) re_int) (v 1)))))) (rss_one rs_never) rss_nil)
  (rss_one (rs_app (i := 1) (hd := (by decide)) (hcd := (by decide)) (hbase := rfl) (hfew := rfl) (hline := rfl) (hs := by first | rfl | with_reducible exact sn_sub) (hplain := rfl) (hsw := rfl) rfl (by first | exact Or.inl rfl | exact Or.inr (Or.inl rfl) | exact Or.inr (Or.inr rfl)) (re_ix (hs := fun _ _ => rfl) (v 3) re_int))))))
  (rss_frz rss_nil))))
theorem ok_course_through {f : Addr} {fd : FuncData} (U : Fun K "course_through" "course_through" s_course_through f fd) (T : Tx K mg) (C__check_samples : At P w K mg base 6 "_check_samples" ["samples"] F__check_samples) (C__length_of : At P w K mg base 1 "_length_of" ["setting"] F__length_of) (C__weighed_course : At P w K mg base 3 "_weighed_course" ["rows", "weights"] F__weighed_course) (C_polynomial_product : At P w K mg base 2 "polynomial_product" ["one", "two"] F_polynomial_product) (C_ratio : At P w K mg base 1 "ratio" ["p", "q"] F_ratio) (C_value_at : At P w K mg base 1 "value_at" ["polynomial", "point"] F_value_at) : FnG P w K mg base 7 f fd ["samples"] F_course_through := by
  refine fng_of (n0 := 0) (k := 6) U sc_course_through (fun cdv A outer s H E hg hr => ?_)
  exact (rss_cons (rs_drop (hs := rfl) (re_call (hdb := (by decide)) (he := sn_name) (hpl := rfl) C__check_samples hg (hr.mono (by decide)) rfl (ra_cons (hs := sn_name) (v 0) ra_nil)))
  (rss_cons (rs_parN (i := 1) (j := 2) (rn_new (hs := sn_list) (rl_lst ra_nil) (rn_new (hs := sn_list) (rl_lst ra_nil) rn_nil)) (P := ps_par (by rfl) sc_course_through.nd rfl rfl (by decide) rfl rfl (pwA _) (by rfl)))
  (rss_cons (rs_for (hs := fun _ => rfl) PassesOwn.never rfl (ri_seq (v 0)) (rg_tupK K rfl (hn := rfl) (hst := rfl) rfl (rgs_cons (hs := rfl) (rg_name (i := 3) sc_course_through.nd rfl (by first | exact Or.inl rfl | exact Or.inr rfl)) (rgs_cons (hs := rfl) (rg_name (i := 4) sc_course_through.nd rfl (by first | exact Or.inl rfl | exact Or.inr rfl)) rgs_nil))) (fun _ => (rss_cons (rs_set (i := 5) (hs := rfl) (hf := (by first | exact Or.inl rfl | exact Or.inr rfl)) sc_course_through.nd rfl (by first | exact Or.inl rfl | exact Or.inr rfl) (re_tup (ra_cons (hs := sn_const) re_int ra_nil)))
  (rss_cons (rs_for (hs := fun _ => rfl) PassesOwn.never rfl (ri_seq (v 0)) (rg_tupK K rfl (hn := rfl) (hst := rfl) rfl (rgs_cons (hs := rfl) (rg_name (i := 8) sc_course_through.nd rfl (by first | exact Or.inl rfl | exact Or.inr rfl)) (rgs_cons (hs := rfl) (rg_name (i := 9) sc_course_through.nd rfl (by first | exact Or.inl rfl | exact Or.inr rfl)) rgs_nil))) (fun _ => (rss_one (rs_if (rt_ne (hu64 hr) (v 8) (v 3)) (rss_one (rs_set (i := 5) (hs := rfl) (hf := (by first | exact Or.inl rfl | exact Or.inr rfl)) sc_course_through.nd rfl (by first | exact Or.inl rfl | exact Or.inr rfl) (re_call (hdb := (by decide)) (he := sn_name) (hpl := rfl) C_polynomial_product hg (hr.mono (by decide)) rfl (ra_cons (hs := sn_name) (v 5) (ra_cons (hs := sn_tup) (re_tup (ra_cons (hs := sn_un) (re_neg (re_ix (hs := fun _ _ => rfl) (v 8) re_int)) (ra_cons (hs := sn_sub) (re_ix (hs := fun _ _ => rfl) (v 8) re_int) ra_nil))) ra_nil))))) rss_nil))))
  (rss_cons (rs_set (i := 6) (hs := rfl) (hf := (by first | exact Or.inl rfl | exact Or.inr rfl)) sc_course_through.nd rfl (by first | exact Or.inl rfl | exact Or.inr rfl) (re_ofL (rl_lst (ra_star (hs := by rfl) (v 5) (ra_star (hs := by rfl) (re_rep (rl_lst (ra_cons (hs := sn_const) re_int ra_nil)) (re_sub re_int (re_len (he := sn_name) rfl T.b_len (ra_cons (hs := sn_name) (v 5) ra_nil)))) ra_nil)))))
  (rss_cons (rs_set (i := 7) (hs := rfl) (hf := (by first | exact Or.inl rfl | exact Or.inr rfl)) sc_course_through.nd rfl (by first | exact Or.inl rfl | exact Or.inr rfl) (re_call (hdb := (by decide)) (he := sn_name) (hpl := rfl) C__length_of hg (hr.mono (by decide)) rfl (ra_cons (hs := sn_name) (v 3) ra_nil)))
  (rss_cons (rs_app (i := 1) (hd := (by decide)) (hcd := (by decide)) (hbase := rfl) (hfew := rfl) (hline := rfl) (hs := by first | rfl | with_reducible exact sn_name) (hplain := rfl) (hsw := rfl) rfl (by first | exact Or.inl rfl | exact Or.inr (Or.inl rfl) | exact Or.inr (Or.inr rfl)) (v 6))
  (rss_one (rs_app (i := 2) (hd := (by decide)) (hcd := (by decide)) (hbase := rfl) (hfew := rfl) (hline := rfl) (hs := by first | rfl | with_reducible exact sn_call) (hplain := rfl) (hsw := rfl) rfl (by first | exact Or.inl rfl | exact Or.inr (Or.inl rfl) | exact Or.inr (Or.inr rfl)) (re_call (hdb := (by decide)) (he := sn_bin) (hpl := rfl) C_ratio hg (hr.mono (by decide)) rfl (ra_cons (hs := sn_bin) (re_mul (re_mul (re_ix (hs := fun _ _ => rfl) (v 4) re_int) (v 7)) (v 7)) (ra_cons (hs := sn_bin) (re_mul (re_ix (hs := fun _ _ => rfl) (v 4) re_int) (re_call (hdb := (by decide)) (he := sn_name) (hpl := rfl) C_value_at hg (hr.mono (by decide)) rfl (ra_cons (hs := sn_name) (v 6) (ra_cons (hs := sn_name) (v 3) ra_nil)))) ra_nil))))))))))))
  (rss_frz (rss_frz (rss_one (rs_ret (re_call (hdb := (by decide)) (he := sn_name) (hpl := rfl) C__weighed_course hg (hr.mono (by decide)) rfl (ra_cons (hs := sn_name) (v 1) (ra_cons (hs := sn_name) (v 2) ra_nil))))))))))
theorem ok_setting_sum {f : Addr} {fd : FuncData} (U : Fun K "setting_sum" "setting_sum" s_setting_sum f fd) (T : Tx K mg) (C_check_setting : At P w K mg base 5 "check_setting" ["value"] F_check_setting) (C_reduced : At P w K mg base 2 "reduced" ["numbers"] F_reduced) : FnG P w K mg base 6 f fd ["setting", "other"] F_setting_sum := by
  refine fng_of (n0 := 0) (k := 5) U sc_setting_sum (fun cdv A outer s H E hg hr => ?_)
  exact (rss_cons (rs_drop (hs := rfl) (re_call (hdb := (by decide)) (he := sn_name) (hpl := rfl) C_check_setting hg (hr.mono (by decide)) rfl (ra_cons (hs := sn_name) (v 0) ra_nil)))
  (rss_cons (rs_drop (hs := rfl) (re_call (hdb := (by decide)) (he := sn_name) (hpl := rfl) C_check_setting hg (hr.mono (by decide)) rfl (ra_cons (hs := sn_name) (v 1) ra_nil)))
  (rss_cons (rs_asg (hs := rfl) (hw := rfl) (h1 := rfl) (re_call (hdb := (by decide)) (he := sn_tup) (hpl := rfl) C_reduced hg (hr.mono (by decide)) rfl (ra_cons (hs := sn_tup) (re_tup (ra_cons (hs := sn_bin) (re_plus (re_mul (re_ix (hs := fun _ _ => rfl) (v 0) re_int) (re_ix (hs := fun _ _ => rfl) (v 1) re_int)) (re_mul (re_ix (hs := fun _ _ => rfl) (v 1) re_int) (re_ix (hs := fun _ _ => rfl) (v 0) re_int))) (ra_cons (hs := sn_bin) (re_sub (re_mul (re_ix (hs := fun _ _ => rfl) (v 0) re_int) (re_ix (hs := fun _ _ => rfl) (v 1) re_int)) (re_mul (re_ix (hs := fun _ _ => rfl) (v 0) re_int) (re_ix (hs := fun _ _ => rfl) (v 1) re_int))) ra_nil))) ra_nil)) (rg_tupK K rfl (hn := rfl) (hst := rfl) rfl (rgs_cons (hs := rfl) (rg_name (i := 2) sc_setting_sum.nd rfl (by first | exact Or.inl rfl | exact Or.inr rfl)) (rgs_cons (hs := rfl) (rg_name (i := 3) sc_setting_sum.nd rfl (by first | exact Or.inl rfl | exact Or.inr rfl)) rgs_nil))))
  (rss_cons (rs_if (rt_w (rw_or (rt_lt (v 3) re_int) (rw_or1 (rt_w (rw_and (rt_eq (hu64 hr) (v 3) re_int) (rw_and1 (rt_lt (v 2) re_int))))))) (rss_one (rs_ret (re_tup (ra_cons (hs := sn_un) (re_neg (v 2)) (ra_cons (hs := sn_un) (re_neg (v 3)) ra_nil))))) rss_nil)
  (rss_one (rs_ret (re_tup (ra_cons (hs := sn_name) (v 2) (ra_cons (hs := sn_name) (v 3) ra_nil)))))))))
theorem ok_setting_back {f : Addr} {fd : FuncData} (U : Fun K "setting_back" "setting_back" s_setting_back f fd) (T : Tx K mg) (C_check_setting : At P w K mg base 5 "check_setting" ["value"] F_check_setting) : FnG P w K mg base 6 f fd ["setting"] F_setting_back := by
  refine fng_of (n0 := 0) (k := 5) U sc_setting_back (fun cdv A outer s H E hg hr => ?_)
  exact (rss_cons (rs_drop (hs := rfl) (re_call (hdb := (by decide)) (he := sn_name) (hpl := rfl) C_check_setting hg (hr.mono (by decide)) rfl (ra_cons (hs := sn_name) (v 0) ra_nil)))
  (rss_one (rs_ret (re_if (rt_eq (hu64 hr) (re_ix (hs := fun _ _ => rfl) (v 0) re_int) re_int) (v 0) (re_tup (ra_cons (hs := sn_un) (re_neg (re_ix (hs := fun _ _ => rfl) (v 0) re_int)) (ra_cons (hs := sn_sub) (re_ix (hs := fun _ _ => rfl) (v 0) re_int) ra_nil)))))))
theorem ok__law_source {f : Addr} {fd : FuncData} (U : Fun K "_law_source" "_law_source" s__law_source f fd) (T : Tx K mg)  : FnG P w K mg base 1 f fd ["_law_script", "_law_at_here"] F__law_source := by
  refine fng_of (n0 := 0) (k := 0) U sc__law_source (fun cdv A outer s H E hg hr => ?_)
  exact (rss_cons (rs_set (i := 2) (hs := rfl) (hf := (by first | exact Or.inl rfl | exact Or.inr rfl)) sc__law_source.nd rfl (by first | exact Or.inl rfl | exact Or.inr rfl) (re_if (rt_lt (v 1) (re_len (he := sn_name) rfl T.b_len (ra_cons (hs := sn_name) (v 0) ra_nil))) (re_intc (he := sn_sub) rfl T.b_int (ra_cons (hs := sn_sub) (re_ix (hs := fun _ _ => rfl) (v 0) (v 1)) ra_nil)) (re_plus (re_mul re_int (v 1)) re_int)))
  (rss_cons (rs_set (i := 3) (hs := rfl) (hf := (by first | exact Or.inl rfl | exact Or.inr rfl)) sc__law_source.nd rfl (by first | exact Or.inl rfl | exact Or.inr rfl) (re_plus re_int (re_mul re_int (v 1))))
  (rss_cons (rs_for (hs := fun _ => rfl) PassesOwn.never rfl (ri_seq (re_sl (v 0) ro_none (ro_some re_int))) (rg_name (i := 4) sc__law_source.nd rfl (by first | exact Or.inl rfl | exact Or.inr rfl)) (fun _ => (rss_one (rs_set (i := 3) (hs := rfl) (hf := (by first | exact Or.inl rfl | exact Or.inr rfl)) sc__law_source.nd rfl (by first | exact Or.inl rfl | exact Or.inr rfl) (re_mod (re_intc (he := sn_bin) rfl T.b_int (ra_cons (hs := sn_bin) (re_plus (re_plus (re_mul (v 3) re_int) (re_mod (re_intc (he := sn_name) rfl T.b_int (ra_cons (hs := sn_name) (v 4) ra_nil)) re_int)) re_int) ra_nil)) re_int)))))
  (rss_cons (rs_set (i := 5) (hs := rfl) (hf := (by first | exact Or.inl rfl | exact Or.inr rfl)) sc__law_source.nd rfl (by first | exact Or.inl rfl | exact Or.inr rfl) (re_mod (re_intc (he := sn_bin) rfl T.b_int (ra_cons (hs := sn_bin) (re_plus (re_mul (v 3) re_int) (re_mul (re_mod (re_intc (he := sn_name) rfl T.b_int (ra_cons (hs := sn_name) (v 2) ra_nil)) re_int) re_int)) ra_nil)) re_int))
  (rss_one (rs_retL (rl_lst (ra_cons (hs := sn_if) (re_if (rt_w (rw_or (rt_lt (v 2) re_int) (rw_or1 (rt_ge (v 2) (re_pow re_int re_int))))) (re_abs (he := sn_name) rfl T.b_abs (ra_cons (hs := sn_name) (v 2) ra_nil)) re_int) (ra_cons (hs := sn_name) (v 5) (ra_cons (hs := sn_const) re_int ra_nil))))))))))
theorem ok__law_draw {f : Addr} {fd : FuncData} (U : Fun K "_law_draw" "_law_draw" s__law_draw f fd) (T : Tx K mg)  : FnG P w K mg base 1 f fd ["_law_source_here", "_law_top"] F__law_draw := by
  refine fng_of (n0 := 1) (k := 0) U sc__law_draw (fun cdv A outer s H E hg hr => ?_)
  exact (rss_cons (rs_if (rt_gt (re_cix (i := 0) (hd := (by decide)) (hcd := (by decide)) (hs := fun _ _ => rfl) rfl (by first | exact Or.inl rfl | exact Or.inr (Or.inl rfl) | exact Or.inr (Or.inr rfl)) re_int) re_int) (rss_cons (rs_setc2 (i := 0) (j := 3) (hd := (by decide)) (hcd := (by decide)) (ha := fun _ => rfl) (hf := (by first | exact Or.inl rfl | exact Or.inr rfl)) rfl sc__law_draw.nd rfl (by first | exact Or.inl rfl | exact Or.inr (Or.inl rfl) | exact Or.inr (Or.inr rfl)) rfl (by first | exact Or.inl rfl | exact Or.inr rfl) (by decide) re_int (re_divmod (he := sn_sub) (hpl := rfl) rfl T.b_divmod (ra_cons (hs := sn_sub) (re_cix (i := 0) (hd := (by decide)) (hcd := (by decide)) (hs := fun _ _ => rfl) rfl (by first | exact Or.inl rfl | exact Or.inr (Or.inl rfl) | exact Or.inr (Or.inr rfl)) re_int) (ra_cons (hs := sn_name) (v 1) ra_nil))) (P := fun t ht => ps_asg ht (pg_tup rfl (pgs_cons (pg_sub (pe_var (i := 0) rfl (by first | exact Or.inl rfl | exact Or.inr (Or.inl rfl) | exact Or.inr (Or.inr rfl))) (pwE _) set_list) (pgs_cons (pg_name (i := 3) sc__law_draw.nd rfl (by first | exact Or.inl rfl | exact Or.inr rfl)) pgs_nil)))))
  (rss_one (rs_ret (v 3)))) rss_nil)
  (rss_cons (rs_setc (i := 0) (hd := (by decide)) (hcd := (by decide)) (ha := fun _ => rfl) (hs := rfl) (hw := rfl) (h1 := rfl) rfl (by first | exact Or.inl rfl | exact Or.inr (Or.inl rfl) | exact Or.inr (Or.inr rfl)) re_int (re_plus (re_cix (i := 0) (hd := (by decide)) (hcd := (by decide)) (hs := fun _ _ => rfl) rfl (by first | exact Or.inl rfl | exact Or.inr (Or.inl rfl) | exact Or.inr (Or.inr rfl)) re_int) re_int))
  (rss_cons (rs_set (i := 2) (hs := rfl) (hf := (by first | exact Or.inl rfl | exact Or.inr rfl)) sc__law_draw.nd rfl (by first | exact Or.inl rfl | exact Or.inr rfl) (re_mod (re_intc (he := sn_bin) rfl T.b_int (ra_cons (hs := sn_bin) (re_plus (re_mul (re_cix (i := 0) (hd := (by decide)) (hcd := (by decide)) (hs := fun _ _ => rfl) rfl (by first | exact Or.inl rfl | exact Or.inr (Or.inl rfl) | exact Or.inr (Or.inr rfl)) re_int) re_int) (re_mul (re_cix (i := 0) (hd := (by decide)) (hcd := (by decide)) (hs := fun _ _ => rfl) rfl (by first | exact Or.inl rfl | exact Or.inr (Or.inl rfl) | exact Or.inr (Or.inr rfl)) re_int) re_int)) ra_nil)) re_int))
  (rss_cons (rs_setc (i := 0) (hd := (by decide)) (hcd := (by decide)) (ha := fun _ => rfl) (hs := rfl) (hw := rfl) (h1 := rfl) rfl (by first | exact Or.inl rfl | exact Or.inr (Or.inl rfl) | exact Or.inr (Or.inr rfl)) re_int (re_mod (re_intc (he := sn_bin) rfl T.b_int (ra_cons (hs := sn_bin) (re_plus (re_mul (v 2) (re_plus (re_mul re_int (re_div (v 2) re_int)) re_int)) (re_cix (i := 0) (hd := (by decide)) (hcd := (by decide)) (hs := fun _ _ => rfl) rfl (by first | exact Or.inl rfl | exact Or.inr (Or.inl rfl) | exact Or.inr (Or.inr rfl)) re_int)) ra_nil)) re_int))
  (rss_one (rs_ret (re_mod (re_intc (he := sn_bin) rfl T.b_int (ra_cons (hs := sn_bin) (re_div (re_cix (i := 0) (hd := (by decide)) (hcd := (by decide)) (hs := fun _ _ => rfl) rfl (by first | exact Or.inl rfl | exact Or.inr (Or.inl rfl) | exact Or.inr (Or.inr rfl)) re_int) re_int) ra_nil)) (v 1))))))))
theorem ok__law_pick {f : Addr} {fd : FuncData} (U : Fun K "_law_pick" "_law_pick" s__law_pick f fd) (T : Tx K mg) (C__law_draw : At P w K mg base 1 "_law_draw" ["_law_source_here", "_law_top"] F__law_draw) : FnG P w K mg base 2 f fd ["_law_source_here", "_law_some"] F__law_pick_K36 := by
  refine fng_of (n0 := 1) (k := 1) U sc__law_pick (fun cdv A outer s H E hg hr => ?_)
  exact (rss_one (rs_ret (re_ix (hs := fun _ _ => rfl) (v 1) (re_call (hdb := (by decide)) (he := sn_name) (hpl := rfl) C__law_draw hg (hr.mono (by decide)) rfl (ra_cel (i := 0) (hd := (by decide)) (hcd := (by decide)) (hs := sn_name) rfl (by first | exact Or.inl rfl | exact Or.inr (Or.inl rfl) | exact Or.inr (Or.inr rfl)) (ra_cons (hs := sn_call) (re_len (he := sn_name) rfl T.b_len (ra_cons (hs := sn_name) (v 1) ra_nil)) ra_nil))))))
theorem ok__law_about {f : Addr} {fd : FuncData} (U : Fun K "_law_about" "_law_about" s__law_about f fd) (T : Tx K mg) (C__law_draw : At P w K mg base 1 "_law_draw" ["_law_source_here", "_law_top"] F__law_draw) : FnG P w K mg base 2 f fd ["_law_source_here", "_law_most"] F__law_about := by
  refine fng_of (n0 := 1) (k := 1) U sc__law_about (fun cdv A outer s H E hg hr => ?_)
  exact (rss_one (rs_ret (re_sub (re_call (hdb := (by decide)) (he := sn_name) (hpl := rfl) C__law_draw hg (hr.mono (by decide)) rfl (ra_cel (i := 0) (hd := (by decide)) (hcd := (by decide)) (hs := sn_name) rfl (by first | exact Or.inl rfl | exact Or.inr (Or.inl rfl) | exact Or.inr (Or.inr rfl)) (ra_cons (hs := sn_bin) (re_plus (re_mul re_int (v 1)) re_int) ra_nil))) (v 1))))
theorem ok__law_common {f : Addr} {fd : FuncData} (U : Fun K "_law_common" "_law_common" s__law_common f fd) (T : Tx K mg)  : FnG P w K mg base 1 f fd ["_law_row"] F__law_common_K36 := by
  refine fng_of (n0 := 0) (k := 0) U sc__law_common (fun cdv A outer s H E hg hr => ?_)
  exact (rss_cons (rs_set (i := 1) (hs := rfl) (hf := (by first | exact Or.inl rfl | exact Or.inr rfl)) sc__law_common.nd rfl (by first | exact Or.inl rfl | exact Or.inr rfl) re_int)
  (rss_cons (rs_for (hs := fun _ => rfl) PassesOwn.never rfl (ri_seq (v 0)) (rg_name (i := 2) sc__law_common.nd rfl (by first | exact Or.inl rfl | exact Or.inr rfl)) (fun _ => (rss_cons (rs_par (i := 3) (j := 4) rfl sc__law_common.nd rfl rfl (by decide) rfl rfl (ra_cons (hs := sn_name) (v 1) (ra_cons (hs := sn_call) (re_abs (he := sn_name) rfl T.b_abs (ra_cons (hs := sn_name) (v 2) ra_nil)) ra_nil)) (P := ps_par (by rfl) sc__law_common.nd rfl rfl (by decide) rfl rfl (pwA _) (by rfl)))
  (rss_cons (rs_while PassesOwn.never (rt_ne (hu64 hr) (v 4) re_int) (fun _ => (rss_one (rs_par (i := 3) (j := 4) rfl sc__law_common.nd rfl rfl (by decide) rfl rfl (ra_cons (hs := sn_name) (v 4) (ra_cons (hs := sn_bin) (re_mod (re_intc (he := sn_name) rfl T.b_int (ra_cons (hs := sn_name) (v 3) ra_nil)) (v 4)) ra_nil)) (P := ps_par (by rfl) sc__law_common.nd rfl rfl (by decide) rfl rfl (pwA _) (by rfl))))))
  (rss_one (rs_set (i := 1) (hs := rfl) (hf := (by first | exact Or.inl rfl | exact Or.inr rfl)) sc__law_common.nd rfl (by first | exact Or.inl rfl | exact Or.inr rfl) (v 3)))))))
  (rss_one (rs_ret (v 1)))))
theorem ok__law_low {f : Addr} {fd : FuncData} (U : Fun K "_law_low" "_law_low" s__law_low f fd) (T : Tx K mg) (C__law_common : At P w K mg base 1 "_law_common" ["_law_row"] F__law_common_K36) : FnG P w K mg base 2 f fd ["_law_row"] F__law_low_K36 := by
  refine fng_of (n0 := 0) (k := 1) U sc__law_low (fun cdv A outer s H E hg hr => ?_)
  exact (rss_cons (rs_set (i := 1) (hs := rfl) (hf := (by first | exact Or.inl rfl | exact Or.inr rfl)) sc__law_low.nd rfl (by first | exact Or.inl rfl | exact Or.inr rfl) (re_max (he := sn_const) (hpl := rfl) rfl rfl T.b_max (ra_cons (hs := sn_const) re_int (ra_cons (hs := sn_call) (re_call (hdb := (by decide)) (he := sn_name) (hpl := rfl) C__law_common hg (hr.mono (by decide)) rfl (ra_cons (hs := sn_name) (v 0) ra_nil)) ra_nil))))
  (rss_one (rs_ret (re_tuple (he := sn_lc) rfl T.b_tuple (ra_cons (hs := sn_lc) (re_ofL (rl_lc (own := [("_law_part", 2)]) (hs := fun _ => rfl) rfl sc__law_low.nd (ri_seq (v 0)) (blkOk_by (N := n__law_low) (sc := defScope s__law_low) (by decide +kernel)) (fun _ _ _ _ _ => (rg_name (i := 2) sc__law_low.nd rfl (by first | exact Or.inl rfl | exact Or.inr rfl))) (fun _ _ _ _ _ => rts_nil) (fun _ _ _ _ _ => (re_div (v 2) (v 1))) (by decide))) ra_nil)))))
theorem ok__law_ratio {f : Addr} {fd : FuncData} (U : Fun K "_law_ratio" "_law_ratio" s__law_ratio f fd) (T : Tx K mg) (C__law_common : At P w K mg base 1 "_law_common" ["_law_row"] F__law_common_K36) : FnG P w K mg base 2 f fd ["_law_top", "_law_under"] F__law_ratio_K36 := by
  refine fng_of (n0 := 0) (k := 1) U sc__law_ratio (fun cdv A outer s H E hg hr => ?_)
  exact (rss_cons (rs_set (i := 2) (hs := rfl) (hf := (by first | exact Or.inl rfl | exact Or.inr rfl)) sc__law_ratio.nd rfl (by first | exact Or.inl rfl | exact Or.inr rfl) (re_call (hdb := (by decide)) (he := sn_list) (hpl := rfl) C__law_common hg (hr.mono (by decide)) rfl (ra_cons (hs := sn_list) (re_ofL (rl_lst (ra_cons (hs := sn_name) (v 0) (ra_cons (hs := sn_name) (v 1) ra_nil)))) ra_nil)))
  (rss_cons (rs_set (i := 2) (hs := rfl) (hf := (by first | exact Or.inl rfl | exact Or.inr rfl)) sc__law_ratio.nd rfl (by first | exact Or.inl rfl | exact Or.inr rfl) (re_if (rt_gt (v 1) re_int) (v 2) (re_sub re_int (v 2))))
  (rss_one (rs_ret (re_tup (ra_cons (hs := sn_bin) (re_div (v 0) (v 2)) (ra_cons (hs := sn_bin) (re_div (v 1) (v 2)) ra_nil)))))))
theorem ok__law_slot {f : Addr} {fd : FuncData} (U : Fun K "_law_slot" "_law_slot" s__law_slot f fd) (T : Tx K mg) (C__law_about : At P w K mg base 2 "_law_about" ["_law_source_here", "_law_most"] F__law_about) (C__law_draw : At P w K mg base 1 "_law_draw" ["_law_source_here", "_law_top"] F__law_draw) (C__law_low : At P w K mg base 2 "_law_low" ["_law_row"] F__law_low_K36) (C__law_pick : At P w K mg base 2 "_law_pick" ["_law_source_here", "_law_some"] F__law_pick_K36) : FnG P w K mg base 3 f fd ["_law_source_here"] F__law_slot := by
  refine fng_of (n0 := 1) (k := 2) U sc__law_slot (fun cdv A outer s H E hg hr => ?_)
  exact (rss_cons (rs_par (i := 1) (j := 2) rfl sc__law_slot.nd rfl rfl (by decide) rfl rfl (ra_cons (hs := sn_call) (re_call (hdb := (by decide)) (he := sn_name) (hpl := rfl) C__law_draw hg (hr.mono (by decide)) rfl (ra_cel (i := 0) (hd := (by decide)) (hcd := (by decide)) (hs := sn_name) rfl (by first | exact Or.inl rfl | exact Or.inr (Or.inl rfl) | exact Or.inr (Or.inr rfl)) (ra_cons (hs := sn_const) re_int ra_nil))) (ra_cons (hs := sn_call) (re_call (hdb := (by decide)) (he := sn_name) (hpl := rfl) C__law_pick hg (hr.mono (by decide)) rfl (ra_cel (i := 0) (hd := (by decide)) (hcd := (by decide)) (hs := sn_name) rfl (by first | exact Or.inl rfl | exact Or.inr (Or.inl rfl) | exact Or.inr (Or.inr rfl)) (ra_cons (hs := sn_tup) (re_tup (ra_cons (hs := sn_const) re_int (ra_cons (hs := sn_const) re_int (ra_cons (hs := sn_const) re_int (ra_cons (hs := sn_const) re_int (ra_cons (hs := sn_const) re_int ra_nil)))))) ra_nil))) ra_nil)) (P := ps_par (by rfl) sc__law_slot.nd rfl rfl (by decide) rfl rfl (pwA _) (by rfl)))
  (rss_cons (rs_if (rt_eq (hu64 hr) (v 1) re_int) (rss_one (rs_ret (re_call (hdb := (by decide)) (he := sn_name) (hpl := rfl) C__law_pick hg (hr.mono (by decide)) rfl (ra_cel (i := 0) (hd := (by decide)) (hcd := (by decide)) (hs := sn_name) rfl (by first | exact Or.inl rfl | exact Or.inr (Or.inl rfl) | exact Or.inr (Or.inr rfl)) (ra_cons (hs := sn_tup) (re_tup (ra_cons (hs := sn_tup) (re_tup (ra_cons (hs := sn_const) re_int (ra_cons (hs := sn_const) re_int ra_nil))) (ra_cons (hs := sn_tup) (re_tup (ra_cons (hs := sn_const) re_int (ra_cons (hs := sn_const) re_int ra_nil))) (ra_cons (hs := sn_tup) (re_tup (ra_cons (hs := sn_const) re_int (ra_cons (hs := sn_const) re_int ra_nil))) (ra_cons (hs := sn_tup) (re_tup (ra_cons (hs := sn_un) (re_neg re_int) (ra_cons (hs := sn_const) re_int ra_nil))) ra_nil))))) ra_nil))))) rss_nil)
  (rss_one (rs_ret (re_call (hdb := (by decide)) (he := sn_tup) (hpl := rfl) C__law_low hg (hr.mono (by decide)) rfl (ra_cons (hs := sn_tup) (re_tup (ra_cons (hs := sn_call) (re_call (hdb := (by decide)) (he := sn_name) (hpl := rfl) C__law_about hg (hr.mono (by decide)) rfl (ra_cel (i := 0) (hd := (by decide)) (hcd := (by decide)) (hs := sn_name) rfl (by first | exact Or.inl rfl | exact Or.inr (Or.inl rfl) | exact Or.inr (Or.inr rfl)) (ra_cons (hs := sn_name) (v 2) ra_nil))) (ra_cons (hs := sn_bin) (re_plus re_int (re_call (hdb := (by decide)) (he := sn_name) (hpl := rfl) C__law_draw hg (hr.mono (by decide)) rfl (ra_cel (i := 0) (hd := (by decide)) (hcd := (by decide)) (hs := sn_name) rfl (by first | exact Or.inl rfl | exact Or.inr (Or.inl rfl) | exact Or.inr (Or.inr rfl)) (ra_cons (hs := sn_name) (v 2) ra_nil)))) ra_nil))) ra_nil))))))
theorem ok__law_signed {f : Addr} {fd : FuncData} (U : Fun K "_law_signed" "_law_signed" s__law_signed f fd) (T : Tx K mg) (C__law_low : At P w K mg base 2 "_law_low" ["_law_row"] F__law_low_K36) : FnG P w K mg base 3 f fd ["_law_pair"] F__law_signed := by
  refine fng_of (n0 := 0) (k := 2) U sc__law_signed (fun cdv A outer s H E hg hr => ?_)
  exact (rss_cons (rs_asg (hs := rfl) (hw := rfl) (h1 := rfl) (re_call (hdb := (by decide)) (he := sn_name) (hpl := rfl) C__law_low hg (hr.mono (by decide)) rfl (ra_cons (hs := sn_name) (v 0) ra_nil)) (rg_tupK K rfl (hn := rfl) (hst := rfl) rfl (rgs_cons (hs := rfl) (rg_name (i := 1) sc__law_signed.nd rfl (by first | exact Or.inl rfl | exact Or.inr rfl)) (rgs_cons (hs := rfl) (rg_name (i := 2) sc__law_signed.nd rfl (by first | exact Or.inl rfl | exact Or.inr rfl)) rgs_nil))))
  (rss_cons (rs_if (rt_eq (hu64 hr) (v 2) re_int) (rss_one (rs_ret (re_tup (ra_cons (hs := sn_const) re_int (ra_cons (hs := sn_const) re_int ra_nil))))) rss_nil)
  (rss_one (rs_ret (re_if (rt_gt (v 2) re_int) (re_tup (ra_cons (hs := sn_name) (v 1) (ra_cons (hs := sn_name) (v 2) ra_nil))) (re_tup (ra_cons (hs := sn_bin) (re_sub re_int (v 1)) (ra_cons (hs := sn_bin) (re_sub re_int (v 2)) ra_nil))))))))
theorem ok__law_summed {f : Addr} {fd : FuncData} (U : Fun K "_law_summed" "_law_summed" s__law_summed f fd) (T : Tx K mg) (C__law_signed : At P w K mg base 3 "_law_signed" ["_law_pair"] F__law_signed) : FnG P w K mg base 4 f fd ["_law_one", "_law_two"] F__law_summed := by
  refine fng_of (n0 := 0) (k := 3) U sc__law_summed (fun cdv A outer s H E hg hr => ?_)
  exact (rss_one (rs_ret (re_call (hdb := (by decide)) (he := sn_tup) (hpl := rfl) C__law_signed hg (hr.mono (by decide)) rfl (ra_cons (hs := sn_tup) (re_tup (ra_cons (hs := sn_bin) (re_plus (re_mul (re_ix (hs := fun _ _ => rfl) (v 0) re_int) (re_ix (hs := fun _ _ => rfl) (v 1) re_int)) (re_mul (re_ix (hs := fun _ _ => rfl) (v 1) re_int) (re_ix (hs := fun _ _ => rfl) (v 0) re_int))) (ra_cons (hs := sn_bin) (re_sub (re_mul (re_ix (hs := fun _ _ => rfl) (v 0) re_int) (re_ix (hs := fun _ _ => rfl) (v 1) re_int)) (re_mul (re_ix (hs := fun _ _ => rfl) (v 0) re_int) (re_ix (hs := fun _ _ => rfl) (v 1) re_int))) ra_nil))) ra_nil))))
theorem ok__law_form {f : Addr} {fd : FuncData} (U : Fun K "_law_form" "_law_form" s__law_form f fd) (T : Tx K mg)  : FnG P w K mg base 1 f fd ["_law_row", "_law_slot_here"] F__law_form := by
  refine fng_of (n0 := 0) (k := 0) U sc__law_form (fun cdv A outer s H E hg hr => ?_)
  exact (rss_cons (rs_asg (hs := rfl) (hw := rfl) (h1 := rfl) (v 1) (rg_tupK K rfl (hn := rfl) (hst := rfl) rfl (rgs_cons (hs := rfl) (rg_name (i := 3) sc__law_form.nd rfl (by first | exact Or.inl rfl | exact Or.inr rfl)) (rgs_cons (hs := rfl) (rg_name (i := 4) sc__law_form.nd rfl (by first | exact Or.inl rfl | exact Or.inr rfl)) rgs_nil))))
  (rss_cons (rs_set (i := 2) (hs := rfl) (hf := (by first | exact Or.inl rfl | exact Or.inr rfl)) sc__law_form.nd rfl (by first | exact Or.inl rfl | exact Or.inr rfl) (re_plus (re_plus (re_mul (re_mul (re_ix (hs := fun _ _ => rfl) (v 0) re_int) (v 4)) (v 4)) (re_mul (re_mul (re_ix (hs := fun _ _ => rfl) (v 0) re_int) (v 3)) (v 4))) (re_mul (re_mul (re_ix (hs := fun _ _ => rfl) (v 0) re_int) (v 3)) (v 3))))
  (rss_one (rs_ret (re_plus (re_mul (re_mul (v 2) (v 4)) (v 4)) (re_mul (re_mul (re_mul (re_plus (re_mul (re_ix (hs := fun _ _ => rfl) (v 0) re_int) (v 4)) (re_mul (re_ix (hs := fun _ _ => rfl) (v 0) re_int) (v 3))) (v 3)) (v 3)) (v 3)))))))
theorem ok__law_at {f : Addr} {fd : FuncData} (U : Fun K "_law_at" "_law_at" s__law_at f fd) (T : Tx K mg) (C__law_form : At P w K mg base 1 "_law_form" ["_law_row", "_law_slot_here"] F__law_form) (C__law_ratio : At P w K mg base 2 "_law_ratio" ["_law_top", "_law_under"] F__law_ratio_K36) : FnG P w K mg base 3 f fd ["_law_row", "_law_slot_here"] F__law_at_K36 := by
  refine fng_of (n0 := 0) (k := 2) U sc__law_at (fun cdv A outer s H E hg hr => ?_)
  exact (rss_cons (rs_set (i := 2) (hs := rfl) (hf := (by first | exact Or.inl rfl | exact Or.inr rfl)) sc__law_at.nd rfl (by first | exact Or.inl rfl | exact Or.inr rfl) (re_plus (re_mul (re_ix (hs := fun _ _ => rfl) (v 1) re_int) (re_ix (hs := fun _ _ => rfl) (v 1) re_int)) (re_mul (re_ix (hs := fun _ _ => rfl) (v 1) re_int) (re_ix (hs := fun _ _ => rfl) (v 1) re_int))))
  (rss_one (rs_ret (re_call (hdb := (by decide)) (he := sn_call) (hpl := rfl) C__law_ratio hg (hr.mono (by decide)) rfl (ra_cons (hs := sn_call) (re_call (hdb := (by decide)) (he := sn_name) (hpl := rfl) C__law_form hg (hr.mono (by decide)) rfl (ra_cons (hs := sn_name) (v 0) (ra_cons (hs := sn_name) (v 1) ra_nil))) (ra_cons (hs := sn_bin) (re_mul (re_mul (re_ix (hs := fun _ _ => rfl) (v 0) re_int) (v 2)) (v 2)) ra_nil))))))
theorem ok__law_quad {f : Addr} {fd : FuncData} (U : Fun K "_law_quad" "_law_quad" s__law_quad f fd) (T : Tx K mg) (C__law_about : At P w K mg base 2 "_law_about" ["_law_source_here", "_law_most"] F__law_about) (C__law_draw : At P w K mg base 1 "_law_draw" ["_law_source_here", "_law_top"] F__law_draw) (C__law_pick : At P w K mg base 2 "_law_pick" ["_law_source_here", "_law_some"] F__law_pick_K36) : FnG P w K mg base 3 f fd ["_law_source_here"] F__law_quad := by
  refine fng_of (n0 := 1) (k := 2) U sc__law_quad (fun cdv A outer s H E hg hr => ?_)
  exact (rss_cons (rs_par (i := 1) (j := 2) rfl sc__law_quad.nd rfl rfl (by decide) rfl rfl (ra_cons (hs := sn_call) (re_call (hdb := (by decide)) (he := sn_name) (hpl := rfl) C__law_draw hg (hr.mono (by decide)) rfl (ra_cel (i := 0) (hd := (by decide)) (hcd := (by decide)) (hs := sn_name) rfl (by first | exact Or.inl rfl | exact Or.inr (Or.inl rfl) | exact Or.inr (Or.inr rfl)) (ra_cons (hs := sn_const) re_int ra_nil))) (ra_cons (hs := sn_call) (re_call (hdb := (by decide)) (he := sn_name) (hpl := rfl) C__law_pick hg (hr.mono (by decide)) rfl (ra_cel (i := 0) (hd := (by decide)) (hcd := (by decide)) (hs := sn_name) rfl (by first | exact Or.inl rfl | exact Or.inr (Or.inl rfl) | exact Or.inr (Or.inr rfl)) (ra_cons (hs := sn_tup) (re_tup (ra_cons (hs := sn_const) re_int (ra_cons (hs := sn_const) re_int (ra_cons (hs := sn_const) re_int (ra_cons (hs := sn_const) re_int ra_nil))))) ra_nil))) ra_nil)) (P := ps_par (by rfl) sc__law_quad.nd rfl rfl (by decide) rfl rfl (pwA _) (by rfl)))
  (rss_cons (rs_par3 (i := 3) (j := 4) (l := 5) (ra_cons (hs := sn_call) (re_call (hdb := (by decide)) (he := sn_name) (hpl := rfl) C__law_about hg (hr.mono (by decide)) rfl (ra_cel (i := 0) (hd := (by decide)) (hcd := (by decide)) (hs := sn_name) rfl (by first | exact Or.inl rfl | exact Or.inr (Or.inl rfl) | exact Or.inr (Or.inr rfl)) (ra_cons (hs := sn_name) (v 2) ra_nil))) (ra_cons (hs := sn_call) (re_call (hdb := (by decide)) (he := sn_name) (hpl := rfl) C__law_about hg (hr.mono (by decide)) rfl (ra_cel (i := 0) (hd := (by decide)) (hcd := (by decide)) (hs := sn_name) rfl (by first | exact Or.inl rfl | exact Or.inr (Or.inl rfl) | exact Or.inr (Or.inr rfl)) (ra_cons (hs := sn_name) (v 2) ra_nil))) (ra_cons (hs := sn_call) (re_call (hdb := (by decide)) (he := sn_name) (hpl := rfl) C__law_about hg (hr.mono (by decide)) rfl (ra_cel (i := 0) (hd := (by decide)) (hcd := (by decide)) (hs := sn_name) rfl (by first | exact Or.inl rfl | exact Or.inr (Or.inl rfl) | exact Or.inr (Or.inr rfl)) (ra_cons (hs := sn_name) (v 2) ra_nil))) ra_nil))) (P := ps_par3 (by rfl) sc__law_quad.nd rfl rfl rfl (by decide) (by decide) (by decide) rfl rfl rfl (pwA _) (by rfl)))
  (rss_cons (rs_if (rt_eq (hu64 hr) (v 1) re_int) (rss_one (rs_ret (re_tup (ra_cons (hs := sn_bin) (re_mul (v 3) (v 3)) (ra_cons (hs := sn_bin) (re_mul (re_mul re_int (v 3)) (v 4)) (ra_cons (hs := sn_bin) (re_mul (v 4) (v 4)) ra_nil)))))) rss_nil)
  (rss_cons (rs_if (rt_eq (hu64 hr) (v 1) re_int) (rss_one (rs_ret (re_tup (ra_cons (hs := sn_bin) (re_mul (v 3) (v 4)) (ra_cons (hs := sn_bin) (re_plus (re_mul (v 3) (v 5)) (v 4)) (ra_cons (hs := sn_name) (v 5) ra_nil)))))) rss_nil)
  (rss_one (rs_ret (re_if (rt_lt (v 1) re_int) (re_tup (ra_cons (hs := sn_name) (v 3) (ra_cons (hs := sn_name) (v 4) (ra_cons (hs := sn_name) (v 5) ra_nil)))) (re_tup (ra_cons (hs := sn_bin) (re_plus re_int (re_mul (v 3) (v 3))) (ra_cons (hs := sn_bin) (re_sub re_int (re_mul re_int (v 3))) (ra_cons (hs := sn_const) re_int ra_nil)))))))))))
theorem ok__law_folded {f : Addr} {fd : FuncData} (U : Fun K "_law_folded" "_law_folded" s__law_folded f fd) (T : Tx K mg)  : FnG P w K mg base 1 f fd ["_law_one", "_law_two"] F__law_folded := by
  refine fng_of (n0 := 0) (k := 0) U sc__law_folded (fun cdv A outer s H E hg hr => ?_)
  exact (rss_one (rs_ret (re_ofL (rl_lst (ra_cons (hs := sn_bin) (re_mul (re_ix (hs := fun _ _ => rfl) (v 0) re_int) (re_ix (hs := fun _ _ => rfl) (v 1) re_int)) (ra_cons (hs := sn_bin) (re_plus (re_mul (re_ix (hs := fun _ _ => rfl) (v 0) re_int) (re_ix (hs := fun _ _ => rfl) (v 1) re_int)) (re_mul (re_ix (hs := fun _ _ => rfl) (v 0) re_int) (re_ix (hs := fun _ _ => rfl) (v 1) re_int))) (ra_cons (hs := sn_bin) (re_plus (re_plus (re_mul (re_ix (hs := fun _ _ => rfl) (v 0) re_int) (re_ix (hs := fun _ _ => rfl) (v 1) re_int)) (re_mul (re_ix (hs := fun _ _ => rfl) (v 0) re_int) (re_ix (hs := fun _ _ => rfl) (v 1) re_int))) (re_mul (re_ix (hs := fun _ _ => rfl) (v 0) re_int) (re_ix (hs := fun _ _ => rfl) (v 1) re_int))) (ra_cons (hs := sn_bin) (re_plus (re_mul (re_ix (hs := fun _ _ => rfl) (v 0) re_int) (re_ix (hs := fun _ _ => rfl) (v 1) re_int)) (re_mul (re_ix (hs := fun _ _ => rfl) (v 0) re_int) (re_ix (hs := fun _ _ => rfl) (v 1) re_int))) (ra_cons (hs := sn_bin) (re_mul (re_ix (hs := fun _ _ => rfl) (v 0) re_int) (re_ix (hs := fun _ _ => rfl) (v 1) re_int)) ra_nil)))))))))
theorem ok__law_course {f : Addr} {fd : FuncData} (U : Fun K "_law_course" "_law_course" s__law_course f fd) (T : Tx K mg) (C__law_about : At P w K mg base 2 "_law_about" ["_law_source_here", "_law_most"] F__law_about) (C__law_draw : At P w K mg base 1 "_law_draw" ["_law_source_here", "_law_top"] F__law_draw) (C__law_folded : At P w K mg base 1 "_law_folded" ["_law_one", "_law_two"] F__law_folded) (C__law_low : At P w K mg base 2 "_law_low" ["_law_row"] F__law_low_K36) (C__law_quad : At P w K mg base 3 "_law_quad" ["_law_source_here"] F__law_quad) (C__law_ratio : At P w K mg base 2 "_law_ratio" ["_law_top", "_law_under"] F__law_ratio_K36) : FnG P w K mg base 4 f fd ["_law_source_here"] F__law_course := by
  refine fng_of (n0 := 1) (k := 3) U sc__law_course (fun cdv A outer s H E hg hr => ?_)
  exact (rss_cons (rs_par3 (i := 5) (j := 6) (l := 7) (ra_cons (hs := sn_call) (re_call (hdb := (by decide)) (he := sn_name) (hpl := rfl) C__law_draw hg (hr.mono (by decide)) rfl (ra_cel (i := 0) (hd := (by decide)) (hcd := (by decide)) (hs := sn_name) rfl (by first | exact Or.inl rfl | exact Or.inr (Or.inl rfl) | exact Or.inr (Or.inr rfl)) (ra_cons (hs := sn_const) re_int ra_nil))) (ra_cons (hs := sn_call) (re_call (hdb := (by decide)) (he := sn_name) (hpl := rfl) C__law_about hg (hr.mono (by decide)) rfl (ra_cel (i := 0) (hd := (by decide)) (hcd := (by decide)) (hs := sn_name) rfl (by first | exact Or.inl rfl | exact Or.inr (Or.inl rfl) | exact Or.inr (Or.inr rfl)) (ra_cons (hs := sn_const) re_int ra_nil))) (ra_cons (hs := sn_bin) (re_plus re_int (re_call (hdb := (by decide)) (he := sn_name) (hpl := rfl) C__law_draw hg (hr.mono (by decide)) rfl (ra_cel (i := 0) (hd := (by decide)) (hcd := (by decide)) (hs := sn_name) rfl (by first | exact Or.inl rfl | exact Or.inr (Or.inl rfl) | exact Or.inr (Or.inr rfl)) (ra_cons (hs := sn_const) re_int ra_nil)))) ra_nil))) (P := ps_par3 (by rfl) sc__law_course.nd rfl rfl rfl (by decide) (by decide) (by decide) rfl rfl rfl (pwA _) (by rfl)))
  (rss_cons (rs_set (i := 1) (hs := rfl) (hf := (by first | exact Or.inl rfl | exact Or.inr rfl)) sc__law_course.nd rfl (by first | exact Or.inl rfl | exact Or.inr rfl) (re_call (hdb := (by decide)) (he := sn_name) (hpl := rfl) C__law_quad hg (hr.mono (by decide)) rfl (ra_cel (i := 0) (hd := (by decide)) (hcd := (by decide)) (hs := sn_name) rfl (by first | exact Or.inl rfl | exact Or.inr (Or.inl rfl) | exact Or.inr (Or.inr rfl)) ra_nil)))
  (rss_cons (rs_set (i := 2) (hs := rfl) (hf := (by first | exact Or.inl rfl | exact Or.inr rfl)) sc__law_course.nd rfl (by first | exact Or.inl rfl | exact Or.inr rfl) (re_if (rt_lt (v 5) re_int) (v 1) (re_call (hdb := (by decide)) (he := sn_name) (hpl := rfl) C__law_quad hg (hr.mono (by decide)) rfl (ra_cel (i := 0) (hd := (by decide)) (hcd := (by decide)) (hs := sn_name) rfl (by first | exact Or.inl rfl | exact Or.inr (Or.inl rfl) | exact Or.inr (Or.inr rfl)) ra_nil))))
  (rss_cons (rs_set (i := 3) (hs := rfl) (hf := (by first | exact Or.inl rfl | exact Or.inr rfl)) sc__law_course.nd rfl (by first | exact Or.inl rfl | exact Or.inr rfl) (re_call (hdb := (by decide)) (he := sn_name) (hpl := rfl) C__law_folded hg (hr.mono (by decide)) rfl (ra_cons (hs := sn_name) (v 1) (ra_cons (hs := sn_name) (v 2) ra_nil))))
  (rss_cons (rs_if (rt_eq (hu64 hr) (v 5) re_int) (rss_one (rs_set (i := 3) (hs := rfl) (hf := (by first | exact Or.inl rfl | exact Or.inr rfl)) sc__law_course.nd rfl (by first | exact Or.inl rfl | exact Or.inr rfl) (re_ofL (rl_lc (own := [("_law_part", 8)]) (hs := fun _ => rfl) rfl sc__law_course.nd (ri_seq (v 3)) (blkOk_by (N := n__law_course) (sc := defScope s__law_course) (by decide +kernel)) (fun _ _ _ _ _ => (rg_name (i := 8) sc__law_course.nd rfl (by first | exact Or.inl rfl | exact Or.inr rfl))) (fun _ _ _ _ _ => rts_nil) (fun _ _ _ _ _ => (re_sub re_int (v 8))) (by decide))))) rss_nil)
  (rss_cons (rs_if (rt_eq (hu64 hr) (v 5) re_int) (rss_one (rs_set (i := 3) (hs := rfl) (hf := (by first | exact Or.inl rfl | exact Or.inr rfl)) sc__law_course.nd rfl (by first | exact Or.inl rfl | exact Or.inr rfl) (re_ofL (rl_lc (own := [("_law_k", 9)]) (hs := fun _ => rfl) rfl sc__law_course.nd (ri_range1 (hs := rfl) rfl T.b_range (ra_cons (hs := sn_const) re_int ra_nil)) (blkOk_by (N := n__law_course) (sc := defScope s__law_course) (by decide +kernel)) (fun _ _ _ _ _ => (rg_name (i := 9) sc__law_course.nd rfl (by first | exact Or.inl rfl | exact Or.inr rfl))) (fun _ _ _ _ _ => rts_nil) (fun _ _ _ _ _ => (re_call (hdb := (by decide)) (he := sn_name) (hpl := rfl) C__law_about hg (hr.mono (by decide)) rfl (ra_cel (i := 0) (hd := (by decide)) (hcd := (by decide)) (hs := sn_name) rfl (by first | exact Or.inl rfl | exact Or.inr (Or.inl rfl) | exact Or.inr (Or.inr rfl)) (ra_cons (hs := sn_const) re_int ra_nil)))) (by decide))))) rss_nil)
  (rss_cons (rs_set (i := 4) (hs := rfl) (hf := (by first | exact Or.inl rfl | exact Or.inr rfl)) sc__law_course.nd rfl (by first | exact Or.inl rfl | exact Or.inr rfl) (re_ofL (rl_lst (ra_cons (hs := sn_name) (v 6) (ra_cons (hs := sn_const) re_int (ra_cons (hs := sn_bin) (re_mul re_int (v 6)) (ra_cons (hs := sn_const) re_int (ra_cons (hs := sn_name) (v 6) ra_nil))))))))
  (rss_one (rs_ret (re_tup (ra_cons (hs := sn_call) (re_call (hdb := (by decide)) (he := sn_bin) (hpl := rfl) C__law_low hg (hr.mono (by decide)) rfl (ra_cons (hs := sn_bin) (re_plus (re_ofL (rl_lc (own := [("_law_k", 9)]) (hs := fun _ => rfl) rfl sc__law_course.nd (ri_range1 (hs := rfl) rfl T.b_range (ra_cons (hs := sn_const) re_int ra_nil)) (blkOk_by (N := n__law_course) (sc := defScope s__law_course) (by decide +kernel)) (fun _ _ _ _ _ => (rg_name (i := 9) sc__law_course.nd rfl (by first | exact Or.inl rfl | exact Or.inr rfl))) (fun _ _ _ _ _ => rts_nil) (fun _ _ _ _ _ => (re_plus (re_ix (hs := fun _ _ => rfl) (v 3) (v 9)) (re_ix (hs := fun _ _ => rfl) (v 4) (v 9)))) (by decide))) (re_ofL (rl_lst (ra_cons (hs := sn_name) (v 7) ra_nil)))) ra_nil)) (ra_cons (hs := sn_call) (re_call (hdb := (by decide)) (he := sn_name) (hpl := rfl) C__law_ratio hg (hr.mono (by decide)) rfl (ra_cons (hs := sn_name) (v 6) (ra_cons (hs := sn_name) (v 7) ra_nil))) ra_nil))))))))))))
theorem ok__law_fraction {f : Addr} {fd : FuncData} (U : Fun K "_law_fraction" "_law_fraction" s__law_fraction f fd) (T : Tx K mg) (C__law_about : At P w K mg base 2 "_law_about" ["_law_source_here", "_law_most"] F__law_about) (C__law_draw : At P w K mg base 1 "_law_draw" ["_law_source_here", "_law_top"] F__law_draw) (C__law_pick : At P w K mg base 2 "_law_pick" ["_law_source_here", "_law_some"] F__law_pick_K36) (C__law_ratio : At P w K mg base 2 "_law_ratio" ["_law_top", "_law_under"] F__law_ratio_K36) : FnG P w K mg base 3 f fd ["_law_source_here"] F__law_fraction := by
  refine fng_of (n0 := 1) (k := 2) U sc__law_fraction (fun cdv A outer s H E hg hr => ?_)
  exact (rss_cons (rs_set (i := 1) (hs := rfl) (hf := (by first | exact Or.inl rfl | exact Or.inr rfl)) sc__law_fraction.nd rfl (by first | exact Or.inl rfl | exact Or.inr rfl) (re_call (hdb := (by decide)) (he := sn_name) (hpl := rfl) C__law_pick hg (hr.mono (by decide)) rfl (ra_cel (i := 0) (hd := (by decide)) (hcd := (by decide)) (hs := sn_name) rfl (by first | exact Or.inl rfl | exact Or.inr (Or.inl rfl) | exact Or.inr (Or.inr rfl)) (ra_cons (hs := sn_tup) (re_tup (ra_cons (hs := sn_const) re_int (ra_cons (hs := sn_const) re_int (ra_cons (hs := sn_const) re_int (ra_cons (hs := sn_const) re_int ra_nil))))) ra_nil))))
  (rss_one (rs_ret (re_call (hdb := (by decide)) (he := sn_call) (hpl := rfl) C__law_ratio hg (hr.mono (by decide)) rfl (ra_cons (hs := sn_call) (re_call (hdb := (by decide)) (he := sn_name) (hpl := rfl) C__law_about hg (hr.mono (by decide)) rfl (ra_cel (i := 0) (hd := (by decide)) (hcd := (by decide)) (hs := sn_name) rfl (by first | exact Or.inl rfl | exact Or.inr (Or.inl rfl) | exact Or.inr (Or.inr rfl)) (ra_cons (hs := sn_name) (v 1) ra_nil))) (ra_cons (hs := sn_bin) (re_plus re_int (re_call (hdb := (by decide)) (he := sn_name) (hpl := rfl) C__law_draw hg (hr.mono (by decide)) rfl (ra_cel (i := 0) (hd := (by decide)) (hcd := (by decide)) (hs := sn_name) rfl (by first | exact Or.inl rfl | exact Or.inr (Or.inl rfl) | exact Or.inr (Or.inr rfl)) (ra_cons (hs := sn_name) (v 1) ra_nil)))) ra_nil))))))
theorem ok__law_slots {f : Addr} {fd : FuncData} (U : Fun K "_law_slots" "_law_slots" s__law_slots f fd) (T : Tx K mg) (C__law_slot : At P w K mg base 3 "_law_slot" ["_law_source_here"] F__law_slot) : FnG P w K mg base 4 f fd ["_law_source_here"] F__law_slots := by
  refine fng_of (n0 := 1) (k := 3) U sc__law_slots (fun cdv A outer s H E hg hr => ?_)
  exact (rss_cons (rs_new (i := 1) (hs := rfl) (hf := (by first | exact Or.inl rfl | exact Or.inr rfl)) sc__law_slots.nd rfl (by first | exact Or.inl rfl | exact Or.inr rfl) (rl_lst ra_nil))
  (rss_cons (rs_for (hs := fun _ => rfl) PassesOwn.never rfl (ri_range1 (hs := rfl) rfl T.b_range (ra_cons (hs := sn_const) re_int ra_nil)) (rg_name (i := 2) sc__law_slots.nd rfl (by first | exact Or.inl rfl | exact Or.inr rfl)) (fun _ => (rss_one (rs_app (i := 1) (hd := (by decide)) (hcd := (by decide)) (hbase := rfl) (hfew := rfl) (hline := rfl) (hs := by first | rfl | with_reducible exact sn_call) (hplain := rfl) (hsw := rfl) rfl (by first | exact Or.inl rfl | exact Or.inr (Or.inl rfl) | exact Or.inr (Or.inr rfl)) (re_call (hdb := (by decide)) (he := sn_name) (hpl := rfl) C__law_slot hg (hr.mono (by decide)) rfl (ra_cel (i := 0) (hd := (by decide)) (hcd := (by decide)) (hs := sn_name) rfl (by first | exact Or.inl rfl | exact Or.inr (Or.inl rfl) | exact Or.inr (Or.inr rfl)) ra_nil))))))
  (rss_cons (rs_for (hs := fun _ => rfl) PassesOwn.never rfl (ri_seq (re_tup (ra_cons (hs := sn_tup) (re_tup (ra_cons (hs := sn_const) re_int (ra_cons (hs := sn_const) re_int ra_nil))) (ra_cons (hs := sn_tup) (re_tup (ra_cons (hs := sn_const) re_int (ra_cons (hs := sn_const) re_int ra_nil))) (ra_cons (hs := sn_tup) (re_tup (ra_cons (hs := sn_const) re_int (ra_cons (hs := sn_const) re_int ra_nil))) (ra_cons (hs := sn_tup) (re_tup (ra_cons (hs := sn_un) (re_neg re_int) (ra_cons (hs := sn_const) re_int ra_nil))) (ra_cons (hs := sn_tup) (re_tup (ra_cons (hs := sn_const) re_int (ra_cons (hs := sn_const) re_int ra_nil))) ra_nil))))))) (rg_name (i := 3) sc__law_slots.nd rfl (by first | exact Or.inl rfl | exact Or.inr rfl)) (fun _ => (rss_one (rs_app (i := 1) (hd := (by decide)) (hcd := (by decide)) (hbase := rfl) (hfew := rfl) (hline := rfl) (hs := by first | rfl | with_reducible exact sn_name) (hplain := rfl) (hsw := rfl) rfl (by first | exact Or.inl rfl | exact Or.inr (Or.inl rfl) | exact Or.inr (Or.inr rfl)) (v 3)))))
  (rss_frz (rss_cons (rs_new (i := 4) (hs := rfl) (hf := (by first | exact Or.inl rfl | exact Or.inr rfl)) sc__law_slots.nd rfl (by first | exact Or.inl rfl | exact Or.inr rfl) (rl_lst ra_nil))
  (rss_cons (rs_for (hs := fun _ => rfl) PassesOwn.never rfl (ri_seq (v 1)) (rg_name (i := 3) sc__law_slots.nd rfl (by first | exact Or.inl rfl | exact Or.inr rfl)) (fun _ => (rss_one (rs_if (rt_thaw (rt_notInD (hu65 hr) (hm := by with_unfolding_all rfl) (v 3) (v 4))) (rss_one (rs_app (i := 4) (hd := (by decide)) (hcd := (by decide)) (hbase := rfl) (hfew := rfl) (hline := rfl) (hs := by first | rfl | with_reducible exact sn_name) (hplain := rfl) (hsw := rfl) rfl (by first | exact Or.inl rfl | exact Or.inr (Or.inl rfl) | exact Or.inr (Or.inr rfl)) (v 3))) rss_nil))))
  (rss_frz (rss_one (rs_ret (re_sl (v 4) ro_none (ro_some re_int)))))))))))
theorem ok__law_parts {f : Addr} {fd : FuncData} (U : Fun K "_law_parts" "_law_parts" s__law_parts f fd) (T : Tx K mg) (C__law_ratio : At P w K mg base 2 "_law_ratio" ["_law_top", "_law_under"] F__law_ratio_K36) : FnG P w K mg base 3 f fd ["_law_row"] F__law_parts := by
  refine fng_of (n0 := 0) (k := 2) U sc__law_parts (fun cdv A outer s H E hg hr => ?_)
  exact (rss_cons (rs_asg (hs := rfl) (hw := rfl) (h1 := rfl) (v 0) (rg_tupK K rfl (hn := rfl) (hst := rfl) rfl (rgs_cons (hs := rfl) (rg_name (i := 2) sc__law_parts.nd rfl (by first | exact Or.inl rfl | exact Or.inr rfl)) (rgs_cons (hs := rfl) (rg_name (i := 3) sc__law_parts.nd rfl (by first | exact Or.inl rfl | exact Or.inr rfl)) (rgs_cons (hs := rfl) (rg_name (i := 4) sc__law_parts.nd rfl (by first | exact Or.inl rfl | exact Or.inr rfl)) (rgs_cons (hs := rfl) (rg_name (i := 5) sc__law_parts.nd rfl (by first | exact Or.inl rfl | exact Or.inr rfl)) (rgs_cons (hs := rfl) (rg_name (i := 6) sc__law_parts.nd rfl (by first | exact Or.inl rfl | exact Or.inr rfl)) (rgs_cons (hs := rfl) (rg_name (i := 7) sc__law_parts.nd rfl (by first | exact Or.inl rfl | exact Or.inr rfl)) rgs_nil))))))))
  (rss_cons (rs_set (i := 1) (hs := rfl) (hf := (by first | exact Or.inl rfl | exact Or.inr rfl)) sc__law_parts.nd rfl (by first | exact Or.inl rfl | exact Or.inr rfl) (re_ofL (rl_lst (ra_cons (hs := sn_call) (re_call (hdb := (by decide)) (he := sn_bin) (hpl := rfl) C__law_ratio hg (hr.mono (by decide)) rfl (ra_cons (hs := sn_bin) (re_plus (re_plus (re_mul re_int (v 2)) (v 4)) (re_mul re_int (v 6))) (ra_cons (hs := sn_bin) (re_mul re_int (v 7)) ra_nil))) (ra_cons (hs := sn_call) (re_call (hdb := (by decide)) (he := sn_bin) (hpl := rfl) C__law_ratio hg (hr.mono (by decide)) rfl (ra_cons (hs := sn_bin) (re_sub (v 2) (v 6)) (ra_cons (hs := sn_bin) (re_mul re_int (v 7)) ra_nil))) (ra_cons (hs := sn_call) (re_call (hdb := (by decide)) (he := sn_bin) (hpl := rfl) C__law_ratio hg (hr.mono (by decide)) rfl (ra_cons (hs := sn_bin) (re_plus (v 3) (v 5)) (ra_cons (hs := sn_bin) (re_mul re_int (v 7)) ra_nil))) ra_nil))))))
  (rss_one (rs_ret (re_tuple (he := sn_bin) rfl T.b_tuple (ra_cons (hs := sn_bin) (re_plus (v 1) (re_ofL (rl_lst (ra_cons (hs := sn_call) (re_call (hdb := (by decide)) (he := sn_bin) (hpl := rfl) C__law_ratio hg (hr.mono (by decide)) rfl (ra_cons (hs := sn_bin) (re_plus (re_sub (v 2) (v 4)) (v 6)) (ra_cons (hs := sn_bin) (re_mul re_int (v 7)) ra_nil))) (ra_cons (hs := sn_call) (re_call (hdb := (by decide)) (he := sn_bin) (hpl := rfl) C__law_ratio hg (hr.mono (by decide)) rfl (ra_cons (hs := sn_bin) (re_sub (v 3) (v 5)) (ra_cons (hs := sn_bin) (re_mul re_int (v 7)) ra_nil))) ra_nil))))) ra_nil))))))
theorem ok__law_laid {f : Addr} {fd : FuncData} (U : Fun K "_law_laid" "_law_laid" s__law_laid f fd) (T : Tx K mg) (C__law_low : At P w K mg base 2 "_law_low" ["_law_row"] F__law_low_K36) : FnG P w K mg base 3 f fd ["_law_parts_here"] F__law_laid_K35 := by
  refine fng_of (n0 := 0) (k := 2) U sc__law_laid (fun cdv A outer s H E hg hr => ?_)
  exact (rss_cons (rs_set (i := 1) (hs := rfl) (hf := (by first | exact Or.inl rfl | exact Or.inr rfl)) sc__law_laid.nd rfl (by first | exact Or.inl rfl | exact Or.inr rfl) re_int)
  (rss_cons (rs_for (hs := fun _ => rfl) PassesOwn.never rfl (ri_seq (v 0)) (rg_name (i := 2) sc__law_laid.nd rfl (by first | exact Or.inl rfl | exact Or.inr rfl)) (fun _ => (rss_one (rs_set (i := 1) (hs := rfl) (hf := (by first | exact Or.inl rfl | exact Or.inr rfl)) sc__law_laid.nd rfl (by first | exact Or.inl rfl | exact Or.inr rfl) (re_mul (v 1) (re_ix (hs := fun _ _ => rfl) (v 2) re_int))))))
  (rss_cons (rs_asg (hs := rfl) (hw := rfl) (h1 := rfl) (re_ofL (rl_lc (own := [("_law_part", 2)]) (hs := fun _ => rfl) rfl sc__law_laid.nd (ri_seq (v 0)) (blkOk_by (N := n__law_laid) (sc := defScope s__law_laid) (by decide +kernel)) (fun _ _ _ _ _ => (rg_name (i := 2) sc__law_laid.nd rfl (by first | exact Or.inl rfl | exact Or.inr rfl))) (fun _ _ _ _ _ => rts_nil) (fun _ _ _ _ _ => (re_mul (re_ix (hs := fun _ _ => rfl) (v 2) re_int) (re_div (v 1) (re_ix (hs := fun _ _ => rfl) (v 2) re_int)))) (by decide))) (rg_lstK K rfl (hn := rfl) (hst := rfl) rfl (rgs_cons (hs := rfl) (rg_name (i := 3) sc__law_laid.nd rfl (by first | exact Or.inl rfl | exact Or.inr rfl)) (rgs_cons (hs := rfl) (rg_name (i := 4) sc__law_laid.nd rfl (by first | exact Or.inl rfl | exact Or.inr rfl)) (rgs_cons (hs := rfl) (rg_name (i := 5) sc__law_laid.nd rfl (by first | exact Or.inl rfl | exact Or.inr rfl)) (rgs_cons (hs := rfl) (rg_name (i := 6) sc__law_laid.nd rfl (by first | exact Or.inl rfl | exact Or.inr rfl)) (rgs_cons (hs := rfl) (rg_name (i := 7) sc__law_laid.nd rfl (by first | exact Or.inl rfl | exact Or.inr rfl)) rgs_nil)))))))
  (rss_one (rs_ret (re_call (hdb := (by decide)) (he := sn_tup) (hpl := rfl) C__law_low hg (hr.mono (by decide)) rfl (ra_cons (hs := sn_tup) (re_tup (ra_cons (hs := sn_bin) (re_plus (re_plus (v 3) (v 4)) (v 6)) (ra_cons (hs := sn_bin) (re_plus (re_mul re_int (v 5)) (re_mul re_int (v 7))) (ra_cons (hs := sn_bin) (re_sub (re_mul re_int (v 3)) (re_mul re_int (v 6))) (ra_cons (hs := sn_bin) (re_sub (re_mul re_int (v 5)) (re_mul re_int (v 7))) (ra_cons (hs := sn_bin) (re_plus (re_sub (v 3) (v 4)) (v 6)) (ra_cons (hs := sn_name) (v 1) ra_nil))))))) ra_nil)))))))
theorem ok__law_less {f : Addr} {fd : FuncData} (U : Fun K "_law_less" "_law_less" s__law_less f fd) (T : Tx K mg) (C__law_low : At P w K mg base 2 "_law_low" ["_law_row"] F__law_low_K36) : FnG P w K mg base 3 f fd ["_law_one", "_law_two"] F__law_less := by
  refine fng_of (n0 := 0) (k := 2) U sc__law_less (fun cdv A outer s H E hg hr => ?_)
  exact (rss_one (rs_ret (re_call (hdb := (by decide)) (he := sn_bin) (hpl := rfl) C__law_low hg (hr.mono (by decide)) rfl (ra_cons (hs := sn_bin) (re_plus (re_ofL (rl_lc (own := [("_law_k", 2)]) (hs := fun _ => rfl) rfl sc__law_less.nd (ri_range1 (hs := rfl) rfl T.b_range (ra_cons (hs := sn_const) re_int ra_nil)) (blkOk_by (N := n__law_less) (sc := defScope s__law_less) (by decide +kernel)) (fun _ _ _ _ _ => (rg_name (i := 2) sc__law_less.nd rfl (by first | exact Or.inl rfl | exact Or.inr rfl))) (fun _ _ _ _ _ => rts_nil) (fun _ _ _ _ _ => (re_sub (re_mul (re_ix (hs := fun _ _ => rfl) (v 0) (v 2)) (re_ix (hs := fun _ _ => rfl) (v 1) re_int)) (re_mul (re_ix (hs := fun _ _ => rfl) (v 1) (v 2)) (re_ix (hs := fun _ _ => rfl) (v 0) re_int)))) (by decide))) (re_ofL (rl_lst (ra_cons (hs := sn_bin) (re_mul (re_ix (hs := fun _ _ => rfl) (v 0) re_int) (re_ix (hs := fun _ _ => rfl) (v 1) re_int)) ra_nil)))) ra_nil))))
theorem ok__law_are_through {f : Addr} {fd : FuncData} (U : Fun K "_law_are_through" "_law_are_through" s__law_are_through f fd) (T : Tx K mg) (C__law_at : At P w K mg base 3 "_law_at" ["_law_row", "_law_slot_here"] F__law_at_K36) (C__law_fraction : At P w K mg base 3 "_law_fraction" ["_law_source_here"] F__law_fraction) (C__law_low : At P w K mg base 2 "_law_low" ["_law_row"] F__law_low_K36) (C__law_slots : At P w K mg base 4 "_law_slots" ["_law_source_here"] F__law_slots) (C_course_through : At P w K mg base 7 "course_through" ["samples"] F_course_through) (C_is_course : At P w K mg base 4 "is_course" ["value"] F_is_course) (C_level_at : At P w K mg base 6 "level_at" ["course", "setting"] F_level_at) : FnG P w K mg base 8 f fd ["_law_source_here", "_law_row"] F__law_are_through := by
  refine fng_of (n0 := 1) (k := 7) U sc__law_are_through (fun cdv A outer s H E hg hr => ?_)
  exact (rss_cons (rs_set (i := 2) (hs := rfl) (hf := (by first | exact Or.inl rfl | exact Or.inr rfl)) sc__law_are_through.nd rfl (by first | exact Or.inl rfl | exact Or.inr rfl) (re_call (hdb := (by decide)) (he := sn_name) (hpl := rfl) C__law_slots hg (hr.mono (by decide)) rfl (ra_cel (i := 0) (hd := (by decide)) (hcd := (by decide)) (hs := sn_name) rfl (by first | exact Or.inl rfl | exact Or.inr (Or.inl rfl) | exact Or.inr (Or.inr rfl)) ra_nil)))
  (rss_cons (rs_set (i := 3) (hs := rfl) (hf := (by first | exact Or.inl rfl | exact Or.inr rfl)) sc__law_are_through.nd rfl (by first | exact Or.inl rfl | exact Or.inr rfl) (re_call (hdb := (by decide)) (he := sn_call) (hpl := rfl) C_course_through hg (hr.mono (by decide)) rfl (ra_cons (hs := sn_call) (re_tuple (he := sn_lc) rfl T.b_tuple (ra_cons (hs := sn_lc) (re_ofL (rl_lc (own := [("_law_slot_here", 5)]) (hs := fun _ => rfl) rfl sc__law_are_through.nd (ri_seq (v 2)) (blkOk_by (N := n__law_are_through) (sc := defScope s__law_are_through) (by decide +kernel)) (fun _ _ _ _ _ => (rg_name (i := 5) sc__law_are_through.nd rfl (by first | exact Or.inl rfl | exact Or.inr rfl))) (fun _ _ _ _ _ => rts_nil) (fun _ _ _ _ _ => (re_tup (ra_cons (hs := sn_name) (v 5) (ra_cons (hs := sn_call) (re_call (hdb := (by decide)) (he := sn_name) (hpl := rfl) C__law_at hg (hr.mono (by decide)) rfl (ra_cons (hs := sn_name) (v 1) (ra_cons (hs := sn_name) (v 5) ra_nil))) ra_nil)))) (by decide))) ra_nil)) ra_nil)))
  (rss_cons (rs_if (rt_ne (hu64 hr) (re_repr (he := sn_name) hg (hu64 hr) rfl T.b_repr (ra_cons (hs := sn_name) (v 3) ra_nil)) (re_repr (he := sn_name) hg (hu64 hr) rfl T.b_repr (ra_cons (hs := sn_name) (v 1) ra_nil))) (rss_one (rs_ret re_bl)) rss_nil)
  (rss_cons (rs_set (i := 4) (hs := rfl) (hf := (by first | exact Or.inl rfl | exact Or.inr rfl)) sc__law_are_through.nd rfl (by first | exact Or.inl rfl | exact Or.inr rfl) (re_tuple (he := sn_lc) rfl T.b_tuple (ra_cons (hs := sn_lc) (re_ofL (rl_lc (own := [("_law_slot_here", 5)]) (hs := fun _ => rfl) rfl sc__law_are_through.nd (ri_seq (v 2)) (blkOk_by (N := n__law_are_through) (sc := defScope s__law_are_through) (by decide +kernel)) (fun _ _ _ _ _ => (rg_name (i := 5) sc__law_are_through.nd rfl (by first | exact Or.inl rfl | exact Or.inr rfl))) (fun _ _ _ _ _ => rts_nil) (fun _ _ _ _ _ => (re_tup (ra_cons (hs := sn_name) (v 5) (ra_cons (hs := sn_call) (re_call (hdb := (by decide)) (he := sn_name) (hpl := rfl) C__law_fraction hg (hr.mono (by decide)) rfl (ra_cel (i := 0) (hd := (by decide)) (hcd := (by decide)) (hs := sn_name) rfl (by first | exact Or.inl rfl | exact Or.inr (Or.inl rfl) | exact Or.inr (Or.inr rfl)) ra_nil)) ra_nil)))) (by decide))) ra_nil)))
  (rss_cons (rs_set (i := 3) (hs := rfl) (hf := (by first | exact Or.inl rfl | exact Or.inr rfl)) sc__law_are_through.nd rfl (by first | exact Or.inl rfl | exact Or.inr rfl) (re_callk (hall := rfl) (hks := rfl) (hdb := (by decide)) (hpl := rfl) C_course_through hg (hr.mono (by decide)) rfl (rk_cons (v 4) rk_nil)))
  (rss_cons (rs_if (rt_w (rw_or (rt_not (rt_val (he := fun _ => rfl) (re_isi (he := sn_name) (he2 := sn_name) (hpl := rfl) (hnT := (by decide)) (hdT := (by decide)) rfl T.b_isinstance rfl T.b_tuple (by decide +kernel) (v 3)))) (rw_or (rt_ne (hu64 hr) (re_len (he := sn_name) rfl T.b_len (ra_cons (hs := sn_name) (v 3) ra_nil)) re_int) (rw_or (rt_not (rt_val (he := fun _ => rfl) (re_call (hdb := (by decide)) (he := sn_name) (hpl := rfl) C_is_course hg (hr.mono (by decide)) rfl (ra_cons (hs := sn_name) (v 3) ra_nil)))) (rw_or (rt_ne (hu64 hr) (re_call (hdb := (by decide)) (he := sn_name) (hpl := rfl) C__law_low hg (hr.mono (by decide)) rfl (ra_cons (hs := sn_name) (v 3) ra_nil)) (v 3)) (rw_or1 (rt_lt (re_ix (hs := fun _ _ => rfl) (v 3) re_int) re_int))))))) (rss_one (rs_ret re_bl)) rss_nil)
  (rss_one (rs_ret (re_eq (hu64 hr) (re_ofL (rl_lc (own := [("_law_pair", 6)]) (hs := fun _ => rfl) rfl sc__law_are_through.nd (ri_seq (v 4)) (blkOk_by (N := n__law_are_through) (sc := defScope s__law_are_through) (by decide +kernel)) (fun _ _ _ _ _ => (rg_name (i := 6) sc__law_are_through.nd rfl (by first | exact Or.inl rfl | exact Or.inr rfl))) (fun _ _ _ _ _ => (rts_one (rt_w (rw_or (rt_ne (hu64 hr) (re_call (hdb := (by decide)) (he := sn_name) (hpl := rfl) C__law_at hg (hr.mono (by decide)) rfl (ra_cons (hs := sn_name) (v 3) (ra_cons (hs := sn_sub) (re_ix (hs := fun _ _ => rfl) (v 6) re_int) ra_nil))) (re_ix (hs := fun _ _ => rfl) (v 6) re_int)) (rw_or1 (rt_ne (hu64 hr) (re_call (hdb := (by decide)) (he := sn_name) (hpl := rfl) C_level_at hg (hr.mono (by decide)) rfl (ra_cons (hs := sn_name) (v 3) (ra_cons (hs := sn_sub) (re_ix (hs := fun _ _ => rfl) (v 6) re_int) ra_nil))) (re_ix (hs := fun _ _ => rfl) (v 6) re_int))))))) (fun _ _ _ _ _ => (v 6)) (by decide))) (re_ofL (rl_lst ra_nil)))))))))))
theorem ok__law_right {f : Addr} {fd : FuncData} (U : Fun K "_law_right" "_law_right" s__law_right f fd) (T : Tx K mg) (C__law_are_through : At P w K mg base 8 "_law_are_through" ["_law_source_here", "_law_row"] F__law_are_through) (C__law_at : At P w K mg base 3 "_law_at" ["_law_row", "_law_slot_here"] F__law_at_K36) (C__law_course : At P w K mg base 4 "_law_course" ["_law_source_here"] F__law_course) (C__law_draw : At P w K mg base 1 "_law_draw" ["_law_source_here", "_law_top"] F__law_draw) (C__law_fraction : At P w K mg base 3 "_law_fraction" ["_law_source_here"] F__law_fraction) (C__law_laid : At P w K mg base 3 "_law_laid" ["_law_parts_here"] F__law_laid_K35) (C__law_less : At P w K mg base 3 "_law_less" ["_law_one", "_law_two"] F__law_less) (C__law_low : At P w K mg base 2 "_law_low" ["_law_row"] F__law_low_K36) (C__law_parts : At P w K mg base 3 "_law_parts" ["_law_row"] F__law_parts) (C__law_slot : At P w K mg base 3 "_law_slot" ["_law_source_here"] F__law_slot) (C__law_summed : At P w K mg base 4 "_law_summed" ["_law_one", "_law_two"] F__law_summed) (C_course_less : At P w K mg base 6 "course_less" ["course", "other"] F_course_less) (C_course_of : At P w K mg base 3 "course_of" ["numbers", "below"] F_course_of) (C_course_of_parts : At P w K mg base 6 "course_of_parts" ["parts"] F_course_of_parts) (C_course_parts : At P w K mg base 6 "course_parts" ["course"] F_course_parts) (C_is_course : At P w K mg base 4 "is_course" ["value"] F_is_course) (C_level_at : At P w K mg base 6 "level_at" ["course", "setting"] F_level_at) (C_level_course : At P w K mg base 6 "level_course" ["level"] F_level_course) (C_setting_back : At P w K mg base 6 "setting_back" ["setting"] F_setting_back) (C_setting_sum : At P w K mg base 6 "setting_sum" ["setting", "other"] F_setting_sum) (C_course_less_by10 : AtP P w K mg base 6 "course_less" ["course", "other"] ["other", "course"] [1, 0] F_course_less) (C_course_of_by10 : AtP P w K mg base 3 "course_of" ["numbers", "below"] ["below", "numbers"] [1, 0] F_course_of) (C_level_at_by10 : AtP P w K mg base 6 "level_at" ["course", "setting"] ["setting", "course"] [1, 0] F_level_at) (C_setting_sum_by10 : AtP P w K mg base 6 "setting_sum" ["setting", "other"] ["other", "setting"] [1, 0] F_setting_sum) : FnG P w K mg base 9 f fd ["_law_source_here"] F__law_right_K35 := by
  refine fng_of (n0 := 1) (k := 8) U sc__law_right (fun cdv A outer s H E hg hr => ?_)
  exact (rss_cons (rs_asg (hs := rfl) (hw := rfl) (h1 := rfl) (re_call (hdb := (by decide)) (he := sn_name) (hpl := rfl) C__law_course hg (hr.mono (by decide)) rfl (ra_cel (i := 0) (hd := (by decide)) (hcd := (by decide)) (hs := sn_name) rfl (by first | exact Or.inl rfl | exact Or.inr (Or.inl rfl) | exact Or.inr (Or.inr rfl)) ra_nil)) (rg_tupK K rfl (hn := rfl) (hst := rfl) rfl (rgs_cons (hs := rfl) (rg_name (i := 8) sc__law_right.nd rfl (by first | exact Or.inl rfl | exact Or.inr rfl)) (rgs_cons (hs := rfl) (rg_name (i := 9) sc__law_right.nd rfl (by first | exact Or.inl rfl | exact Or.inr rfl)) rgs_nil))))
  (rss_cons (rs_set (i := 1) (hs := rfl) (hf := (by first | exact Or.inl rfl | exact Or.inr rfl)) sc__law_right.nd rfl (by first | exact Or.inl rfl | exact Or.inr rfl) (re_ix (hs := fun _ _ => rfl) (re_call (hdb := (by decide)) (he := sn_name) (hpl := rfl) C__law_course hg (hr.mono (by decide)) rfl (ra_cel (i := 0) (hd := (by decide)) (hcd := (by decide)) (hs := sn_name) rfl (by first | exact Or.inl rfl | exact Or.inr (Or.inl rfl) | exact Or.inr (Or.inr rfl)) ra_nil)) re_int))
  (rss_cons (rs_par (i := 10) (j := 11) rfl sc__law_right.nd rfl rfl (by decide) rfl rfl (ra_cons (hs := sn_call) (re_call (hdb := (by decide)) (he := sn_name) (hpl := rfl) C__law_slot hg (hr.mono (by decide)) rfl (ra_cel (i := 0) (hd := (by decide)) (hcd := (by decide)) (hs := sn_name) rfl (by first | exact Or.inl rfl | exact Or.inr (Or.inl rfl) | exact Or.inr (Or.inr rfl)) ra_nil)) (ra_cons (hs := sn_call) (re_call (hdb := (by decide)) (he := sn_name) (hpl := rfl) C__law_slot hg (hr.mono (by decide)) rfl (ra_cel (i := 0) (hd := (by decide)) (hcd := (by decide)) (hs := sn_name) rfl (by first | exact Or.inl rfl | exact Or.inr (Or.inl rfl) | exact Or.inr (Or.inr rfl)) ra_nil)) ra_nil)) (P := ps_par (by rfl) sc__law_right.nd rfl rfl (by decide) rfl rfl (pwA _) (by rfl)))
  (rss_cons (rs_set (i := 2) (hs := rfl) (hf := (by first | exact Or.inl rfl | exact Or.inr rfl)) sc__law_right.nd rfl (by first | exact Or.inl rfl | exact Or.inr rfl) (re_plus re_int (re_call (hdb := (by decide)) (he := sn_name) (hpl := rfl) C__law_draw hg (hr.mono (by decide)) rfl (ra_cel (i := 0) (hd := (by decide)) (hcd := (by decide)) (hs := sn_name) rfl (by first | exact Or.inl rfl | exact Or.inr (Or.inl rfl) | exact Or.inr (Or.inr rfl)) (ra_cons (hs := sn_const) re_int ra_nil)))))
  (rss_cons (rs_set (i := 3) (hs := rfl) (hf := (by first | exact Or.inl rfl | exact Or.inr rfl)) sc__law_right.nd rfl (by first | exact Or.inl rfl | exact Or.inr rfl) (re_ofL (rl_lst (ra_cons (hs := sn_call) (re_call (hdb := (by decide)) (he := sn_name) (hpl := rfl) C_level_at hg (hr.mono (by decide)) rfl (ra_cons (hs := sn_name) (v 8) (ra_cons (hs := sn_name) (v 10) ra_nil))) (ra_cons (hs := sn_call) (re_callkp (hall := rfl) (hks := rfl) (hdb := (by decide)) (hpl := rfl) C_level_at_by10 hg (hr.mono (by decide)) rfl (rk_cons (v 10) (rk_cons (v 8) rk_nil))) (ra_cons (hs := sn_call) (re_call (hdb := (by decide)) (he := sn_name) (hpl := rfl) C_level_course hg (hr.mono (by decide)) rfl (ra_cons (hs := sn_name) (v 9) ra_nil)) (ra_cons (hs := sn_call) (re_callk (hall := rfl) (hks := rfl) (hdb := (by decide)) (hpl := rfl) C_level_course hg (hr.mono (by decide)) rfl (rk_cons (v 9) rk_nil)) ra_nil)))))))
  (rss_cons (rs_set (i := 4) (hs := rfl) (hf := (by first | exact Or.inl rfl | exact Or.inr rfl)) sc__law_right.nd rfl (by first | exact Or.inl rfl | exact Or.inr rfl) (re_call (hdb := (by decide)) (he := sn_tup) (hpl := rfl) C__law_low hg (hr.mono (by decide)) rfl (ra_cons (hs := sn_tup) (re_tup (ra_cons (hs := sn_sub) (re_ix (hs := fun _ _ => rfl) (v 9) re_int) (ra_cons (hs := sn_const) re_int (ra_cons (hs := sn_bin) (re_mul re_int (re_ix (hs := fun _ _ => rfl) (v 9) re_int)) (ra_cons (hs := sn_const) re_int (ra_cons (hs := sn_sub) (re_ix (hs := fun _ _ => rfl) (v 9) re_int) (ra_cons (hs := sn_sub) (re_ix (hs := fun _ _ => rfl) (v 9) re_int) ra_nil))))))) ra_nil)))
  (rss_cons (rs_if (rt_ne (hu64 hr) (re_repr (he := sn_name) hg (hu64 hr) rfl T.b_repr (ra_cons (hs := sn_name) (v 3) ra_nil)) (re_repr (he := sn_bin) hg (hu64 hr) rfl T.b_repr (ra_cons (hs := sn_bin) (re_plus (re_rep (rl_lst (ra_cons (hs := sn_call) (re_call (hdb := (by decide)) (he := sn_name) (hpl := rfl) C__law_at hg (hr.mono (by decide)) rfl (ra_cons (hs := sn_name) (v 8) (ra_cons (hs := sn_name) (v 10) ra_nil))) ra_nil)) re_int) (re_rep (rl_lst (ra_cons (hs := sn_name) (v 4) ra_nil)) re_int)) ra_nil))) (rss_one (rs_ret re_bl)) rss_nil)
  (rss_cons (rs_set (i := 3) (hs := rfl) (hf := (by first | exact Or.inl rfl | exact Or.inr rfl)) sc__law_right.nd rfl (by first | exact Or.inl rfl | exact Or.inr rfl) (re_ofL (rl_lst (ra_cons (hs := sn_call) (re_call (hdb := (by decide)) (he := sn_call) (hpl := rfl) C_course_of hg (hr.mono (by decide)) rfl (ra_cons (hs := sn_call) (re_tuple (he := sn_lc) rfl T.b_tuple (ra_cons (hs := sn_lc) (re_ofL (rl_lc (own := [("_law_part", 13)]) (hs := fun _ => rfl) rfl sc__law_right.nd (ri_seq (re_sl (v 8) ro_none (ro_some re_int))) (blkOk_by (N := n__law_right) (sc := defScope s__law_right) (by decide +kernel)) (fun _ _ _ _ _ => (rg_name (i := 13) sc__law_right.nd rfl (by first | exact Or.inl rfl | exact Or.inr rfl))) (fun _ _ _ _ _ => rts_nil) (fun _ _ _ _ _ => (re_mul (v 2) (v 13))) (by decide))) ra_nil)) (ra_cons (hs := sn_bin) (re_mul (v 2) (re_ix (hs := fun _ _ => rfl) (v 8) re_int)) ra_nil))) (ra_cons (hs := sn_call) (re_callkp (hall := rfl) (hks := rfl) (hdb := (by decide)) (hpl := rfl) C_course_of_by10 hg (hr.mono (by decide)) rfl (rk_cons (re_ix (hs := fun _ _ => rfl) (v 8) re_int) (rk_cons (re_sl (v 8) ro_none (ro_some re_int)) rk_nil))) ra_nil)))))
  (rss_cons (rs_set (i := 3) (hs := rfl) (hf := (by first | exact Or.inl rfl | exact Or.inr rfl)) sc__law_right.nd rfl (by first | exact Or.inl rfl | exact Or.inr rfl) (re_plus (v 3) (re_ofL (rl_lst (ra_cons (hs := sn_call) (re_call (hdb := (by decide)) (he := sn_name) (hpl := rfl) C_course_less hg (hr.mono (by decide)) rfl (ra_cons (hs := sn_name) (v 8) (ra_cons (hs := sn_name) (v 1) ra_nil))) (ra_cons (hs := sn_call) (re_callkp (hall := rfl) (hks := rfl) (hdb := (by decide)) (hpl := rfl) C_course_less_by10 hg (hr.mono (by decide)) rfl (rk_cons (v 8) (rk_cons (v 1) rk_nil))) (ra_cons (hs := sn_call) (re_call (hdb := (by decide)) (he := sn_name) (hpl := rfl) C_course_less hg (hr.mono (by decide)) rfl (ra_cons (hs := sn_name) (v 8) (ra_cons (hs := sn_name) (v 8) ra_nil))) ra_nil)))))))
  (rss_cons (rs_if (rt_ne (hu64 hr) (re_repr (he := sn_name) hg (hu64 hr) rfl T.b_repr (ra_cons (hs := sn_name) (v 3) ra_nil)) (re_repr (he := sn_list) hg (hu64 hr) rfl T.b_repr (ra_cons (hs := sn_list) (re_ofL (rl_lst (ra_cons (hs := sn_name) (v 8) (ra_cons (hs := sn_name) (v 8) (ra_cons (hs := sn_call) (re_call (hdb := (by decide)) (he := sn_name) (hpl := rfl) C__law_less hg (hr.mono (by decide)) rfl (ra_cons (hs := sn_name) (v 8) (ra_cons (hs := sn_name) (v 1) ra_nil))) (ra_cons (hs := sn_call) (re_call (hdb := (by decide)) (he := sn_name) (hpl := rfl) C__law_less hg (hr.mono (by decide)) rfl (ra_cons (hs := sn_name) (v 1) (ra_cons (hs := sn_name) (v 8) ra_nil))) (ra_cons (hs := sn_tup) (re_tup (ra_cons (hs := sn_const) re_int (ra_cons (hs := sn_const) re_int (ra_cons (hs := sn_const) re_int (ra_cons (hs := sn_const) re_int (ra_cons (hs := sn_const) re_int (ra_cons (hs := sn_const) re_int ra_nil))))))) ra_nil))))))) ra_nil))) (rss_one (rs_ret re_bl)) rss_nil)
  (rss_cons (rs_set (i := 5) (hs := rfl) (hf := (by first | exact Or.inl rfl | exact Or.inr rfl)) sc__law_right.nd rfl (by first | exact Or.inl rfl | exact Or.inr rfl) (re_tuple (he := sn_lc) rfl T.b_tuple (ra_cons (hs := sn_lc) (re_ofL (rl_lc (own := [("_law_k", 12)]) (hs := fun _ => rfl) rfl sc__law_right.nd (ri_range1 (hs := rfl) rfl T.b_range (ra_cons (hs := sn_const) re_int ra_nil)) (blkOk_by (N := n__law_right) (sc := defScope s__law_right) (by decide +kernel)) (fun _ _ _ _ _ => (rg_name (i := 12) sc__law_right.nd rfl (by first | exact Or.inl rfl | exact Or.inr rfl))) (fun _ _ _ _ _ => rts_nil) (fun _ _ _ _ _ => (re_call (hdb := (by decide)) (he := sn_name) (hpl := rfl) C__law_fraction hg (hr.mono (by decide)) rfl (ra_cel (i := 0) (hd := (by decide)) (hcd := (by decide)) (hs := sn_name) rfl (by first | exact Or.inl rfl | exact Or.inr (Or.inl rfl) | exact Or.inr (Or.inr rfl)) ra_nil))) (by decide))) ra_nil)))
  (rss_cons (rs_set (i := 3) (hs := rfl) (hf := (by first | exact Or.inl rfl | exact Or.inr rfl)) sc__law_right.nd rfl (by first | exact Or.inl rfl | exact Or.inr rfl) (re_ofL (rl_lst (ra_cons (hs := sn_call) (re_call (hdb := (by decide)) (he := sn_name) (hpl := rfl) C_course_parts hg (hr.mono (by decide)) rfl (ra_cons (hs := sn_name) (v 8) ra_nil)) (ra_cons (hs := sn_call) (re_callk (hall := rfl) (hks := rfl) (hdb := (by decide)) (hpl := rfl) C_course_parts hg (hr.mono (by decide)) rfl (rk_cons (v 8) rk_nil)) (ra_cons (hs := sn_call) (re_call (hdb := (by decide)) (he := sn_name) (hpl := rfl) C_course_of_parts hg (hr.mono (by decide)) rfl (ra_cons (hs := sn_name) (v 5) ra_nil)) (ra_cons (hs := sn_call) (re_callk (hall := rfl) (hks := rfl) (hdb := (by decide)) (hpl := rfl) C_course_of_parts hg (hr.mono (by decide)) rfl (rk_cons (re_call (hdb := (by decide)) (he := sn_name) (hpl := rfl) C_course_parts hg (hr.mono (by decide)) rfl (ra_cons (hs := sn_name) (v 1) ra_nil)) rk_nil)) ra_nil)))))))
  (rss_cons (rs_if (rt_ne (hu64 hr) (re_repr (he := sn_name) hg (hu64 hr) rfl T.b_repr (ra_cons (hs := sn_name) (v 3) ra_nil)) (re_repr (he := sn_list) hg (hu64 hr) rfl T.b_repr (ra_cons (hs := sn_list) (re_ofL (rl_lst (ra_cons (hs := sn_call) (re_call (hdb := (by decide)) (he := sn_name) (hpl := rfl) C__law_parts hg (hr.mono (by decide)) rfl (ra_cons (hs := sn_name) (v 8) ra_nil)) (ra_cons (hs := sn_call) (re_call (hdb := (by decide)) (he := sn_name) (hpl := rfl) C__law_parts hg (hr.mono (by decide)) rfl (ra_cons (hs := sn_name) (v 8) ra_nil)) (ra_cons (hs := sn_call) (re_call (hdb := (by decide)) (he := sn_name) (hpl := rfl) C__law_laid hg (hr.mono (by decide)) rfl (ra_cons (hs := sn_name) (v 5) ra_nil)) (ra_cons (hs := sn_name) (v 1) ra_nil)))))) ra_nil))) (rss_one (rs_ret re_bl)) rss_nil)
  (rss_cons (rs_set (i := 6) (hs := rfl) (hf := (by first | exact Or.inl rfl | exact Or.inr rfl)) sc__law_right.nd rfl (by first | exact Or.inl rfl | exact Or.inr rfl) (re_if (rt_eq (hu64 hr) (re_ix (hs := fun _ _ => rfl) (v 10) re_int) re_int) (re_tup (ra_cons (hs := sn_const) re_int (ra_cons (hs := sn_const) re_int ra_nil))) (re_tup (ra_cons (hs := sn_bin) (re_sub re_int (re_ix (hs := fun _ _ => rfl) (v 10) re_int)) (ra_cons (hs := sn_sub) (re_ix (hs := fun _ _ => rfl) (v 10) re_int) ra_nil)))))
  (rss_cons (rs_set (i := 3) (hs := rfl) (hf := (by first | exact Or.inl rfl | exact Or.inr rfl)) sc__law_right.nd rfl (by first | exact Or.inl rfl | exact Or.inr rfl) (re_ofL (rl_lst (ra_cons (hs := sn_call) (re_call (hdb := (by decide)) (he := sn_name) (hpl := rfl) C_setting_sum hg (hr.mono (by decide)) rfl (ra_cons (hs := sn_name) (v 10) (ra_cons (hs := sn_name) (v 11) ra_nil))) (ra_cons (hs := sn_call) (re_callkp (hall := rfl) (hks := rfl) (hdb := (by decide)) (hpl := rfl) C_setting_sum_by10 hg (hr.mono (by decide)) rfl (rk_cons (v 10) (rk_cons (v 11) rk_nil))) (ra_cons (hs := sn_call) (re_call (hdb := (by decide)) (he := sn_name) (hpl := rfl) C_setting_back hg (hr.mono (by decide)) rfl (ra_cons (hs := sn_name) (v 10) ra_nil)) (ra_cons (hs := sn_call) (re_call (hdb := (by decide)) (he := sn_name) (hpl := rfl) C_setting_sum hg (hr.mono (by decide)) rfl (ra_cons (hs := sn_name) (v 10) (ra_cons (hs := sn_call) (re_call (hdb := (by decide)) (he := sn_name) (hpl := rfl) C_setting_back hg (hr.mono (by decide)) rfl (ra_cons (hs := sn_name) (v 10) ra_nil)) ra_nil))) ra_nil)))))))
  (rss_cons (rs_if (rt_ne (hu64 hr) (re_repr (he := sn_name) hg (hu64 hr) rfl T.b_repr (ra_cons (hs := sn_name) (v 3) ra_nil)) (re_repr (he := sn_list) hg (hu64 hr) rfl T.b_repr (ra_cons (hs := sn_list) (re_ofL (rl_lst (ra_cons (hs := sn_call) (re_call (hdb := (by decide)) (he := sn_name) (hpl := rfl) C__law_summed hg (hr.mono (by decide)) rfl (ra_cons (hs := sn_name) (v 10) (ra_cons (hs := sn_name) (v 11) ra_nil))) (ra_cons (hs := sn_call) (re_call (hdb := (by decide)) (he := sn_name) (hpl := rfl) C__law_summed hg (hr.mono (by decide)) rfl (ra_cons (hs := sn_name) (v 10) (ra_cons (hs := sn_name) (v 11) ra_nil))) (ra_cons (hs := sn_name) (v 6) (ra_cons (hs := sn_tup) (re_tup (ra_cons (hs := sn_const) re_int (ra_cons (hs := sn_const) re_int ra_nil))) ra_nil)))))) ra_nil))) (rss_one (rs_ret re_bl)) rss_nil)
  (rss_cons (rs_set (i := 7) (hs := rfl) (hf := (by first | exact Or.inl rfl | exact Or.inr rfl)) sc__law_right.nd rfl (by first | exact Or.inl rfl | exact Or.inr rfl) (re_ofL (rl_lst (ra_cons (hs := sn_call) (re_tuple (he := sn_lc) rfl T.b_tuple (ra_cons (hs := sn_lc) (re_ofL (rl_lc (own := [("_law_part", 13)]) (hs := fun _ => rfl) rfl sc__law_right.nd (ri_seq (v 8)) (blkOk_by (N := n__law_right) (sc := defScope s__law_right) (by decide +kernel)) (fun _ _ _ _ _ => (rg_name (i := 13) sc__law_right.nd rfl (by first | exact Or.inl rfl | exact Or.inr rfl))) (fun _ _ _ _ _ => rts_nil) (fun _ _ _ _ _ => (re_mul re_int (v 13))) (by decide))) ra_nil)) (ra_cons (hs := sn_call) (re_ofL (rl_list (he := sn_name) rfl T.b_list (v 8))) (ra_cons (hs := sn_sub) (re_sl (v 8) ro_none (ro_some re_int)) (ra_cons (hs := sn_bin) (re_plus (v 8) (re_tup (ra_cons (hs := sn_const) re_int ra_nil))) (ra_cons (hs := sn_bin) (re_plus (re_sl (v 8) ro_none (ro_some re_int)) (re_tup (ra_cons (hs := sn_const) re_int ra_nil))) (ra_cons (hs := sn_bin) (re_plus (re_sl (v 8) ro_none (ro_some re_int)) (re_tup (ra_cons (hs := sn_bin) (re_sub re_int (re_ix (hs := fun _ _ => rfl) (v 8) re_int)) ra_nil))) (ra_cons (hs := sn_tup) (re_tup (ra_cons (hs := sn_const) re_int (ra_cons (hs := sn_const) re_int (ra_cons (hs := sn_const) re_int (ra_cons (hs := sn_const) re_int (ra_cons (hs := sn_const) re_bl (ra_cons (hs := sn_const) re_int ra_nil))))))) ra_nil))))))))))
  (rss_cons (rs_set (i := 3) (hs := rfl) (hf := (by first | exact Or.inl rfl | exact Or.inr rfl)) sc__law_right.nd rfl (by first | exact Or.inl rfl | exact Or.inr rfl) (re_plus (re_plus (re_ofL (rl_lst (ra_cons (hs := sn_call) (re_call (hdb := (by decide)) (he := sn_name) (hpl := rfl) C_is_course hg (hr.mono (by decide)) rfl (ra_cons (hs := sn_name) (v 8) ra_nil)) (ra_cons (hs := sn_call) (re_callk (hall := rfl) (hks := rfl) (hdb := (by decide)) (hpl := rfl) C_is_course hg (hr.mono (by decide)) rfl (rk_cons (v 1) rk_nil)) ra_nil)))) (re_ofL (rl_lc (own := [("_law_each", 14)]) (hs := fun _ => rfl) rfl sc__law_right.nd (ri_seq (v 7)) (blkOk_by (N := n__law_right) (sc := defScope s__law_right) (by decide +kernel)) (fun _ _ _ _ _ => (rg_name (i := 14) sc__law_right.nd rfl (by first | exact Or.inl rfl | exact Or.inr rfl))) (fun _ _ _ _ _ => rts_nil) (fun _ _ _ _ _ => (re_call (hdb := (by decide)) (he := sn_name) (hpl := rfl) C_is_course hg (hr.mono (by decide)) rfl (ra_cons (hs := sn_name) (v 14) ra_nil))) (by decide)))) (re_ofL (rl_lst (ra_cons (hs := sn_call) (re_call (hdb := (by decide)) (he := sn_const) (hpl := rfl) C_is_course hg (hr.mono (by decide)) rfl (ra_cons (hs := sn_const) re_non ra_nil)) ra_nil)))))
  (rss_one (rs_ret (re_and (re_eq (hu64 hr) (re_repr (he := sn_name) hg (hu64 hr) rfl T.b_repr (ra_cons (hs := sn_name) (v 3) ra_nil)) (re_repr (he := sn_bin) hg (hu64 hr) rfl T.b_repr (ra_cons (hs := sn_bin) (re_plus (re_ofL (rl_lst (ra_cons (hs := sn_const) re_bl (ra_cons (hs := sn_const) re_bl ra_nil)))) (re_rep (rl_lst (ra_cons (hs := sn_const) re_bl ra_nil)) re_int)) ra_nil))) (re_one (re_call (hdb := (by decide)) (he := sn_name) (hpl := rfl) C__law_are_through hg (hr.mono (by decide)) rfl (ra_cel (i := 0) (hd := (by decide)) (hcd := (by decide)) (hs := sn_name) rfl (by first | exact Or.inl rfl | exact Or.inr (Or.inl rfl) | exact Or.inr (Or.inr rfl)) (ra_cons (hs := sn_name) (v 1) ra_nil)))))))))))))))))))))))))
theorem ok_law {f : Addr} {fd : FuncData} (U : Fun K "law" "law" s_law f fd) (T : Tx K mg) (C__law_right : At P w K mg base 9 "_law_right" ["_law_source_here"] F__law_right_K35) (C__law_source : At P w K mg base 1 "_law_source" ["_law_script", "_law_at_here"] F__law_source) : FnG P w K mg base 10 f fd ["_law_script"] F_law_K35 := by
  refine fng_of (n0 := 0) (k := 9) U sc_law (fun cdv A outer s H E hg hr => ?_)
  exact (rss_one (rs_ret (re_all (he := sn_lc) rfl rfl T.b_all (ra_cons (hs := sn_lc) (re_ofL (rl_lc (own := [("_law_k", 1)]) (hs := fun _ => rfl) rfl sc_law.nd (ri_range1 (hs := rfl) rfl T.b_range (ra_cons (hs := sn_call) (re_max (he := sn_const) (hpl := rfl) rfl rfl T.b_max (ra_cons (hs := sn_const) re_int (ra_cons (hs := sn_call) (re_min (he := sn_call) (hpl := rfl) rfl rfl T.b_min (ra_cons (hs := sn_call) (re_len (he := sn_name) rfl T.b_len (ra_cons (hs := sn_name) (v 0) ra_nil)) (ra_cons (hs := sn_const) re_int ra_nil))) ra_nil))) ra_nil)) (blkOk_by (N := n_law) (sc := defScope s_law) (by decide +kernel)) (fun _ _ _ _ _ => (rg_name (i := 1) sc_law.nd rfl (by first | exact Or.inl rfl | exact Or.inr rfl))) (fun _ _ _ _ _ => rts_nil) (fun _ _ _ _ _ => (re_callFr (hdb := (by decide)) (he := sn_call) (hpl := rfl) C__law_right hg (hr.mono (by decide)) rfl (rl_call (hdb := (by decide)) (he := sn_name) (hpl := rfl) C__law_source hg (hr.mono (by decide)) rfl (ra_cons (hs := sn_name) (v 0) (ra_cons (hs := sn_name) (v 1) ra_nil))))) (by decide))) ra_nil))))
end K35


set_option Elab.async false
set_option linter.all false
set_option maxRecDepth 100000
set_option maxHeartbeats 400000
namespace K35
open PySem PySem.Spec L2 DL
open PyProof.Rows hiding St
open PL
theorem bk_is_whole {kV doc pm : Value} {an : Option Addr} {cdv ct : Value} (us : List Value) (hl : us.length = (["value"] : List Str).length) (i : Nat) (hi : i ≤ (["value"] : List Str).length) : bindArgs (PySem.W.fnOf "is_whole" "is_whole" (defArgs s_is_whole) (defBody s_is_whole) (defScope s_is_whole) .none kV doc pm an cdv ct) ⟨us.take i, ((["value"] : List Str).drop i).zip (us.drop i)⟩ = pure ((["value"] : List Str).zip us) := by
  match us, hl with
  | [_], _ => match i, hi with
    | 0, _ => rfl
    | 1, _ => rfl
    | k + 2, h => exact absurd h (by simp only [List.length_cons, List.length_nil]; omega)
theorem bk_is_row {kV doc pm : Value} {an : Option Addr} {cdv ct : Value} (us : List Value) (hl : us.length = (["value", "many"] : List Str).length) (i : Nat) (hi : i ≤ (["value", "many"] : List Str).length) : bindArgs (PySem.W.fnOf "is_row" "is_row" (defArgs s_is_row) (defBody s_is_row) (defScope s_is_row) .none kV doc pm an cdv ct) ⟨us.take i, ((["value", "many"] : List Str).drop i).zip (us.drop i)⟩ = pure ((["value", "many"] : List Str).zip us) := by
  match us, hl with
  | [_, _], _ => match i, hi with
    | 0, _ => rfl
    | 1, _ => rfl
    | 2, _ => rfl
    | k + 3, h => exact absurd h (by simp only [List.length_cons, List.length_nil]; omega)
theorem bk_divisor_of {kV doc pm : Value} {an : Option Addr} {cdv ct : Value} (us : List Value) (hl : us.length = (["numbers"] : List Str).length) (i : Nat) (hi : i ≤ (["numbers"] : List Str).length) : bindArgs (PySem.W.fnOf "divisor_of" "divisor_of" (defArgs s_divisor_of) (defBody s_divisor_of) (defScope s_divisor_of) .none kV doc pm an cdv ct) ⟨us.take i, ((["numbers"] : List Str).drop i).zip (us.drop i)⟩ = pure ((["numbers"] : List Str).zip us) := by
  match us, hl with
  | [_], _ => match i, hi with
    | 0, _ => rfl
    | 1, _ => rfl
    | k + 2, h => exact absurd h (by simp only [List.length_cons, List.length_nil]; omega)
theorem bk_is_reduced_row {kV doc pm : Value} {an : Option Addr} {cdv ct : Value} (us : List Value) (hl : us.length = (["value", "many"] : List Str).length) (i : Nat) (hi : i ≤ (["value", "many"] : List Str).length) : bindArgs (PySem.W.fnOf "is_reduced_row" "is_reduced_row" (defArgs s_is_reduced_row) (defBody s_is_reduced_row) (defScope s_is_reduced_row) .none kV doc pm an cdv ct) ⟨us.take i, ((["value", "many"] : List Str).drop i).zip (us.drop i)⟩ = pure ((["value", "many"] : List Str).zip us) := by
  match us, hl with
  | [_, _], _ => match i, hi with
    | 0, _ => rfl
    | 1, _ => rfl
    | 2, _ => rfl
    | k + 3, h => exact absurd h (by simp only [List.length_cons, List.length_nil]; omega)
theorem bk_reduced {kV doc pm : Value} {an : Option Addr} {cdv ct : Value} (us : List Value) (hl : us.length = (["numbers"] : List Str).length) (i : Nat) (hi : i ≤ (["numbers"] : List Str).length) : bindArgs (PySem.W.fnOf "reduced" "reduced" (defArgs s_reduced) (defBody s_reduced) (defScope s_reduced) .none kV doc pm an cdv ct) ⟨us.take i, ((["numbers"] : List Str).drop i).zip (us.drop i)⟩ = pure ((["numbers"] : List Str).zip us) := by
  match us, hl with
  | [_], _ => match i, hi with
    | 0, _ => rfl
    | 1, _ => rfl
    | k + 2, h => exact absurd h (by simp only [List.length_cons, List.length_nil]; omega)
theorem bk_dot {kV doc pm : Value} {an : Option Addr} {cdv ct : Value} (us : List Value) (hl : us.length = (["row", "other"] : List Str).length) (i : Nat) (hi : i ≤ (["row", "other"] : List Str).length) : bindArgs (PySem.W.fnOf "dot" "dot" (defArgs s_dot) (defBody s_dot) (defScope s_dot) .none kV doc pm an cdv ct) ⟨us.take i, ((["row", "other"] : List Str).drop i).zip (us.drop i)⟩ = pure ((["row", "other"] : List Str).zip us) := by
  match us, hl with
  | [_, _], _ => match i, hi with
    | 0, _ => rfl
    | 1, _ => rfl
    | 2, _ => rfl
    | k + 3, h => exact absurd h (by simp only [List.length_cons, List.length_nil]; omega)
theorem bk_combined {kV doc pm : Value} {an : Option Addr} {cdv ct : Value} (us : List Value) (hl : us.length = (["one", "row", "two", "other"] : List Str).length) (i : Nat) (hi : i ≤ (["one", "row", "two", "other"] : List Str).length) : bindArgs (PySem.W.fnOf "combined" "combined" (defArgs s_combined) (defBody s_combined) (defScope s_combined) .none kV doc pm an cdv ct) ⟨us.take i, ((["one", "row", "two", "other"] : List Str).drop i).zip (us.drop i)⟩ = pure ((["one", "row", "two", "other"] : List Str).zip us) := by
  match us, hl with
  | [_, _, _, _], _ => match i, hi with
    | 0, _ => rfl
    | 1, _ => rfl
    | 2, _ => rfl
    | 3, _ => rfl
    | 4, _ => rfl
    | k + 5, h => exact absurd h (by simp only [List.length_cons, List.length_nil]; omega)
theorem bk_ratio {kV doc pm : Value} {an : Option Addr} {cdv ct : Value} (us : List Value) (hl : us.length = (["p", "q"] : List Str).length) (i : Nat) (hi : i ≤ (["p", "q"] : List Str).length) : bindArgs (PySem.W.fnOf "ratio" "ratio" (defArgs s_ratio) (defBody s_ratio) (defScope s_ratio) .none kV doc pm an cdv ct) ⟨us.take i, ((["p", "q"] : List Str).drop i).zip (us.drop i)⟩ = pure ((["p", "q"] : List Str).zip us) := by
  match us, hl with
  | [_, _], _ => match i, hi with
    | 0, _ => rfl
    | 1, _ => rfl
    | 2, _ => rfl
    | k + 3, h => exact absurd h (by simp only [List.length_cons, List.length_nil]; omega)
theorem bk_is_fraction {kV doc pm : Value} {an : Option Addr} {cdv ct : Value} (us : List Value) (hl : us.length = (["value"] : List Str).length) (i : Nat) (hi : i ≤ (["value"] : List Str).length) : bindArgs (PySem.W.fnOf "is_fraction" "is_fraction" (defArgs s_is_fraction) (defBody s_is_fraction) (defScope s_is_fraction) .none kV doc pm an cdv ct) ⟨us.take i, ((["value"] : List Str).drop i).zip (us.drop i)⟩ = pure ((["value"] : List Str).zip us) := by
  match us, hl with
  | [_], _ => match i, hi with
    | 0, _ => rfl
    | 1, _ => rfl
    | k + 2, h => exact absurd h (by simp only [List.length_cons, List.length_nil]; omega)
theorem bk_check_fraction {kV doc pm : Value} {an : Option Addr} {cdv ct : Value} (us : List Value) (hl : us.length = (["value"] : List Str).length) (i : Nat) (hi : i ≤ (["value"] : List Str).length) : bindArgs (PySem.W.fnOf "check_fraction" "check_fraction" (defArgs s_check_fraction) (defBody s_check_fraction) (defScope s_check_fraction) .none kV doc pm an cdv ct) ⟨us.take i, ((["value"] : List Str).drop i).zip (us.drop i)⟩ = pure ((["value"] : List Str).zip us) := by
  match us, hl with
  | [_], _ => match i, hi with
    | 0, _ => rfl
    | 1, _ => rfl
    | k + 2, h => exact absurd h (by simp only [List.length_cons, List.length_nil]; omega)
theorem bk_check_below {kV doc pm : Value} {an : Option Addr} {cdv ct : Value} (us : List Value) (hl : us.length = (["value"] : List Str).length) (i : Nat) (hi : i ≤ (["value"] : List Str).length) : bindArgs (PySem.W.fnOf "check_below" "check_below" (defArgs s_check_below) (defBody s_check_below) (defScope s_check_below) .none kV doc pm an cdv ct) ⟨us.take i, ((["value"] : List Str).drop i).zip (us.drop i)⟩ = pure ((["value"] : List Str).zip us) := by
  match us, hl with
  | [_], _ => match i, hi with
    | 0, _ => rfl
    | 1, _ => rfl
    | k + 2, h => exact absurd h (by simp only [List.length_cons, List.length_nil]; omega)
theorem bk_trimmed {kV doc pm : Value} {an : Option Addr} {cdv ct : Value} (us : List Value) (hl : us.length = (["polynomial"] : List Str).length) (i : Nat) (hi : i ≤ (["polynomial"] : List Str).length) : bindArgs (PySem.W.fnOf "trimmed" "trimmed" (defArgs s_trimmed) (defBody s_trimmed) (defScope s_trimmed) .none kV doc pm an cdv ct) ⟨us.take i, ((["polynomial"] : List Str).drop i).zip (us.drop i)⟩ = pure ((["polynomial"] : List Str).zip us) := by
  match us, hl with
  | [_], _ => match i, hi with
    | 0, _ => rfl
    | 1, _ => rfl
    | k + 2, h => exact absurd h (by simp only [List.length_cons, List.length_nil]; omega)
theorem bk_polynomial_product {kV doc pm : Value} {an : Option Addr} {cdv ct : Value} (us : List Value) (hl : us.length = (["one", "two"] : List Str).length) (i : Nat) (hi : i ≤ (["one", "two"] : List Str).length) : bindArgs (PySem.W.fnOf "polynomial_product" "polynomial_product" (defArgs s_polynomial_product) (defBody s_polynomial_product) (defScope s_polynomial_product) .none kV doc pm an cdv ct) ⟨us.take i, ((["one", "two"] : List Str).drop i).zip (us.drop i)⟩ = pure ((["one", "two"] : List Str).zip us) := by
  match us, hl with
  | [_, _], _ => match i, hi with
    | 0, _ => rfl
    | 1, _ => rfl
    | 2, _ => rfl
    | k + 3, h => exact absurd h (by simp only [List.length_cons, List.length_nil]; omega)
theorem bk_value_at {kV doc pm : Value} {an : Option Addr} {cdv ct : Value} (us : List Value) (hl : us.length = (["polynomial", "point"] : List Str).length) (i : Nat) (hi : i ≤ (["polynomial", "point"] : List Str).length) : bindArgs (PySem.W.fnOf "value_at" "value_at" (defArgs s_value_at) (defBody s_value_at) (defScope s_value_at) .none kV doc pm an cdv ct) ⟨us.take i, ((["polynomial", "point"] : List Str).drop i).zip (us.drop i)⟩ = pure ((["polynomial", "point"] : List Str).zip us) := by
  match us, hl with
  | [_, _], _ => match i, hi with
    | 0, _ => rfl
    | 1, _ => rfl
    | 2, _ => rfl
    | k + 3, h => exact absurd h (by simp only [List.length_cons, List.length_nil]; omega)
theorem bk_is_setting {kV doc pm : Value} {an : Option Addr} {cdv ct : Value} (us : List Value) (hl : us.length = (["value"] : List Str).length) (i : Nat) (hi : i ≤ (["value"] : List Str).length) : bindArgs (PySem.W.fnOf "is_setting" "is_setting" (defArgs s_is_setting) (defBody s_is_setting) (defScope s_is_setting) .none kV doc pm an cdv ct) ⟨us.take i, ((["value"] : List Str).drop i).zip (us.drop i)⟩ = pure ((["value"] : List Str).zip us) := by
  match us, hl with
  | [_], _ => match i, hi with
    | 0, _ => rfl
    | 1, _ => rfl
    | k + 2, h => exact absurd h (by simp only [List.length_cons, List.length_nil]; omega)
theorem bk_check_setting {kV doc pm : Value} {an : Option Addr} {cdv ct : Value} (us : List Value) (hl : us.length = (["value"] : List Str).length) (i : Nat) (hi : i ≤ (["value"] : List Str).length) : bindArgs (PySem.W.fnOf "check_setting" "check_setting" (defArgs s_check_setting) (defBody s_check_setting) (defScope s_check_setting) .none kV doc pm an cdv ct) ⟨us.take i, ((["value"] : List Str).drop i).zip (us.drop i)⟩ = pure ((["value"] : List Str).zip us) := by
  match us, hl with
  | [_], _ => match i, hi with
    | 0, _ => rfl
    | 1, _ => rfl
    | k + 2, h => exact absurd h (by simp only [List.length_cons, List.length_nil]; omega)
theorem bk_is_course {kV doc pm : Value} {an : Option Addr} {cdv ct : Value} (us : List Value) (hl : us.length = (["value"] : List Str).length) (i : Nat) (hi : i ≤ (["value"] : List Str).length) : bindArgs (PySem.W.fnOf "is_course" "is_course" (defArgs s_is_course) (defBody s_is_course) (defScope s_is_course) .none kV doc pm an cdv ct) ⟨us.take i, ((["value"] : List Str).drop i).zip (us.drop i)⟩ = pure ((["value"] : List Str).zip us) := by
  match us, hl with
  | [_], _ => match i, hi with
    | 0, _ => rfl
    | 1, _ => rfl
    | k + 2, h => exact absurd h (by simp only [List.length_cons, List.length_nil]; omega)
theorem bk_check_course {kV doc pm : Value} {an : Option Addr} {cdv ct : Value} (us : List Value) (hl : us.length = (["value"] : List Str).length) (i : Nat) (hi : i ≤ (["value"] : List Str).length) : bindArgs (PySem.W.fnOf "check_course" "check_course" (defArgs s_check_course) (defBody s_check_course) (defScope s_check_course) .none kV doc pm an cdv ct) ⟨us.take i, ((["value"] : List Str).drop i).zip (us.drop i)⟩ = pure ((["value"] : List Str).zip us) := by
  match us, hl with
  | [_], _ => match i, hi with
    | 0, _ => rfl
    | 1, _ => rfl
    | k + 2, h => exact absurd h (by simp only [List.length_cons, List.length_nil]; omega)
theorem bk_course_of {kV doc pm : Value} {an : Option Addr} {cdv ct : Value} (us : List Value) (hl : us.length = (["numbers", "below"] : List Str).length) (i : Nat) (hi : i ≤ (["numbers", "below"] : List Str).length) : bindArgs (PySem.W.fnOf "course_of" "course_of" (defArgs s_course_of) (defBody s_course_of) (defScope s_course_of) .none kV doc pm an cdv ct) ⟨us.take i, ((["numbers", "below"] : List Str).drop i).zip (us.drop i)⟩ = pure ((["numbers", "below"] : List Str).zip us) := by
  match us, hl with
  | [_, _], _ => match i, hi with
    | 0, _ => rfl
    | 1, _ => rfl
    | 2, _ => rfl
    | k + 3, h => exact absurd h (by simp only [List.length_cons, List.length_nil]; omega)
theorem bk__length_of {kV doc pm : Value} {an : Option Addr} {cdv ct : Value} (us : List Value) (hl : us.length = (["setting"] : List Str).length) (i : Nat) (hi : i ≤ (["setting"] : List Str).length) : bindArgs (PySem.W.fnOf "_length_of" "_length_of" (defArgs s__length_of) (defBody s__length_of) (defScope s__length_of) .none kV doc pm an cdv ct) ⟨us.take i, ((["setting"] : List Str).drop i).zip (us.drop i)⟩ = pure ((["setting"] : List Str).zip us) := by
  match us, hl with
  | [_], _ => match i, hi with
    | 0, _ => rfl
    | 1, _ => rfl
    | k + 2, h => exact absurd h (by simp only [List.length_cons, List.length_nil]; omega)
theorem bk_level_at {kV doc pm : Value} {an : Option Addr} {cdv ct : Value} (us : List Value) (hl : us.length = (["course", "setting"] : List Str).length) (i : Nat) (hi : i ≤ (["course", "setting"] : List Str).length) : bindArgs (PySem.W.fnOf "level_at" "level_at" (defArgs s_level_at) (defBody s_level_at) (defScope s_level_at) .none kV doc pm an cdv ct) ⟨us.take i, ((["course", "setting"] : List Str).drop i).zip (us.drop i)⟩ = pure ((["course", "setting"] : List Str).zip us) := by
  match us, hl with
  | [_, _], _ => match i, hi with
    | 0, _ => rfl
    | 1, _ => rfl
    | 2, _ => rfl
    | k + 3, h => exact absurd h (by simp only [List.length_cons, List.length_nil]; omega)
theorem bk_level_course {kV doc pm : Value} {an : Option Addr} {cdv ct : Value} (us : List Value) (hl : us.length = (["level"] : List Str).length) (i : Nat) (hi : i ≤ (["level"] : List Str).length) : bindArgs (PySem.W.fnOf "level_course" "level_course" (defArgs s_level_course) (defBody s_level_course) (defScope s_level_course) .none kV doc pm an cdv ct) ⟨us.take i, ((["level"] : List Str).drop i).zip (us.drop i)⟩ = pure ((["level"] : List Str).zip us) := by
  match us, hl with
  | [_], _ => match i, hi with
    | 0, _ => rfl
    | 1, _ => rfl
    | k + 2, h => exact absurd h (by simp only [List.length_cons, List.length_nil]; omega)
theorem bk_course_less {kV doc pm : Value} {an : Option Addr} {cdv ct : Value} (us : List Value) (hl : us.length = (["course", "other"] : List Str).length) (i : Nat) (hi : i ≤ (["course", "other"] : List Str).length) : bindArgs (PySem.W.fnOf "course_less" "course_less" (defArgs s_course_less) (defBody s_course_less) (defScope s_course_less) .none kV doc pm an cdv ct) ⟨us.take i, ((["course", "other"] : List Str).drop i).zip (us.drop i)⟩ = pure ((["course", "other"] : List Str).zip us) := by
  match us, hl with
  | [_, _], _ => match i, hi with
    | 0, _ => rfl
    | 1, _ => rfl
    | 2, _ => rfl
    | k + 3, h => exact absurd h (by simp only [List.length_cons, List.length_nil]; omega)
theorem bk__weighed_course {kV doc pm : Value} {an : Option Addr} {cdv ct : Value} (us : List Value) (hl : us.length = (["rows", "weights"] : List Str).length) (i : Nat) (hi : i ≤ (["rows", "weights"] : List Str).length) : bindArgs (PySem.W.fnOf "_weighed_course" "_weighed_course" (defArgs s__weighed_course) (defBody s__weighed_course) (defScope s__weighed_course) .none kV doc pm an cdv ct) ⟨us.take i, ((["rows", "weights"] : List Str).drop i).zip (us.drop i)⟩ = pure ((["rows", "weights"] : List Str).zip us) := by
  match us, hl with
  | [_, _], _ => match i, hi with
    | 0, _ => rfl
    | 1, _ => rfl
    | 2, _ => rfl
    | k + 3, h => exact absurd h (by simp only [List.length_cons, List.length_nil]; omega)
theorem bk_course_parts {kV doc pm : Value} {an : Option Addr} {cdv ct : Value} (us : List Value) (hl : us.length = (["course"] : List Str).length) (i : Nat) (hi : i ≤ (["course"] : List Str).length) : bindArgs (PySem.W.fnOf "course_parts" "course_parts" (defArgs s_course_parts) (defBody s_course_parts) (defScope s_course_parts) .none kV doc pm an cdv ct) ⟨us.take i, ((["course"] : List Str).drop i).zip (us.drop i)⟩ = pure ((["course"] : List Str).zip us) := by
  match us, hl with
  | [_], _ => match i, hi with
    | 0, _ => rfl
    | 1, _ => rfl
    | k + 2, h => exact absurd h (by simp only [List.length_cons, List.length_nil]; omega)
theorem bk_first_wrong__is_fraction {kV doc pm : Value} {an : Option Addr} {cdv ct : Value} (us : List Value) (hl : us.length = (["things", "is_right", "most"] : List Str).length) (i : Nat) (hi : i ≤ (["things", "is_right", "most"] : List Str).length) : bindArgs (PySem.W.fnOf "first_wrong" "first_wrong" (defArgs s_first_wrong__is_fraction) (defBody s_first_wrong__is_fraction) (defScope s_first_wrong__is_fraction) .none kV doc pm an cdv ct) ⟨us.take i, ((["things", "is_right", "most"] : List Str).drop i).zip (us.drop i)⟩ = pure ((["things", "is_right", "most"] : List Str).zip us) := by
  match us, hl with
  | [_, _, _], _ => match i, hi with
    | 0, _ => rfl
    | 1, _ => rfl
    | 2, _ => rfl
    | 3, _ => rfl
    | k + 4, h => exact absurd h (by simp only [List.length_cons, List.length_nil]; omega)
theorem bk_course_of_parts {kV doc pm : Value} {an : Option Addr} {cdv ct : Value} (us : List Value) (hl : us.length = (["parts"] : List Str).length) (i : Nat) (hi : i ≤ (["parts"] : List Str).length) : bindArgs (PySem.W.fnOf "course_of_parts" "course_of_parts" (defArgs s_course_of_parts) (defBody s_course_of_parts) (defScope s_course_of_parts) .none kV doc pm an cdv ct) ⟨us.take i, ((["parts"] : List Str).drop i).zip (us.drop i)⟩ = pure ((["parts"] : List Str).zip us) := by
  match us, hl with
  | [_], _ => match i, hi with
    | 0, _ => rfl
    | 1, _ => rfl
    | k + 2, h => exact absurd h (by simp only [List.length_cons, List.length_nil]; omega)
theorem bk__is_sample {kV doc pm : Value} {an : Option Addr} {cdv ct : Value} (us : List Value) (hl : us.length = (["value"] : List Str).length) (i : Nat) (hi : i ≤ (["value"] : List Str).length) : bindArgs (PySem.W.fnOf "_is_sample" "_is_sample" (defArgs s__is_sample) (defBody s__is_sample) (defScope s__is_sample) .none kV doc pm an cdv ct) ⟨us.take i, ((["value"] : List Str).drop i).zip (us.drop i)⟩ = pure ((["value"] : List Str).zip us) := by
  match us, hl with
  | [_], _ => match i, hi with
    | 0, _ => rfl
    | 1, _ => rfl
    | k + 2, h => exact absurd h (by simp only [List.length_cons, List.length_nil]; omega)
theorem bk__check_samples {kV doc pm : Value} {an : Option Addr} {cdv ct : Value} (us : List Value) (hl : us.length = (["samples"] : List Str).length) (i : Nat) (hi : i ≤ (["samples"] : List Str).length) : bindArgs (PySem.W.fnOf "_check_samples" "_check_samples" (defArgs s__check_samples) (defBody s__check_samples) (defScope s__check_samples) .none kV doc pm an cdv ct) ⟨us.take i, ((["samples"] : List Str).drop i).zip (us.drop i)⟩ = pure ((["samples"] : List Str).zip us) := by
  match us, hl with
  | [_], _ => match i, hi with
    | 0, _ => rfl
    | 1, _ => rfl
    | k + 2, h => exact absurd h (by simp only [List.length_cons, List.length_nil]; omega)
theorem bk_course_through {kV doc pm : Value} {an : Option Addr} {cdv ct : Value} (us : List Value) (hl : us.length = (["samples"] : List Str).length) (i : Nat) (hi : i ≤ (["samples"] : List Str).length) : bindArgs (PySem.W.fnOf "course_through" "course_through" (defArgs s_course_through) (defBody s_course_through) (defScope s_course_through) .none kV doc pm an cdv ct) ⟨us.take i, ((["samples"] : List Str).drop i).zip (us.drop i)⟩ = pure ((["samples"] : List Str).zip us) := by
  match us, hl with
  | [_], _ => match i, hi with
    | 0, _ => rfl
    | 1, _ => rfl
    | k + 2, h => exact absurd h (by simp only [List.length_cons, List.length_nil]; omega)
theorem bk_setting_sum {kV doc pm : Value} {an : Option Addr} {cdv ct : Value} (us : List Value) (hl : us.length = (["setting", "other"] : List Str).length) (i : Nat) (hi : i ≤ (["setting", "other"] : List Str).length) : bindArgs (PySem.W.fnOf "setting_sum" "setting_sum" (defArgs s_setting_sum) (defBody s_setting_sum) (defScope s_setting_sum) .none kV doc pm an cdv ct) ⟨us.take i, ((["setting", "other"] : List Str).drop i).zip (us.drop i)⟩ = pure ((["setting", "other"] : List Str).zip us) := by
  match us, hl with
  | [_, _], _ => match i, hi with
    | 0, _ => rfl
    | 1, _ => rfl
    | 2, _ => rfl
    | k + 3, h => exact absurd h (by simp only [List.length_cons, List.length_nil]; omega)
theorem bk_setting_back {kV doc pm : Value} {an : Option Addr} {cdv ct : Value} (us : List Value) (hl : us.length = (["setting"] : List Str).length) (i : Nat) (hi : i ≤ (["setting"] : List Str).length) : bindArgs (PySem.W.fnOf "setting_back" "setting_back" (defArgs s_setting_back) (defBody s_setting_back) (defScope s_setting_back) .none kV doc pm an cdv ct) ⟨us.take i, ((["setting"] : List Str).drop i).zip (us.drop i)⟩ = pure ((["setting"] : List Str).zip us) := by
  match us, hl with
  | [_], _ => match i, hi with
    | 0, _ => rfl
    | 1, _ => rfl
    | k + 2, h => exact absurd h (by simp only [List.length_cons, List.length_nil]; omega)
theorem bk__law_source {kV doc pm : Value} {an : Option Addr} {cdv ct : Value} (us : List Value) (hl : us.length = (["_law_script", "_law_at_here"] : List Str).length) (i : Nat) (hi : i ≤ (["_law_script", "_law_at_here"] : List Str).length) : bindArgs (PySem.W.fnOf "_law_source" "_law_source" (defArgs s__law_source) (defBody s__law_source) (defScope s__law_source) .none kV doc pm an cdv ct) ⟨us.take i, ((["_law_script", "_law_at_here"] : List Str).drop i).zip (us.drop i)⟩ = pure ((["_law_script", "_law_at_here"] : List Str).zip us) := by
  match us, hl with
  | [_, _], _ => match i, hi with
    | 0, _ => rfl
    | 1, _ => rfl
    | 2, _ => rfl
    | k + 3, h => exact absurd h (by simp only [List.length_cons, List.length_nil]; omega)
theorem bk__law_draw {kV doc pm : Value} {an : Option Addr} {cdv ct : Value} (us : List Value) (hl : us.length = (["_law_source_here", "_law_top"] : List Str).length) (i : Nat) (hi : i ≤ (["_law_source_here", "_law_top"] : List Str).length) : bindArgs (PySem.W.fnOf "_law_draw" "_law_draw" (defArgs s__law_draw) (defBody s__law_draw) (defScope s__law_draw) .none kV doc pm an cdv ct) ⟨us.take i, ((["_law_source_here", "_law_top"] : List Str).drop i).zip (us.drop i)⟩ = pure ((["_law_source_here", "_law_top"] : List Str).zip us) := by
  match us, hl with
  | [_, _], _ => match i, hi with
    | 0, _ => rfl
    | 1, _ => rfl
    | 2, _ => rfl
    | k + 3, h => exact absurd h (by simp only [List.length_cons, List.length_nil]; omega)
theorem bk__law_pick {kV doc pm : Value} {an : Option Addr} {cdv ct : Value} (us : List Value) (hl : us.length = (["_law_source_here", "_law_some"] : List Str).length) (i : Nat) (hi : i ≤ (["_law_source_here", "_law_some"] : List Str).length) : bindArgs (PySem.W.fnOf "_law_pick" "_law_pick" (defArgs s__law_pick) (defBody s__law_pick) (defScope s__law_pick) .none kV doc pm an cdv ct) ⟨us.take i, ((["_law_source_here", "_law_some"] : List Str).drop i).zip (us.drop i)⟩ = pure ((["_law_source_here", "_law_some"] : List Str).zip us) := by
  match us, hl with
  | [_, _], _ => match i, hi with
    | 0, _ => rfl
    | 1, _ => rfl
    | 2, _ => rfl
    | k + 3, h => exact absurd h (by simp only [List.length_cons, List.length_nil]; omega)
theorem bk__law_about {kV doc pm : Value} {an : Option Addr} {cdv ct : Value} (us : List Value) (hl : us.length = (["_law_source_here", "_law_most"] : List Str).length) (i : Nat) (hi : i ≤ (["_law_source_here", "_law_most"] : List Str).length) : bindArgs (PySem.W.fnOf "_law_about" "_law_about" (defArgs s__law_about) (defBody s__law_about) (defScope s__law_about) .none kV doc pm an cdv ct) ⟨us.take i, ((["_law_source_here", "_law_most"] : List Str).drop i).zip (us.drop i)⟩ = pure ((["_law_source_here", "_law_most"] : List Str).zip us) := by
  match us, hl with
  | [_, _], _ => match i, hi with
    | 0, _ => rfl
    | 1, _ => rfl
    | 2, _ => rfl
    | k + 3, h => exact absurd h (by simp only [List.length_cons, List.length_nil]; omega)
theorem bk__law_common {kV doc pm : Value} {an : Option Addr} {cdv ct : Value} (us : List Value) (hl : us.length = (["_law_row"] : List Str).length) (i : Nat) (hi : i ≤ (["_law_row"] : List Str).length) : bindArgs (PySem.W.fnOf "_law_common" "_law_common" (defArgs s__law_common) (defBody s__law_common) (defScope s__law_common) .none kV doc pm an cdv ct) ⟨us.take i, ((["_law_row"] : List Str).drop i).zip (us.drop i)⟩ = pure ((["_law_row"] : List Str).zip us) := by
  match us, hl with
  | [_], _ => match i, hi with
    | 0, _ => rfl
    | 1, _ => rfl
    | k + 2, h => exact absurd h (by simp only [List.length_cons, List.length_nil]; omega)
theorem bk__law_low {kV doc pm : Value} {an : Option Addr} {cdv ct : Value} (us : List Value) (hl : us.length = (["_law_row"] : List Str).length) (i : Nat) (hi : i ≤ (["_law_row"] : List Str).length) : bindArgs (PySem.W.fnOf "_law_low" "_law_low" (defArgs s__law_low) (defBody s__law_low) (defScope s__law_low) .none kV doc pm an cdv ct) ⟨us.take i, ((["_law_row"] : List Str).drop i).zip (us.drop i)⟩ = pure ((["_law_row"] : List Str).zip us) := by
  match us, hl with
  | [_], _ => match i, hi with
    | 0, _ => rfl
    | 1, _ => rfl
    | k + 2, h => exact absurd h (by simp only [List.length_cons, List.length_nil]; omega)
theorem bk__law_ratio {kV doc pm : Value} {an : Option Addr} {cdv ct : Value} (us : List Value) (hl : us.length = (["_law_top", "_law_under"] : List Str).length) (i : Nat) (hi : i ≤ (["_law_top", "_law_under"] : List Str).length) : bindArgs (PySem.W.fnOf "_law_ratio" "_law_ratio" (defArgs s__law_ratio) (defBody s__law_ratio) (defScope s__law_ratio) .none kV doc pm an cdv ct) ⟨us.take i, ((["_law_top", "_law_under"] : List Str).drop i).zip (us.drop i)⟩ = pure ((["_law_top", "_law_under"] : List Str).zip us) := by
  match us, hl with
  | [_, _], _ => match i, hi with
    | 0, _ => rfl
    | 1, _ => rfl
    | 2, _ => rfl
    | k + 3, h => exact absurd h (by simp only [List.length_cons, List.length_nil]; omega)
theorem bk__law_slot {kV doc pm : Value} {an : Option Addr} {cdv ct : Value} (us : List Value) (hl : us.length = (["_law_source_here"] : List Str).length) (i : Nat) (hi : i ≤ (["_law_source_here"] : List Str).length) : bindArgs (PySem.W.fnOf "_law_slot" "_law_slot" (defArgs s__law_slot) (defBody s__law_slot) (defScope s__law_slot) .none kV doc pm an cdv ct) ⟨us.take i, ((["_law_source_here"] : List Str).drop i).zip (us.drop i)⟩ = pure ((["_law_source_here"] : List Str).zip us) := by
  match us, hl with
  | [_], _ => match i, hi with
    | 0, _ => rfl
    | 1, _ => rfl
    | k + 2, h => exact absurd h (by simp only [List.length_cons, List.length_nil]; omega)
theorem bk__law_signed {kV doc pm : Value} {an : Option Addr} {cdv ct : Value} (us : List Value) (hl : us.length = (["_law_pair"] : List Str).length) (i : Nat) (hi : i ≤ (["_law_pair"] : List Str).length) : bindArgs (PySem.W.fnOf "_law_signed" "_law_signed" (defArgs s__law_signed) (defBody s__law_signed) (defScope s__law_signed) .none kV doc pm an cdv ct) ⟨us.take i, ((["_law_pair"] : List Str).drop i).zip (us.drop i)⟩ = pure ((["_law_pair"] : List Str).zip us) := by
  match us, hl with
  | [_], _ => match i, hi with
    | 0, _ => rfl
    | 1, _ => rfl
    | k + 2, h => exact absurd h (by simp only [List.length_cons, List.length_nil]; omega)
theorem bk__law_summed {kV doc pm : Value} {an : Option Addr} {cdv ct : Value} (us : List Value) (hl : us.length = (["_law_one", "_law_two"] : List Str).length) (i : Nat) (hi : i ≤ (["_law_one", "_law_two"] : List Str).length) : bindArgs (PySem.W.fnOf "_law_summed" "_law_summed" (defArgs s__law_summed) (defBody s__law_summed) (defScope s__law_summed) .none kV doc pm an cdv ct) ⟨us.take i, ((["_law_one", "_law_two"] : List Str).drop i).zip (us.drop i)⟩ = pure ((["_law_one", "_law_two"] : List Str).zip us) := by
  match us, hl with
  | [_, _], _ => match i, hi with
    | 0, _ => rfl
    | 1, _ => rfl
    | 2, _ => rfl
    | k + 3, h => exact absurd h (by simp only [List.length_cons, List.length_nil]; omega)
theorem bk__law_form {kV doc pm : Value} {an : Option Addr} {cdv ct : Value} (us : List Value) (hl : us.length = (["_law_row", "_law_slot_here"] : List Str).length) (i : Nat) (hi : i ≤ (["_law_row", "_law_slot_here"] : List Str).length) : bindArgs (PySem.W.fnOf "_law_form" "_law_form" (defArgs s__law_form) (defBody s__law_form) (defScope s__law_form) .none kV doc pm an cdv ct) ⟨us.take i, ((["_law_row", "_law_slot_here"] : List Str).drop i).zip (us.drop i)⟩ = pure ((["_law_row", "_law_slot_here"] : List Str).zip us) := by
  match us, hl with
  | [_, _], _ => match i, hi with
    | 0, _ => rfl
    | 1, _ => rfl
    | 2, _ => rfl
    | k + 3, h => exact absurd h (by simp only [List.length_cons, List.length_nil]; omega)
theorem bk__law_at {kV doc pm : Value} {an : Option Addr} {cdv ct : Value} (us : List Value) (hl : us.length = (["_law_row", "_law_slot_here"] : List Str).length) (i : Nat) (hi : i ≤ (["_law_row", "_law_slot_here"] : List Str).length) : bindArgs (PySem.W.fnOf "_law_at" "_law_at" (defArgs s__law_at) (defBody s__law_at) (defScope s__law_at) .none kV doc pm an cdv ct) ⟨us.take i, ((["_law_row", "_law_slot_here"] : List Str).drop i).zip (us.drop i)⟩ = pure ((["_law_row", "_law_slot_here"] : List Str).zip us) := by
  match us, hl with
  | [_, _], _ => match i, hi with
    | 0, _ => rfl
    | 1, _ => rfl
    | 2, _ => rfl
    | k + 3, h => exact absurd h (by simp only [List.length_cons, List.length_nil]; omega)
theorem bk__law_quad {kV doc pm : Value} {an : Option Addr} {cdv ct : Value} (us : List Value) (hl : us.length = (["_law_source_here"] : List Str).length) (i : Nat) (hi : i ≤ (["_law_source_here"] : List Str).length) : bindArgs (PySem.W.fnOf "_law_quad" "_law_quad" (defArgs s__law_quad) (defBody s__law_quad) (defScope s__law_quad) .none kV doc pm an cdv ct) ⟨us.take i, ((["_law_source_here"] : List Str).drop i).zip (us.drop i)⟩ = pure ((["_law_source_here"] : List Str).zip us) := by
  match us, hl with
  | [_], _ => match i, hi with
    | 0, _ => rfl
    | 1, _ => rfl
    | k + 2, h => exact absurd h (by simp only [List.length_cons, List.length_nil]; omega)
theorem bk__law_folded {kV doc pm : Value} {an : Option Addr} {cdv ct : Value} (us : List Value) (hl : us.length = (["_law_one", "_law_two"] : List Str).length) (i : Nat) (hi : i ≤ (["_law_one", "_law_two"] : List Str).length) : bindArgs (PySem.W.fnOf "_law_folded" "_law_folded" (defArgs s__law_folded) (defBody s__law_folded) (defScope s__law_folded) .none kV doc pm an cdv ct) ⟨us.take i, ((["_law_one", "_law_two"] : List Str).drop i).zip (us.drop i)⟩ = pure ((["_law_one", "_law_two"] : List Str).zip us) := by
  match us, hl with
  | [_, _], _ => match i, hi with
    | 0, _ => rfl
    | 1, _ => rfl
    | 2, _ => rfl
    | k + 3, h => exact absurd h (by simp only [List.length_cons, List.length_nil]; omega)
theorem bk__law_course {kV doc pm : Value} {an : Option Addr} {cdv ct : Value} (us : List Value) (hl : us.length = (["_law_source_here"] : List Str).length) (i : Nat) (hi : i ≤ (["_law_source_here"] : List Str).length) : bindArgs (PySem.W.fnOf "_law_course" "_law_course" (defArgs s__law_course) (defBody s__law_course) (defScope s__law_course) .none kV doc pm an cdv ct) ⟨us.take i, ((["_law_source_here"] : List Str).drop i).zip (us.drop i)⟩ = pure ((["_law_source_here"] : List Str).zip us) := by
  match us, hl with
  | [_], _ => match i, hi with
    | 0, _ => rfl
    | 1, _ => rfl
    | k + 2, h => exact absurd h (by simp only [List.length_cons, List.length_nil]; omega)
theorem bk__law_fraction {kV doc pm : Value} {an : Option Addr} {cdv ct : Value} (us : List Value) (hl : us.length = (["_law_source_here"] : List Str).length) (i : Nat) (hi : i ≤ (["_law_source_here"] : List Str).length) : bindArgs (PySem.W.fnOf "_law_fraction" "_law_fraction" (defArgs s__law_fraction) (defBody s__law_fraction) (defScope s__law_fraction) .none kV doc pm an cdv ct) ⟨us.take i, ((["_law_source_here"] : List Str).drop i).zip (us.drop i)⟩ = pure ((["_law_source_here"] : List Str).zip us) := by
  match us, hl with
  | [_], _ => match i, hi with
    | 0, _ => rfl
    | 1, _ => rfl
    | k + 2, h => exact absurd h (by simp only [List.length_cons, List.length_nil]; omega)
theorem bk__law_slots {kV doc pm : Value} {an : Option Addr} {cdv ct : Value} (us : List Value) (hl : us.length = (["_law_source_here"] : List Str).length) (i : Nat) (hi : i ≤ (["_law_source_here"] : List Str).length) : bindArgs (PySem.W.fnOf "_law_slots" "_law_slots" (defArgs s__law_slots) (defBody s__law_slots) (defScope s__law_slots) .none kV doc pm an cdv ct) ⟨us.take i, ((["_law_source_here"] : List Str).drop i).zip (us.drop i)⟩ = pure ((["_law_source_here"] : List Str).zip us) := by
  match us, hl with
  | [_], _ => match i, hi with
    | 0, _ => rfl
    | 1, _ => rfl
    | k + 2, h => exact absurd h (by simp only [List.length_cons, List.length_nil]; omega)
theorem bk__law_parts {kV doc pm : Value} {an : Option Addr} {cdv ct : Value} (us : List Value) (hl : us.length = (["_law_row"] : List Str).length) (i : Nat) (hi : i ≤ (["_law_row"] : List Str).length) : bindArgs (PySem.W.fnOf "_law_parts" "_law_parts" (defArgs s__law_parts) (defBody s__law_parts) (defScope s__law_parts) .none kV doc pm an cdv ct) ⟨us.take i, ((["_law_row"] : List Str).drop i).zip (us.drop i)⟩ = pure ((["_law_row"] : List Str).zip us) := by
  match us, hl with
  | [_], _ => match i, hi with
    | 0, _ => rfl
    | 1, _ => rfl
    | k + 2, h => exact absurd h (by simp only [List.length_cons, List.length_nil]; omega)
theorem bk__law_laid {kV doc pm : Value} {an : Option Addr} {cdv ct : Value} (us : List Value) (hl : us.length = (["_law_parts_here"] : List Str).length) (i : Nat) (hi : i ≤ (["_law_parts_here"] : List Str).length) : bindArgs (PySem.W.fnOf "_law_laid" "_law_laid" (defArgs s__law_laid) (defBody s__law_laid) (defScope s__law_laid) .none kV doc pm an cdv ct) ⟨us.take i, ((["_law_parts_here"] : List Str).drop i).zip (us.drop i)⟩ = pure ((["_law_parts_here"] : List Str).zip us) := by
  match us, hl with
  | [_], _ => match i, hi with
    | 0, _ => rfl
    | 1, _ => rfl
    | k + 2, h => exact absurd h (by simp only [List.length_cons, List.length_nil]; omega)
theorem bk__law_less {kV doc pm : Value} {an : Option Addr} {cdv ct : Value} (us : List Value) (hl : us.length = (["_law_one", "_law_two"] : List Str).length) (i : Nat) (hi : i ≤ (["_law_one", "_law_two"] : List Str).length) : bindArgs (PySem.W.fnOf "_law_less" "_law_less" (defArgs s__law_less) (defBody s__law_less) (defScope s__law_less) .none kV doc pm an cdv ct) ⟨us.take i, ((["_law_one", "_law_two"] : List Str).drop i).zip (us.drop i)⟩ = pure ((["_law_one", "_law_two"] : List Str).zip us) := by
  match us, hl with
  | [_, _], _ => match i, hi with
    | 0, _ => rfl
    | 1, _ => rfl
    | 2, _ => rfl
    | k + 3, h => exact absurd h (by simp only [List.length_cons, List.length_nil]; omega)
theorem bk__law_are_through {kV doc pm : Value} {an : Option Addr} {cdv ct : Value} (us : List Value) (hl : us.length = (["_law_source_here", "_law_row"] : List Str).length) (i : Nat) (hi : i ≤ (["_law_source_here", "_law_row"] : List Str).length) : bindArgs (PySem.W.fnOf "_law_are_through" "_law_are_through" (defArgs s__law_are_through) (defBody s__law_are_through) (defScope s__law_are_through) .none kV doc pm an cdv ct) ⟨us.take i, ((["_law_source_here", "_law_row"] : List Str).drop i).zip (us.drop i)⟩ = pure ((["_law_source_here", "_law_row"] : List Str).zip us) := by
  match us, hl with
  | [_, _], _ => match i, hi with
    | 0, _ => rfl
    | 1, _ => rfl
    | 2, _ => rfl
    | k + 3, h => exact absurd h (by simp only [List.length_cons, List.length_nil]; omega)
theorem bk__law_right {kV doc pm : Value} {an : Option Addr} {cdv ct : Value} (us : List Value) (hl : us.length = (["_law_source_here"] : List Str).length) (i : Nat) (hi : i ≤ (["_law_source_here"] : List Str).length) : bindArgs (PySem.W.fnOf "_law_right" "_law_right" (defArgs s__law_right) (defBody s__law_right) (defScope s__law_right) .none kV doc pm an cdv ct) ⟨us.take i, ((["_law_source_here"] : List Str).drop i).zip (us.drop i)⟩ = pure ((["_law_source_here"] : List Str).zip us) := by
  match us, hl with
  | [_], _ => match i, hi with
    | 0, _ => rfl
    | 1, _ => rfl
    | k + 2, h => exact absurd h (by simp only [List.length_cons, List.length_nil]; omega)
theorem bp_level_at_by10 {kV doc pm : Value} {an : Option Addr} {cdv ct : Value} (us : List Value) (hl : us.length = [1, 0].length) : bindArgs (PySem.W.fnOf "level_at" "level_at" (defArgs s_level_at) (defBody s_level_at) (defScope s_level_at) .none kV doc pm an cdv ct) ⟨[], (["setting", "course"] : List Str).zip us⟩ = pure ((["course", "setting"] : List Str).zip (perm [1, 0] us)) := by
  match us, hl with
  | [_, _], _ => rfl
theorem bp_course_of_by10 {kV doc pm : Value} {an : Option Addr} {cdv ct : Value} (us : List Value) (hl : us.length = [1, 0].length) : bindArgs (PySem.W.fnOf "course_of" "course_of" (defArgs s_course_of) (defBody s_course_of) (defScope s_course_of) .none kV doc pm an cdv ct) ⟨[], (["below", "numbers"] : List Str).zip us⟩ = pure ((["numbers", "below"] : List Str).zip (perm [1, 0] us)) := by
  match us, hl with
  | [_, _], _ => rfl
theorem bp_course_less_by10 {kV doc pm : Value} {an : Option Addr} {cdv ct : Value} (us : List Value) (hl : us.length = [1, 0].length) : bindArgs (PySem.W.fnOf "course_less" "course_less" (defArgs s_course_less) (defBody s_course_less) (defScope s_course_less) .none kV doc pm an cdv ct) ⟨[], (["other", "course"] : List Str).zip us⟩ = pure ((["course", "other"] : List Str).zip (perm [1, 0] us)) := by
  match us, hl with
  | [_, _], _ => rfl
theorem bp_setting_sum_by10 {kV doc pm : Value} {an : Option Addr} {cdv ct : Value} (us : List Value) (hl : us.length = [1, 0].length) : bindArgs (PySem.W.fnOf "setting_sum" "setting_sum" (defArgs s_setting_sum) (defBody s_setting_sum) (defScope s_setting_sum) .none kV doc pm an cdv ct) ⟨[], (["other", "setting"] : List Str).zip us⟩ = pure ((["setting", "other"] : List Str).zip (perm [1, 0] us)) := by
  match us, hl with
  | [_, _], _ => rfl
theorem all_mk {l : PySem.W.OpenLaw} {w : World} {K : PySem.W.Frag} {h : Heap} {mg : Str → Option Value} {fa : Addr} {f_is_whole : Addr} {od_is_whole an_is_whole : Option Addr} {sl_is_whole : Array (Option Value)} {oc_is_whole kV_is_whole dc_is_whole pm_is_whole cd_is_whole ct_is_whole : Value} {f_is_row : Addr} {od_is_row an_is_row : Option Addr} {sl_is_row : Array (Option Value)} {oc_is_row kV_is_row dc_is_row pm_is_row cd_is_row ct_is_row : Value} {f_divisor_of : Addr} {od_divisor_of an_divisor_of : Option Addr} {sl_divisor_of : Array (Option Value)} {oc_divisor_of kV_divisor_of dc_divisor_of pm_divisor_of cd_divisor_of ct_divisor_of : Value} {f_is_reduced_row : Addr} {od_is_reduced_row an_is_reduced_row : Option Addr} {sl_is_reduced_row : Array (Option Value)} {oc_is_reduced_row kV_is_reduced_row dc_is_reduced_row pm_is_reduced_row cd_is_reduced_row ct_is_reduced_row : Value} {f_reduced : Addr} {od_reduced an_reduced : Option Addr} {sl_reduced : Array (Option Value)} {oc_reduced kV_reduced dc_reduced pm_reduced cd_reduced ct_reduced : Value} {f_dot : Addr} {od_dot an_dot : Option Addr} {sl_dot : Array (Option Value)} {oc_dot kV_dot dc_dot pm_dot cd_dot ct_dot : Value} {f_combined : Addr} {od_combined an_combined : Option Addr} {sl_combined : Array (Option Value)} {oc_combined kV_combined dc_combined pm_combined cd_combined ct_combined : Value} {f_ratio : Addr} {od_ratio an_ratio : Option Addr} {sl_ratio : Array (Option Value)} {oc_ratio kV_ratio dc_ratio pm_ratio cd_ratio ct_ratio : Value} {f_is_fraction : Addr} {od_is_fraction an_is_fraction : Option Addr} {sl_is_fraction : Array (Option Value)} {oc_is_fraction kV_is_fraction dc_is_fraction pm_is_fraction cd_is_fraction ct_is_fraction : Value} {f_check_fraction : Addr} {od_check_fraction an_check_fraction : Option Addr} {sl_check_fraction : Array (Option Value)} {oc_check_fraction kV_check_fraction dc_check_fraction pm_check_fraction cd_check_fraction ct_check_fraction : Value} {f_check_below : Addr} {od_check_below an_check_below : Option Addr} {sl_check_below : Array (Option Value)} {oc_check_below kV_check_below dc_check_below pm_check_below cd_check_below ct_check_below : Value} {f_trimmed : Addr} {od_trimmed an_trimmed : Option Addr} {sl_trimmed : Array (Option Value)} {oc_trimmed kV_trimmed dc_trimmed pm_trimmed cd_trimmed ct_trimmed : Value} {f_polynomial_product : Addr} {od_polynomial_product an_polynomial_product : Option Addr} {sl_polynomial_product : Array (Option Value)} {oc_polynomial_product kV_polynomial_product dc_polynomial_product pm_polynomial_product cd_polynomial_product ct_polynomial_product : Value} {f_value_at : Addr} {od_value_at an_value_at : Option Addr} {sl_value_at : Array (Option Value)} {oc_value_at kV_value_at dc_value_at pm_value_at cd_value_at ct_value_at : Value} {f_is_setting : Addr} {od_is_setting an_is_setting : Option Addr} {sl_is_setting : Array (Option Value)} {oc_is_setting kV_is_setting dc_is_setting pm_is_setting cd_is_setting ct_is_setting : Value} {f_check_setting : Addr} {od_check_setting an_check_setting : Option Addr} {sl_check_setting : Array (Option Value)} {oc_check_setting kV_check_setting dc_check_setting pm_check_setting cd_check_setting ct_check_setting : Value} {f_is_course : Addr} {od_is_course an_is_course : Option Addr} {sl_is_course : Array (Option Value)} {oc_is_course kV_is_course dc_is_course pm_is_course cd_is_course ct_is_course : Value} {f_check_course : Addr} {od_check_course an_check_course : Option Addr} {sl_check_course : Array (Option Value)} {oc_check_course kV_check_course dc_check_course pm_check_course cd_check_course ct_check_course : Value} {f_course_of : Addr} {od_course_of an_course_of : Option Addr} {sl_course_of : Array (Option Value)} {oc_course_of kV_course_of dc_course_of pm_course_of cd_course_of ct_course_of : Value} {f__length_of : Addr} {od__length_of an__length_of : Option Addr} {sl__length_of : Array (Option Value)} {oc__length_of kV__length_of dc__length_of pm__length_of cd__length_of ct__length_of : Value} {f_level_at : Addr} {od_level_at an_level_at : Option Addr} {sl_level_at : Array (Option Value)} {oc_level_at kV_level_at dc_level_at pm_level_at cd_level_at ct_level_at : Value} {f_level_course : Addr} {od_level_course an_level_course : Option Addr} {sl_level_course : Array (Option Value)} {oc_level_course kV_level_course dc_level_course pm_level_course cd_level_course ct_level_course : Value} {f_course_less : Addr} {od_course_less an_course_less : Option Addr} {sl_course_less : Array (Option Value)} {oc_course_less kV_course_less dc_course_less pm_course_less cd_course_less ct_course_less : Value} {f__weighed_course : Addr} {od__weighed_course an__weighed_course : Option Addr} {sl__weighed_course : Array (Option Value)} {oc__weighed_course kV__weighed_course dc__weighed_course pm__weighed_course cd__weighed_course ct__weighed_course : Value} {f_course_parts : Addr} {od_course_parts an_course_parts : Option Addr} {sl_course_parts : Array (Option Value)} {oc_course_parts kV_course_parts dc_course_parts pm_course_parts cd_course_parts ct_course_parts : Value} {f_first_wrong__is_fraction : Addr} {od_first_wrong__is_fraction an_first_wrong__is_fraction : Option Addr} {sl_first_wrong__is_fraction : Array (Option Value)} {oc_first_wrong__is_fraction kV_first_wrong__is_fraction dc_first_wrong__is_fraction pm_first_wrong__is_fraction cd_first_wrong__is_fraction ct_first_wrong__is_fraction : Value} {f_course_of_parts : Addr} {od_course_of_parts an_course_of_parts : Option Addr} {sl_course_of_parts : Array (Option Value)} {oc_course_of_parts kV_course_of_parts dc_course_of_parts pm_course_of_parts cd_course_of_parts ct_course_of_parts : Value} {f__is_sample : Addr} {od__is_sample an__is_sample : Option Addr} {sl__is_sample : Array (Option Value)} {oc__is_sample kV__is_sample dc__is_sample pm__is_sample cd__is_sample ct__is_sample : Value} {f__check_samples : Addr} {od__check_samples an__check_samples : Option Addr} {sl__check_samples : Array (Option Value)} {oc__check_samples kV__check_samples dc__check_samples pm__check_samples cd__check_samples ct__check_samples : Value} {f_course_through : Addr} {od_course_through an_course_through : Option Addr} {sl_course_through : Array (Option Value)} {oc_course_through kV_course_through dc_course_through pm_course_through cd_course_through ct_course_through : Value} {f_setting_sum : Addr} {od_setting_sum an_setting_sum : Option Addr} {sl_setting_sum : Array (Option Value)} {oc_setting_sum kV_setting_sum dc_setting_sum pm_setting_sum cd_setting_sum ct_setting_sum : Value} {f_setting_back : Addr} {od_setting_back an_setting_back : Option Addr} {sl_setting_back : Array (Option Value)} {oc_setting_back kV_setting_back dc_setting_back pm_setting_back cd_setting_back ct_setting_back : Value} {f__law_source : Addr} {od__law_source an__law_source : Option Addr} {sl__law_source : Array (Option Value)} {oc__law_source kV__law_source dc__law_source pm__law_source cd__law_source ct__law_source : Value} {f__law_draw : Addr} {od__law_draw an__law_draw : Option Addr} {sl__law_draw : Array (Option Value)} {oc__law_draw kV__law_draw dc__law_draw pm__law_draw cd__law_draw ct__law_draw : Value} {f__law_pick : Addr} {od__law_pick an__law_pick : Option Addr} {sl__law_pick : Array (Option Value)} {oc__law_pick kV__law_pick dc__law_pick pm__law_pick cd__law_pick ct__law_pick : Value} {f__law_about : Addr} {od__law_about an__law_about : Option Addr} {sl__law_about : Array (Option Value)} {oc__law_about kV__law_about dc__law_about pm__law_about cd__law_about ct__law_about : Value} {f__law_common : Addr} {od__law_common an__law_common : Option Addr} {sl__law_common : Array (Option Value)} {oc__law_common kV__law_common dc__law_common pm__law_common cd__law_common ct__law_common : Value} {f__law_low : Addr} {od__law_low an__law_low : Option Addr} {sl__law_low : Array (Option Value)} {oc__law_low kV__law_low dc__law_low pm__law_low cd__law_low ct__law_low : Value} {f__law_ratio : Addr} {od__law_ratio an__law_ratio : Option Addr} {sl__law_ratio : Array (Option Value)} {oc__law_ratio kV__law_ratio dc__law_ratio pm__law_ratio cd__law_ratio ct__law_ratio : Value} {f__law_slot : Addr} {od__law_slot an__law_slot : Option Addr} {sl__law_slot : Array (Option Value)} {oc__law_slot kV__law_slot dc__law_slot pm__law_slot cd__law_slot ct__law_slot : Value} {f__law_signed : Addr} {od__law_signed an__law_signed : Option Addr} {sl__law_signed : Array (Option Value)} {oc__law_signed kV__law_signed dc__law_signed pm__law_signed cd__law_signed ct__law_signed : Value} {f__law_summed : Addr} {od__law_summed an__law_summed : Option Addr} {sl__law_summed : Array (Option Value)} {oc__law_summed kV__law_summed dc__law_summed pm__law_summed cd__law_summed ct__law_summed : Value} {f__law_form : Addr} {od__law_form an__law_form : Option Addr} {sl__law_form : Array (Option Value)} {oc__law_form kV__law_form dc__law_form pm__law_form cd__law_form ct__law_form : Value} {f__law_at : Addr} {od__law_at an__law_at : Option Addr} {sl__law_at : Array (Option Value)} {oc__law_at kV__law_at dc__law_at pm__law_at cd__law_at ct__law_at : Value} {f__law_quad : Addr} {od__law_quad an__law_quad : Option Addr} {sl__law_quad : Array (Option Value)} {oc__law_quad kV__law_quad dc__law_quad pm__law_quad cd__law_quad ct__law_quad : Value} {f__law_folded : Addr} {od__law_folded an__law_folded : Option Addr} {sl__law_folded : Array (Option Value)} {oc__law_folded kV__law_folded dc__law_folded pm__law_folded cd__law_folded ct__law_folded : Value} {f__law_course : Addr} {od__law_course an__law_course : Option Addr} {sl__law_course : Array (Option Value)} {oc__law_course kV__law_course dc__law_course pm__law_course cd__law_course ct__law_course : Value} {f__law_fraction : Addr} {od__law_fraction an__law_fraction : Option Addr} {sl__law_fraction : Array (Option Value)} {oc__law_fraction kV__law_fraction dc__law_fraction pm__law_fraction cd__law_fraction ct__law_fraction : Value} {f__law_slots : Addr} {od__law_slots an__law_slots : Option Addr} {sl__law_slots : Array (Option Value)} {oc__law_slots kV__law_slots dc__law_slots pm__law_slots cd__law_slots ct__law_slots : Value} {f__law_parts : Addr} {od__law_parts an__law_parts : Option Addr} {sl__law_parts : Array (Option Value)} {oc__law_parts kV__law_parts dc__law_parts pm__law_parts cd__law_parts ct__law_parts : Value} {f__law_laid : Addr} {od__law_laid an__law_laid : Option Addr} {sl__law_laid : Array (Option Value)} {oc__law_laid kV__law_laid dc__law_laid pm__law_laid cd__law_laid ct__law_laid : Value} {f__law_less : Addr} {od__law_less an__law_less : Option Addr} {sl__law_less : Array (Option Value)} {oc__law_less kV__law_less dc__law_less pm__law_less cd__law_less ct__law_less : Value} {f__law_are_through : Addr} {od__law_are_through an__law_are_through : Option Addr} {sl__law_are_through : Array (Option Value)} {oc__law_are_through kV__law_are_through dc__law_are_through pm__law_are_through cd__law_are_through ct__law_are_through : Value} {f__law_right : Addr} {od__law_right an__law_right : Option Addr} {sl__law_right : Array (Option Value)} {oc__law_right kV__law_right dc__law_right pm__law_right cd__law_right ct__law_right : Value} {f_law : Addr} {od_law an_law : Option Addr} {sl_law : Array (Option Value)} {oc_law kV_law dc_law pm_law cd_law ct_law : Value} {tk_q_ROUND1 : Tok} {tk_q_ROUND2 : Tok} {tk_q_ROUND3 : Tok} {tk_q_ROUND4 : Tok} {tk_q_ROUND5 : Tok} {a_q_ROUND5 : Addr} {dd_q_ROUND5 : Option Addr} {n_q_ROUND5 : Nat} {sl_q_ROUND5 : Array (Option Value)} {tk_q_ROWS_OF_PARTS1 : Tok} {tk_q_ROWS_OF_PARTS2 : Tok} {tk_q_ROWS_OF_PARTS3 : Tok} {tk_q_ROWS_OF_PARTS4 : Tok} {tk_q_ROWS_OF_PARTS5 : Tok} {a_q_ROWS_OF_PARTS5 : Addr} {dd_q_ROWS_OF_PARTS5 : Option Addr} {n_q_ROWS_OF_PARTS5 : Nat} {sl_q_ROWS_OF_PARTS5 : Array (Option Value)} {tk_q_ROWS_OF_PARTS7 : Tok} {tk_q_ROWS_OF_PARTS8 : Tok} {tk_q_ROWS_OF_PARTS9 : Tok} {tk_q_ROWS_OF_PARTS10 : Tok} {tk_q_ROWS_OF_PARTS11 : Tok} {a_q_ROWS_OF_PARTS11 : Addr} {dd_q_ROWS_OF_PARTS11 : Option Addr} {n_q_ROWS_OF_PARTS11 : Nat} {sl_q_ROWS_OF_PARTS11 : Array (Option Value)} {tk_q_ROWS_OF_PARTS13 : Tok} {tk_q_ROWS_OF_PARTS14 : Tok} {tk_q_ROWS_OF_PARTS15 : Tok} {tk_q_ROWS_OF_PARTS16 : Tok} {tk_q_ROWS_OF_PARTS17 : Tok} {a_q_ROWS_OF_PARTS17 : Addr} {dd_q_ROWS_OF_PARTS17 : Option Addr} {n_q_ROWS_OF_PARTS17 : Nat} {sl_q_ROWS_OF_PARTS17 : Array (Option Value)} {tk_q_ROWS_OF_PARTS19 : Tok} {tk_q_ROWS_OF_PARTS20 : Tok} {tk_q_ROWS_OF_PARTS21 : Tok} {tk_q_ROWS_OF_PARTS22 : Tok} {tk_q_ROWS_OF_PARTS23 : Tok} {a_q_ROWS_OF_PARTS23 : Addr} {dd_q_ROWS_OF_PARTS23 : Option Addr} {n_q_ROWS_OF_PARTS23 : Nat} {sl_q_ROWS_OF_PARTS23 : Array (Option Value)} {tk_q_ROWS_OF_PARTS25 : Tok} {tk_q_ROWS_OF_PARTS26 : Tok} {tk_q_ROWS_OF_PARTS27 : Tok} {tk_q_ROWS_OF_PARTS28 : Tok} {tk_q_ROWS_OF_PARTS29 : Tok} {a_q_ROWS_OF_PARTS29 : Addr} {dd_q_ROWS_OF_PARTS29 : Option Addr} {n_q_ROWS_OF_PARTS29 : Nat} {sl_q_ROWS_OF_PARTS29 : Array (Option Value)} {a_q_ROWS_OF_PARTS30 : Addr} {dd_q_ROWS_OF_PARTS30 : Option Addr} {n_q_ROWS_OF_PARTS30 : Nat} {sl_q_ROWS_OF_PARTS30 : Array (Option Value)} {tk_q_COURSES_OF_PARTS1 : Tok} {tk_q_COURSES_OF_PARTS2 : Tok} {tk_q_COURSES_OF_PARTS3 : Tok} {tk_q_COURSES_OF_PARTS4 : Tok} {tk_q_COURSES_OF_PARTS5 : Tok} {a_q_COURSES_OF_PARTS5 : Addr} {dd_q_COURSES_OF_PARTS5 : Option Addr} {n_q_COURSES_OF_PARTS5 : Nat} {sl_q_COURSES_OF_PARTS5 : Array (Option Value)} {tk_q_COURSES_OF_PARTS7 : Tok} {tk_q_COURSES_OF_PARTS8 : Tok} {tk_q_COURSES_OF_PARTS9 : Tok} {tk_q_COURSES_OF_PARTS10 : Tok} {tk_q_COURSES_OF_PARTS11 : Tok} {a_q_COURSES_OF_PARTS11 : Addr} {dd_q_COURSES_OF_PARTS11 : Option Addr} {n_q_COURSES_OF_PARTS11 : Nat} {sl_q_COURSES_OF_PARTS11 : Array (Option Value)} {tk_q_COURSES_OF_PARTS13 : Tok} {tk_q_COURSES_OF_PARTS14 : Tok} {tk_q_COURSES_OF_PARTS15 : Tok} {tk_q_COURSES_OF_PARTS16 : Tok} {tk_q_COURSES_OF_PARTS17 : Tok} {a_q_COURSES_OF_PARTS17 : Addr} {dd_q_COURSES_OF_PARTS17 : Option Addr} {n_q_COURSES_OF_PARTS17 : Nat} {sl_q_COURSES_OF_PARTS17 : Array (Option Value)} {tk_q_COURSES_OF_PARTS19 : Tok} {tk_q_COURSES_OF_PARTS20 : Tok} {tk_q_COURSES_OF_PARTS21 : Tok} {tk_q_COURSES_OF_PARTS22 : Tok} {tk_q_COURSES_OF_PARTS23 : Tok} {a_q_COURSES_OF_PARTS23 : Addr} {dd_q_COURSES_OF_PARTS23 : Option Addr} {n_q_COURSES_OF_PARTS23 : Nat} {sl_q_COURSES_OF_PARTS23 : Array (Option Value)} {tk_q_COURSES_OF_PARTS25 : Tok} {tk_q_COURSES_OF_PARTS26 : Tok} {tk_q_COURSES_OF_PARTS27 : Tok} {tk_q_COURSES_OF_PARTS28 : Tok} {tk_q_COURSES_OF_PARTS29 : Tok} {a_q_COURSES_OF_PARTS29 : Addr} {dd_q_COURSES_OF_PARTS29 : Option Addr} {n_q_COURSES_OF_PARTS29 : Nat} {sl_q_COURSES_OF_PARTS29 : Array (Option Value)} {a_q_COURSES_OF_PARTS30 : Addr} {dd_q_COURSES_OF_PARTS30 : Option Addr} {n_q_COURSES_OF_PARTS30 : Nat} {sl_q_COURSES_OF_PARTS30 : Array (Option Value)} (X : K.In h) (G : h.Ns mainGlobals mg) (hfa : mg "law" = some (.ref fa))
    (a_is_whole : PySem.W.nsIn K mainGlobals "is_whole" = some (some (.ref f_is_whole)))
    (l_is_whole : K.lookup f_is_whole = some ⟨oc_is_whole, od_is_whole, .func (PySem.W.fnOf "is_whole" "is_whole" (defArgs s_is_whole) (defBody s_is_whole) (defScope s_is_whole) .none kV_is_whole dc_is_whole pm_is_whole an_is_whole cd_is_whole ct_is_whole), sl_is_whole⟩)
    (c_is_whole : PySem.W.codeIn K cd_is_whole "is_whole" = true)
    (k_is_whole : PySem.W.keepIn K (.ref f_is_whole) = true)
    (a_is_row : PySem.W.nsIn K mainGlobals "is_row" = some (some (.ref f_is_row)))
    (l_is_row : K.lookup f_is_row = some ⟨oc_is_row, od_is_row, .func (PySem.W.fnOf "is_row" "is_row" (defArgs s_is_row) (defBody s_is_row) (defScope s_is_row) .none kV_is_row dc_is_row pm_is_row an_is_row cd_is_row ct_is_row), sl_is_row⟩)
    (c_is_row : PySem.W.codeIn K cd_is_row "is_row" = true)
    (k_is_row : PySem.W.keepIn K (.ref f_is_row) = true)
    (a_divisor_of : PySem.W.nsIn K mainGlobals "divisor_of" = some (some (.ref f_divisor_of)))
    (l_divisor_of : K.lookup f_divisor_of = some ⟨oc_divisor_of, od_divisor_of, .func (PySem.W.fnOf "divisor_of" "divisor_of" (defArgs s_divisor_of) (defBody s_divisor_of) (defScope s_divisor_of) .none kV_divisor_of dc_divisor_of pm_divisor_of an_divisor_of cd_divisor_of ct_divisor_of), sl_divisor_of⟩)
    (c_divisor_of : PySem.W.codeIn K cd_divisor_of "divisor_of" = true)
    (k_divisor_of : PySem.W.keepIn K (.ref f_divisor_of) = true)
    (a_is_reduced_row : PySem.W.nsIn K mainGlobals "is_reduced_row" = some (some (.ref f_is_reduced_row)))
    (l_is_reduced_row : K.lookup f_is_reduced_row = some ⟨oc_is_reduced_row, od_is_reduced_row, .func (PySem.W.fnOf "is_reduced_row" "is_reduced_row" (defArgs s_is_reduced_row) (defBody s_is_reduced_row) (defScope s_is_reduced_row) .none kV_is_reduced_row dc_is_reduced_row pm_is_reduced_row an_is_reduced_row cd_is_reduced_row ct_is_reduced_row), sl_is_reduced_row⟩)
    (c_is_reduced_row : PySem.W.codeIn K cd_is_reduced_row "is_reduced_row" = true)
    (k_is_reduced_row : PySem.W.keepIn K (.ref f_is_reduced_row) = true)
    (a_reduced : PySem.W.nsIn K mainGlobals "reduced" = some (some (.ref f_reduced)))
    (l_reduced : K.lookup f_reduced = some ⟨oc_reduced, od_reduced, .func (PySem.W.fnOf "reduced" "reduced" (defArgs s_reduced) (defBody s_reduced) (defScope s_reduced) .none kV_reduced dc_reduced pm_reduced an_reduced cd_reduced ct_reduced), sl_reduced⟩)
    (c_reduced : PySem.W.codeIn K cd_reduced "reduced" = true)
    (k_reduced : PySem.W.keepIn K (.ref f_reduced) = true)
    (a_dot : PySem.W.nsIn K mainGlobals "dot" = some (some (.ref f_dot)))
    (l_dot : K.lookup f_dot = some ⟨oc_dot, od_dot, .func (PySem.W.fnOf "dot" "dot" (defArgs s_dot) (defBody s_dot) (defScope s_dot) .none kV_dot dc_dot pm_dot an_dot cd_dot ct_dot), sl_dot⟩)
    (c_dot : PySem.W.codeIn K cd_dot "dot" = true)
    (k_dot : PySem.W.keepIn K (.ref f_dot) = true)
    (a_combined : PySem.W.nsIn K mainGlobals "combined" = some (some (.ref f_combined)))
    (l_combined : K.lookup f_combined = some ⟨oc_combined, od_combined, .func (PySem.W.fnOf "combined" "combined" (defArgs s_combined) (defBody s_combined) (defScope s_combined) .none kV_combined dc_combined pm_combined an_combined cd_combined ct_combined), sl_combined⟩)
    (c_combined : PySem.W.codeIn K cd_combined "combined" = true)
    (k_combined : PySem.W.keepIn K (.ref f_combined) = true)
    (a_ratio : PySem.W.nsIn K mainGlobals "ratio" = some (some (.ref f_ratio)))
    (l_ratio : K.lookup f_ratio = some ⟨oc_ratio, od_ratio, .func (PySem.W.fnOf "ratio" "ratio" (defArgs s_ratio) (defBody s_ratio) (defScope s_ratio) .none kV_ratio dc_ratio pm_ratio an_ratio cd_ratio ct_ratio), sl_ratio⟩)
    (c_ratio : PySem.W.codeIn K cd_ratio "ratio" = true)
    (k_ratio : PySem.W.keepIn K (.ref f_ratio) = true)
    (a_is_fraction : PySem.W.nsIn K mainGlobals "is_fraction" = some (some (.ref f_is_fraction)))
    (l_is_fraction : K.lookup f_is_fraction = some ⟨oc_is_fraction, od_is_fraction, .func (PySem.W.fnOf "is_fraction" "is_fraction" (defArgs s_is_fraction) (defBody s_is_fraction) (defScope s_is_fraction) .none kV_is_fraction dc_is_fraction pm_is_fraction an_is_fraction cd_is_fraction ct_is_fraction), sl_is_fraction⟩)
    (c_is_fraction : PySem.W.codeIn K cd_is_fraction "is_fraction" = true)
    (k_is_fraction : PySem.W.keepIn K (.ref f_is_fraction) = true)
    (a_check_fraction : PySem.W.nsIn K mainGlobals "check_fraction" = some (some (.ref f_check_fraction)))
    (l_check_fraction : K.lookup f_check_fraction = some ⟨oc_check_fraction, od_check_fraction, .func (PySem.W.fnOf "check_fraction" "check_fraction" (defArgs s_check_fraction) (defBody s_check_fraction) (defScope s_check_fraction) .none kV_check_fraction dc_check_fraction pm_check_fraction an_check_fraction cd_check_fraction ct_check_fraction), sl_check_fraction⟩)
    (c_check_fraction : PySem.W.codeIn K cd_check_fraction "check_fraction" = true)
    (k_check_fraction : PySem.W.keepIn K (.ref f_check_fraction) = true)
    (a_check_below : PySem.W.nsIn K mainGlobals "check_below" = some (some (.ref f_check_below)))
    (l_check_below : K.lookup f_check_below = some ⟨oc_check_below, od_check_below, .func (PySem.W.fnOf "check_below" "check_below" (defArgs s_check_below) (defBody s_check_below) (defScope s_check_below) .none kV_check_below dc_check_below pm_check_below an_check_below cd_check_below ct_check_below), sl_check_below⟩)
    (c_check_below : PySem.W.codeIn K cd_check_below "check_below" = true)
    (k_check_below : PySem.W.keepIn K (.ref f_check_below) = true)
    (a_trimmed : PySem.W.nsIn K mainGlobals "trimmed" = some (some (.ref f_trimmed)))
    (l_trimmed : K.lookup f_trimmed = some ⟨oc_trimmed, od_trimmed, .func (PySem.W.fnOf "trimmed" "trimmed" (defArgs s_trimmed) (defBody s_trimmed) (defScope s_trimmed) .none kV_trimmed dc_trimmed pm_trimmed an_trimmed cd_trimmed ct_trimmed), sl_trimmed⟩)
    (c_trimmed : PySem.W.codeIn K cd_trimmed "trimmed" = true)
    (k_trimmed : PySem.W.keepIn K (.ref f_trimmed) = true)
    (a_polynomial_product : PySem.W.nsIn K mainGlobals "polynomial_product" = some (some (.ref f_polynomial_product)))
    (l_polynomial_product : K.lookup f_polynomial_product = some ⟨oc_polynomial_product, od_polynomial_product, .func (PySem.W.fnOf "polynomial_product" "polynomial_product" (defArgs s_polynomial_product) (defBody s_polynomial_product) (defScope s_polynomial_product) .none kV_polynomial_product dc_polynomial_product pm_polynomial_product an_polynomial_product cd_polynomial_product ct_polynomial_product), sl_polynomial_product⟩)
    (c_polynomial_product : PySem.W.codeIn K cd_polynomial_product "polynomial_product" = true)
    (k_polynomial_product : PySem.W.keepIn K (.ref f_polynomial_product) = true)
    (a_value_at : PySem.W.nsIn K mainGlobals "value_at" = some (some (.ref f_value_at)))
    (l_value_at : K.lookup f_value_at = some ⟨oc_value_at, od_value_at, .func (PySem.W.fnOf "value_at" "value_at" (defArgs s_value_at) (defBody s_value_at) (defScope s_value_at) .none kV_value_at dc_value_at pm_value_at an_value_at cd_value_at ct_value_at), sl_value_at⟩)
    (c_value_at : PySem.W.codeIn K cd_value_at "value_at" = true)
    (k_value_at : PySem.W.keepIn K (.ref f_value_at) = true)
    (a_is_setting : PySem.W.nsIn K mainGlobals "is_setting" = some (some (.ref f_is_setting)))
    (l_is_setting : K.lookup f_is_setting = some ⟨oc_is_setting, od_is_setting, .func (PySem.W.fnOf "is_setting" "is_setting" (defArgs s_is_setting) (defBody s_is_setting) (defScope s_is_setting) .none kV_is_setting dc_is_setting pm_is_setting an_is_setting cd_is_setting ct_is_setting), sl_is_setting⟩)
    (c_is_setting : PySem.W.codeIn K cd_is_setting "is_setting" = true)
    (k_is_setting : PySem.W.keepIn K (.ref f_is_setting) = true)
    (a_check_setting : PySem.W.nsIn K mainGlobals "check_setting" = some (some (.ref f_check_setting)))
    (l_check_setting : K.lookup f_check_setting = some ⟨oc_check_setting, od_check_setting, .func (PySem.W.fnOf "check_setting" "check_setting" (defArgs s_check_setting) (defBody s_check_setting) (defScope s_check_setting) .none kV_check_setting dc_check_setting pm_check_setting an_check_setting cd_check_setting ct_check_setting), sl_check_setting⟩)
    (c_check_setting : PySem.W.codeIn K cd_check_setting "check_setting" = true)
    (k_check_setting : PySem.W.keepIn K (.ref f_check_setting) = true)
    (a_is_course : PySem.W.nsIn K mainGlobals "is_course" = some (some (.ref f_is_course)))
    (l_is_course : K.lookup f_is_course = some ⟨oc_is_course, od_is_course, .func (PySem.W.fnOf "is_course" "is_course" (defArgs s_is_course) (defBody s_is_course) (defScope s_is_course) .none kV_is_course dc_is_course pm_is_course an_is_course cd_is_course ct_is_course), sl_is_course⟩)
    (c_is_course : PySem.W.codeIn K cd_is_course "is_course" = true)
    (k_is_course : PySem.W.keepIn K (.ref f_is_course) = true)
    (a_check_course : PySem.W.nsIn K mainGlobals "check_course" = some (some (.ref f_check_course)))
    (l_check_course : K.lookup f_check_course = some ⟨oc_check_course, od_check_course, .func (PySem.W.fnOf "check_course" "check_course" (defArgs s_check_course) (defBody s_check_course) (defScope s_check_course) .none kV_check_course dc_check_course pm_check_course an_check_course cd_check_course ct_check_course), sl_check_course⟩)
    (c_check_course : PySem.W.codeIn K cd_check_course "check_course" = true)
    (k_check_course : PySem.W.keepIn K (.ref f_check_course) = true)
    (a_course_of : PySem.W.nsIn K mainGlobals "course_of" = some (some (.ref f_course_of)))
    (l_course_of : K.lookup f_course_of = some ⟨oc_course_of, od_course_of, .func (PySem.W.fnOf "course_of" "course_of" (defArgs s_course_of) (defBody s_course_of) (defScope s_course_of) .none kV_course_of dc_course_of pm_course_of an_course_of cd_course_of ct_course_of), sl_course_of⟩)
    (c_course_of : PySem.W.codeIn K cd_course_of "course_of" = true)
    (k_course_of : PySem.W.keepIn K (.ref f_course_of) = true)
    (a__length_of : PySem.W.nsIn K mainGlobals "_length_of" = some (some (.ref f__length_of)))
    (l__length_of : K.lookup f__length_of = some ⟨oc__length_of, od__length_of, .func (PySem.W.fnOf "_length_of" "_length_of" (defArgs s__length_of) (defBody s__length_of) (defScope s__length_of) .none kV__length_of dc__length_of pm__length_of an__length_of cd__length_of ct__length_of), sl__length_of⟩)
    (c__length_of : PySem.W.codeIn K cd__length_of "_length_of" = true)
    (k__length_of : PySem.W.keepIn K (.ref f__length_of) = true)
    (a_level_at : PySem.W.nsIn K mainGlobals "level_at" = some (some (.ref f_level_at)))
    (l_level_at : K.lookup f_level_at = some ⟨oc_level_at, od_level_at, .func (PySem.W.fnOf "level_at" "level_at" (defArgs s_level_at) (defBody s_level_at) (defScope s_level_at) .none kV_level_at dc_level_at pm_level_at an_level_at cd_level_at ct_level_at), sl_level_at⟩)
    (c_level_at : PySem.W.codeIn K cd_level_at "level_at" = true)
    (k_level_at : PySem.W.keepIn K (.ref f_level_at) = true)
    (a_level_course : PySem.W.nsIn K mainGlobals "level_course" = some (some (.ref f_level_course)))
    (l_level_course : K.lookup f_level_course = some ⟨oc_level_course, od_level_course, .func (PySem.W.fnOf "level_course" "level_course" (defArgs s_level_course) (defBody s_level_course) (defScope s_level_course) .none kV_level_course dc_level_course pm_level_course an_level_course cd_level_course ct_level_course), sl_level_course⟩)
    (c_level_course : PySem.W.codeIn K cd_level_course "level_course" = true)
    (k_level_course : PySem.W.keepIn K (.ref f_level_course) = true)
    (a_course_less : PySem.W.nsIn K mainGlobals "course_less" = some (some (.ref f_course_less)))
    (l_course_less : K.lookup f_course_less = some ⟨oc_course_less, od_course_less, .func (PySem.W.fnOf "course_less" "course_less" (defArgs s_course_less) (defBody s_course_less) (defScope s_course_less) .none kV_course_less dc_course_less pm_course_less an_course_less cd_course_less ct_course_less), sl_course_less⟩)
    (c_course_less : PySem.W.codeIn K cd_course_less "course_less" = true)
    (k_course_less : PySem.W.keepIn K (.ref f_course_less) = true)
    (a__weighed_course : PySem.W.nsIn K mainGlobals "_weighed_course" = some (some (.ref f__weighed_course)))
    (l__weighed_course : K.lookup f__weighed_course = some ⟨oc__weighed_course, od__weighed_course, .func (PySem.W.fnOf "_weighed_course" "_weighed_course" (defArgs s__weighed_course) (defBody s__weighed_course) (defScope s__weighed_course) .none kV__weighed_course dc__weighed_course pm__weighed_course an__weighed_course cd__weighed_course ct__weighed_course), sl__weighed_course⟩)
    (c__weighed_course : PySem.W.codeIn K cd__weighed_course "_weighed_course" = true)
    (k__weighed_course : PySem.W.keepIn K (.ref f__weighed_course) = true)
    (a_course_parts : PySem.W.nsIn K mainGlobals "course_parts" = some (some (.ref f_course_parts)))
    (l_course_parts : K.lookup f_course_parts = some ⟨oc_course_parts, od_course_parts, .func (PySem.W.fnOf "course_parts" "course_parts" (defArgs s_course_parts) (defBody s_course_parts) (defScope s_course_parts) .none kV_course_parts dc_course_parts pm_course_parts an_course_parts cd_course_parts ct_course_parts), sl_course_parts⟩)
    (c_course_parts : PySem.W.codeIn K cd_course_parts "course_parts" = true)
    (k_course_parts : PySem.W.keepIn K (.ref f_course_parts) = true)
    (a_first_wrong__is_fraction : PySem.W.nsIn K mainGlobals "first_wrong" = some (some (.ref f_first_wrong__is_fraction)))
    (l_first_wrong__is_fraction : K.lookup f_first_wrong__is_fraction = some ⟨oc_first_wrong__is_fraction, od_first_wrong__is_fraction, .func (PySem.W.fnOf "first_wrong" "first_wrong" (defArgs s_first_wrong__is_fraction) (defBody s_first_wrong__is_fraction) (defScope s_first_wrong__is_fraction) .none kV_first_wrong__is_fraction dc_first_wrong__is_fraction pm_first_wrong__is_fraction an_first_wrong__is_fraction cd_first_wrong__is_fraction ct_first_wrong__is_fraction), sl_first_wrong__is_fraction⟩)
    (c_first_wrong__is_fraction : PySem.W.codeIn K cd_first_wrong__is_fraction "first_wrong" = true)
    (k_first_wrong__is_fraction : PySem.W.keepIn K (.ref f_first_wrong__is_fraction) = true)
    (a_course_of_parts : PySem.W.nsIn K mainGlobals "course_of_parts" = some (some (.ref f_course_of_parts)))
    (l_course_of_parts : K.lookup f_course_of_parts = some ⟨oc_course_of_parts, od_course_of_parts, .func (PySem.W.fnOf "course_of_parts" "course_of_parts" (defArgs s_course_of_parts) (defBody s_course_of_parts) (defScope s_course_of_parts) .none kV_course_of_parts dc_course_of_parts pm_course_of_parts an_course_of_parts cd_course_of_parts ct_course_of_parts), sl_course_of_parts⟩)
    (c_course_of_parts : PySem.W.codeIn K cd_course_of_parts "course_of_parts" = true)
    (k_course_of_parts : PySem.W.keepIn K (.ref f_course_of_parts) = true)
    (a__is_sample : PySem.W.nsIn K mainGlobals "_is_sample" = some (some (.ref f__is_sample)))
    (l__is_sample : K.lookup f__is_sample = some ⟨oc__is_sample, od__is_sample, .func (PySem.W.fnOf "_is_sample" "_is_sample" (defArgs s__is_sample) (defBody s__is_sample) (defScope s__is_sample) .none kV__is_sample dc__is_sample pm__is_sample an__is_sample cd__is_sample ct__is_sample), sl__is_sample⟩)
    (c__is_sample : PySem.W.codeIn K cd__is_sample "_is_sample" = true)
    (k__is_sample : PySem.W.keepIn K (.ref f__is_sample) = true)
    (a__check_samples : PySem.W.nsIn K mainGlobals "_check_samples" = some (some (.ref f__check_samples)))
    (l__check_samples : K.lookup f__check_samples = some ⟨oc__check_samples, od__check_samples, .func (PySem.W.fnOf "_check_samples" "_check_samples" (defArgs s__check_samples) (defBody s__check_samples) (defScope s__check_samples) .none kV__check_samples dc__check_samples pm__check_samples an__check_samples cd__check_samples ct__check_samples), sl__check_samples⟩)
    (c__check_samples : PySem.W.codeIn K cd__check_samples "_check_samples" = true)
    (k__check_samples : PySem.W.keepIn K (.ref f__check_samples) = true)
    (a_course_through : PySem.W.nsIn K mainGlobals "course_through" = some (some (.ref f_course_through)))
    (l_course_through : K.lookup f_course_through = some ⟨oc_course_through, od_course_through, .func (PySem.W.fnOf "course_through" "course_through" (defArgs s_course_through) (defBody s_course_through) (defScope s_course_through) .none kV_course_through dc_course_through pm_course_through an_course_through cd_course_through ct_course_through), sl_course_through⟩)
    (c_course_through : PySem.W.codeIn K cd_course_through "course_through" = true)
    (k_course_through : PySem.W.keepIn K (.ref f_course_through) = true)
    (a_setting_sum : PySem.W.nsIn K mainGlobals "setting_sum" = some (some (.ref f_setting_sum)))
    (l_setting_sum : K.lookup f_setting_sum = some ⟨oc_setting_sum, od_setting_sum, .func (PySem.W.fnOf "setting_sum" "setting_sum" (defArgs s_setting_sum) (defBody s_setting_sum) (defScope s_setting_sum) .none kV_setting_sum dc_setting_sum pm_setting_sum an_setting_sum cd_setting_sum ct_setting_sum), sl_setting_sum⟩)
    (c_setting_sum : PySem.W.codeIn K cd_setting_sum "setting_sum" = true)
    (k_setting_sum : PySem.W.keepIn K (.ref f_setting_sum) = true)
    (a_setting_back : PySem.W.nsIn K mainGlobals "setting_back" = some (some (.ref f_setting_back)))
    (l_setting_back : K.lookup f_setting_back = some ⟨oc_setting_back, od_setting_back, .func (PySem.W.fnOf "setting_back" "setting_back" (defArgs s_setting_back) (defBody s_setting_back) (defScope s_setting_back) .none kV_setting_back dc_setting_back pm_setting_back an_setting_back cd_setting_back ct_setting_back), sl_setting_back⟩)
    (c_setting_back : PySem.W.codeIn K cd_setting_back "setting_back" = true)
    (k_setting_back : PySem.W.keepIn K (.ref f_setting_back) = true)
    (a__law_source : PySem.W.nsIn K mainGlobals "_law_source" = some (some (.ref f__law_source)))
    (l__law_source : K.lookup f__law_source = some ⟨oc__law_source, od__law_source, .func (PySem.W.fnOf "_law_source" "_law_source" (defArgs s__law_source) (defBody s__law_source) (defScope s__law_source) .none kV__law_source dc__law_source pm__law_source an__law_source cd__law_source ct__law_source), sl__law_source⟩)
    (c__law_source : PySem.W.codeIn K cd__law_source "_law_source" = true)
    (k__law_source : PySem.W.keepIn K (.ref f__law_source) = true)
    (a__law_draw : PySem.W.nsIn K mainGlobals "_law_draw" = some (some (.ref f__law_draw)))
    (l__law_draw : K.lookup f__law_draw = some ⟨oc__law_draw, od__law_draw, .func (PySem.W.fnOf "_law_draw" "_law_draw" (defArgs s__law_draw) (defBody s__law_draw) (defScope s__law_draw) .none kV__law_draw dc__law_draw pm__law_draw an__law_draw cd__law_draw ct__law_draw), sl__law_draw⟩)
    (c__law_draw : PySem.W.codeIn K cd__law_draw "_law_draw" = true)
    (k__law_draw : PySem.W.keepIn K (.ref f__law_draw) = true)
    (a__law_pick : PySem.W.nsIn K mainGlobals "_law_pick" = some (some (.ref f__law_pick)))
    (l__law_pick : K.lookup f__law_pick = some ⟨oc__law_pick, od__law_pick, .func (PySem.W.fnOf "_law_pick" "_law_pick" (defArgs s__law_pick) (defBody s__law_pick) (defScope s__law_pick) .none kV__law_pick dc__law_pick pm__law_pick an__law_pick cd__law_pick ct__law_pick), sl__law_pick⟩)
    (c__law_pick : PySem.W.codeIn K cd__law_pick "_law_pick" = true)
    (k__law_pick : PySem.W.keepIn K (.ref f__law_pick) = true)
    (a__law_about : PySem.W.nsIn K mainGlobals "_law_about" = some (some (.ref f__law_about)))
    (l__law_about : K.lookup f__law_about = some ⟨oc__law_about, od__law_about, .func (PySem.W.fnOf "_law_about" "_law_about" (defArgs s__law_about) (defBody s__law_about) (defScope s__law_about) .none kV__law_about dc__law_about pm__law_about an__law_about cd__law_about ct__law_about), sl__law_about⟩)
    (c__law_about : PySem.W.codeIn K cd__law_about "_law_about" = true)
    (k__law_about : PySem.W.keepIn K (.ref f__law_about) = true)
    (a__law_common : PySem.W.nsIn K mainGlobals "_law_common" = some (some (.ref f__law_common)))
    (l__law_common : K.lookup f__law_common = some ⟨oc__law_common, od__law_common, .func (PySem.W.fnOf "_law_common" "_law_common" (defArgs s__law_common) (defBody s__law_common) (defScope s__law_common) .none kV__law_common dc__law_common pm__law_common an__law_common cd__law_common ct__law_common), sl__law_common⟩)
    (c__law_common : PySem.W.codeIn K cd__law_common "_law_common" = true)
    (k__law_common : PySem.W.keepIn K (.ref f__law_common) = true)
    (a__law_low : PySem.W.nsIn K mainGlobals "_law_low" = some (some (.ref f__law_low)))
    (l__law_low : K.lookup f__law_low = some ⟨oc__law_low, od__law_low, .func (PySem.W.fnOf "_law_low" "_law_low" (defArgs s__law_low) (defBody s__law_low) (defScope s__law_low) .none kV__law_low dc__law_low pm__law_low an__law_low cd__law_low ct__law_low), sl__law_low⟩)
    (c__law_low : PySem.W.codeIn K cd__law_low "_law_low" = true)
    (k__law_low : PySem.W.keepIn K (.ref f__law_low) = true)
    (a__law_ratio : PySem.W.nsIn K mainGlobals "_law_ratio" = some (some (.ref f__law_ratio)))
    (l__law_ratio : K.lookup f__law_ratio = some ⟨oc__law_ratio, od__law_ratio, .func (PySem.W.fnOf "_law_ratio" "_law_ratio" (defArgs s__law_ratio) (defBody s__law_ratio) (defScope s__law_ratio) .none kV__law_ratio dc__law_ratio pm__law_ratio an__law_ratio cd__law_ratio ct__law_ratio), sl__law_ratio⟩)
    (c__law_ratio : PySem.W.codeIn K cd__law_ratio "_law_ratio" = true)
    (k__law_ratio : PySem.W.keepIn K (.ref f__law_ratio) = true)
    (a__law_slot : PySem.W.nsIn K mainGlobals "_law_slot" = some (some (.ref f__law_slot)))
    (l__law_slot : K.lookup f__law_slot = some ⟨oc__law_slot, od__law_slot, .func (PySem.W.fnOf "_law_slot" "_law_slot" (defArgs s__law_slot) (defBody s__law_slot) (defScope s__law_slot) .none kV__law_slot dc__law_slot pm__law_slot an__law_slot cd__law_slot ct__law_slot), sl__law_slot⟩)
    (c__law_slot : PySem.W.codeIn K cd__law_slot "_law_slot" = true)
    (k__law_slot : PySem.W.keepIn K (.ref f__law_slot) = true)
    (a__law_signed : PySem.W.nsIn K mainGlobals "_law_signed" = some (some (.ref f__law_signed)))
    (l__law_signed : K.lookup f__law_signed = some ⟨oc__law_signed, od__law_signed, .func (PySem.W.fnOf "_law_signed" "_law_signed" (defArgs s__law_signed) (defBody s__law_signed) (defScope s__law_signed) .none kV__law_signed dc__law_signed pm__law_signed an__law_signed cd__law_signed ct__law_signed), sl__law_signed⟩)
    (c__law_signed : PySem.W.codeIn K cd__law_signed "_law_signed" = true)
    (k__law_signed : PySem.W.keepIn K (.ref f__law_signed) = true)
    (a__law_summed : PySem.W.nsIn K mainGlobals "_law_summed" = some (some (.ref f__law_summed)))
    (l__law_summed : K.lookup f__law_summed = some ⟨oc__law_summed, od__law_summed, .func (PySem.W.fnOf "_law_summed" "_law_summed" (defArgs s__law_summed) (defBody s__law_summed) (defScope s__law_summed) .none kV__law_summed dc__law_summed pm__law_summed an__law_summed cd__law_summed ct__law_summed), sl__law_summed⟩)
    (c__law_summed : PySem.W.codeIn K cd__law_summed "_law_summed" = true)
    (k__law_summed : PySem.W.keepIn K (.ref f__law_summed) = true)
    (a__law_form : PySem.W.nsIn K mainGlobals "_law_form" = some (some (.ref f__law_form)))
    (l__law_form : K.lookup f__law_form = some ⟨oc__law_form, od__law_form, .func (PySem.W.fnOf "_law_form" "_law_form" (defArgs s__law_form) (defBody s__law_form) (defScope s__law_form) .none kV__law_form dc__law_form pm__law_form an__law_form cd__law_form ct__law_form), sl__law_form⟩)
    (c__law_form : PySem.W.codeIn K cd__law_form "_law_form" = true)
    (k__law_form : PySem.W.keepIn K (.ref f__law_form) = true)
    (a__law_at : PySem.W.nsIn K mainGlobals "_law_at" = some (some (.ref f__law_at)))
    (l__law_at : K.lookup f__law_at = some ⟨oc__law_at, od__law_at, .func (PySem.W.fnOf "_law_at" "_law_at" (defArgs s__law_at) (defBody s__law_at) (defScope s__law_at) .none kV__law_at dc__law_at pm__law_at an__law_at cd__law_at ct__law_at), sl__law_at⟩)
    (c__law_at : PySem.W.codeIn K cd__law_at "_law_at" = true)
    (k__law_at : PySem.W.keepIn K (.ref f__law_at) = true)
    (a__law_quad : PySem.W.nsIn K mainGlobals "_law_quad" = some (some (.ref f__law_quad)))
    (l__law_quad : K.lookup f__law_quad = some ⟨oc__law_quad, od__law_quad, .func (PySem.W.fnOf "_law_quad" "_law_quad" (defArgs s__law_quad) (defBody s__law_quad) (defScope s__law_quad) .none kV__law_quad dc__law_quad pm__law_quad an__law_quad cd__law_quad ct__law_quad), sl__law_quad⟩)
    (c__law_quad : PySem.W.codeIn K cd__law_quad "_law_quad" = true)
    (k__law_quad : PySem.W.keepIn K (.ref f__law_quad) = true)
    (a__law_folded : PySem.W.nsIn K mainGlobals "_law_folded" = some (some (.ref f__law_folded)))
    (l__law_folded : K.lookup f__law_folded = some ⟨oc__law_folded, od__law_folded, .func (PySem.W.fnOf "_law_folded" "_law_folded" (defArgs s__law_folded) (defBody s__law_folded) (defScope s__law_folded) .none kV__law_folded dc__law_folded pm__law_folded an__law_folded cd__law_folded ct__law_folded), sl__law_folded⟩)
    (c__law_folded : PySem.W.codeIn K cd__law_folded "_law_folded" = true)
    (k__law_folded : PySem.W.keepIn K (.ref f__law_folded) = true)
    (a__law_course : PySem.W.nsIn K mainGlobals "_law_course" = some (some (.ref f__law_course)))
    (l__law_course : K.lookup f__law_course = some ⟨oc__law_course, od__law_course, .func (PySem.W.fnOf "_law_course" "_law_course" (defArgs s__law_course) (defBody s__law_course) (defScope s__law_course) .none kV__law_course dc__law_course pm__law_course an__law_course cd__law_course ct__law_course), sl__law_course⟩)
    (c__law_course : PySem.W.codeIn K cd__law_course "_law_course" = true)
    (k__law_course : PySem.W.keepIn K (.ref f__law_course) = true)
    (a__law_fraction : PySem.W.nsIn K mainGlobals "_law_fraction" = some (some (.ref f__law_fraction)))
    (l__law_fraction : K.lookup f__law_fraction = some ⟨oc__law_fraction, od__law_fraction, .func (PySem.W.fnOf "_law_fraction" "_law_fraction" (defArgs s__law_fraction) (defBody s__law_fraction) (defScope s__law_fraction) .none kV__law_fraction dc__law_fraction pm__law_fraction an__law_fraction cd__law_fraction ct__law_fraction), sl__law_fraction⟩)
    (c__law_fraction : PySem.W.codeIn K cd__law_fraction "_law_fraction" = true)
    (k__law_fraction : PySem.W.keepIn K (.ref f__law_fraction) = true)
    (a__law_slots : PySem.W.nsIn K mainGlobals "_law_slots" = some (some (.ref f__law_slots)))
    (l__law_slots : K.lookup f__law_slots = some ⟨oc__law_slots, od__law_slots, .func (PySem.W.fnOf "_law_slots" "_law_slots" (defArgs s__law_slots) (defBody s__law_slots) (defScope s__law_slots) .none kV__law_slots dc__law_slots pm__law_slots an__law_slots cd__law_slots ct__law_slots), sl__law_slots⟩)
    (c__law_slots : PySem.W.codeIn K cd__law_slots "_law_slots" = true)
    (k__law_slots : PySem.W.keepIn K (.ref f__law_slots) = true)
    (a__law_parts : PySem.W.nsIn K mainGlobals "_law_parts" = some (some (.ref f__law_parts)))
    (l__law_parts : K.lookup f__law_parts = some ⟨oc__law_parts, od__law_parts, .func (PySem.W.fnOf "_law_parts" "_law_parts" (defArgs s__law_parts) (defBody s__law_parts) (defScope s__law_parts) .none kV__law_parts dc__law_parts pm__law_parts an__law_parts cd__law_parts ct__law_parts), sl__law_parts⟩)
    (c__law_parts : PySem.W.codeIn K cd__law_parts "_law_parts" = true)
    (k__law_parts : PySem.W.keepIn K (.ref f__law_parts) = true)
    (a__law_laid : PySem.W.nsIn K mainGlobals "_law_laid" = some (some (.ref f__law_laid)))
    (l__law_laid : K.lookup f__law_laid = some ⟨oc__law_laid, od__law_laid, .func (PySem.W.fnOf "_law_laid" "_law_laid" (defArgs s__law_laid) (defBody s__law_laid) (defScope s__law_laid) .none kV__law_laid dc__law_laid pm__law_laid an__law_laid cd__law_laid ct__law_laid), sl__law_laid⟩)
    (c__law_laid : PySem.W.codeIn K cd__law_laid "_law_laid" = true)
    (k__law_laid : PySem.W.keepIn K (.ref f__law_laid) = true)
    (a__law_less : PySem.W.nsIn K mainGlobals "_law_less" = some (some (.ref f__law_less)))
    (l__law_less : K.lookup f__law_less = some ⟨oc__law_less, od__law_less, .func (PySem.W.fnOf "_law_less" "_law_less" (defArgs s__law_less) (defBody s__law_less) (defScope s__law_less) .none kV__law_less dc__law_less pm__law_less an__law_less cd__law_less ct__law_less), sl__law_less⟩)
    (c__law_less : PySem.W.codeIn K cd__law_less "_law_less" = true)
    (k__law_less : PySem.W.keepIn K (.ref f__law_less) = true)
    (a__law_are_through : PySem.W.nsIn K mainGlobals "_law_are_through" = some (some (.ref f__law_are_through)))
    (l__law_are_through : K.lookup f__law_are_through = some ⟨oc__law_are_through, od__law_are_through, .func (PySem.W.fnOf "_law_are_through" "_law_are_through" (defArgs s__law_are_through) (defBody s__law_are_through) (defScope s__law_are_through) .none kV__law_are_through dc__law_are_through pm__law_are_through an__law_are_through cd__law_are_through ct__law_are_through), sl__law_are_through⟩)
    (c__law_are_through : PySem.W.codeIn K cd__law_are_through "_law_are_through" = true)
    (k__law_are_through : PySem.W.keepIn K (.ref f__law_are_through) = true)
    (a__law_right : PySem.W.nsIn K mainGlobals "_law_right" = some (some (.ref f__law_right)))
    (l__law_right : K.lookup f__law_right = some ⟨oc__law_right, od__law_right, .func (PySem.W.fnOf "_law_right" "_law_right" (defArgs s__law_right) (defBody s__law_right) (defScope s__law_right) .none kV__law_right dc__law_right pm__law_right an__law_right cd__law_right ct__law_right), sl__law_right⟩)
    (c__law_right : PySem.W.codeIn K cd__law_right "_law_right" = true)
    (k__law_right : PySem.W.keepIn K (.ref f__law_right) = true)
    (a_law : PySem.W.nsIn K mainGlobals "law" = some (some (.ref f_law)))
    (l_law : K.lookup f_law = some ⟨oc_law, od_law, .func (PySem.W.fnOf "law" "law" (defArgs s_law) (defBody s_law) (defScope s_law) .none kV_law dc_law pm_law an_law cd_law ct_law), sl_law⟩)
    (c_law : PySem.W.codeIn K cd_law "law" = true)
    (k_law : PySem.W.keepIn K (.ref f_law) = true)
    (z_gcd : PySem.W.nsIn K mainGlobals "gcd" = some (some (.builtin "math.gcd")))
    (z_lcm : PySem.W.nsIn K mainGlobals "lcm" = some (some (.builtin "math.lcm")))
    (z_abs : PySem.W.nsIn K mainGlobals "abs" = some none)
    (z_all : PySem.W.nsIn K mainGlobals "all" = some none)
    (z_divmod : PySem.W.nsIn K mainGlobals "divmod" = some none)
    (z_enumerate : PySem.W.nsIn K mainGlobals "enumerate" = some none)
    (z_int : PySem.W.nsIn K mainGlobals "int" = some none)
    (z_isinstance : PySem.W.nsIn K mainGlobals "isinstance" = some none)
    (z_len : PySem.W.nsIn K mainGlobals "len" = some none)
    (z_list : PySem.W.nsIn K mainGlobals "list" = some none)
    (z_max : PySem.W.nsIn K mainGlobals "max" = some none)
    (z_min : PySem.W.nsIn K mainGlobals "min" = some none)
    (z_range : PySem.W.nsIn K mainGlobals "range" = some none)
    (z_repr : PySem.W.nsIn K mainGlobals "repr" = some none)
    (z_reversed : PySem.W.nsIn K mainGlobals "reversed" = some none)
    (z_sum : PySem.W.nsIn K mainGlobals "sum" = some none)
    (z_tuple : PySem.W.nsIn K mainGlobals "tuple" = some none)
    (z_type : PySem.W.nsIn K mainGlobals "type" = some none)
    (z_zip : PySem.W.nsIn K mainGlobals "zip" = some none)
    (y__ROUND : PySem.W.nsIn K mainGlobals "_ROUND" = some (some (.ref a_q_ROUND5)))
    (t_q_ROUND5 : K.lookup a_q_ROUND5 = some ⟨.type "tuple", dd_q_ROUND5, .seq #[.int (1) tk_q_ROUND1, .int (0) tk_q_ROUND2, .int (2) tk_q_ROUND3, .int (0) tk_q_ROUND4, .int (1) tk_q_ROUND5] n_q_ROUND5, sl_q_ROUND5⟩)
    (y__ROWS_OF_PARTS : PySem.W.nsIn K mainGlobals "_ROWS_OF_PARTS" = some (some (.ref a_q_ROWS_OF_PARTS30)))
    (t_q_ROWS_OF_PARTS30 : K.lookup a_q_ROWS_OF_PARTS30 = some ⟨.type "tuple", dd_q_ROWS_OF_PARTS30, .seq #[.ref a_q_ROWS_OF_PARTS5, .ref a_q_ROWS_OF_PARTS11, .ref a_q_ROWS_OF_PARTS17, .ref a_q_ROWS_OF_PARTS23, .ref a_q_ROWS_OF_PARTS29] n_q_ROWS_OF_PARTS30, sl_q_ROWS_OF_PARTS30⟩)
    (t_q_ROWS_OF_PARTS29 : K.lookup a_q_ROWS_OF_PARTS29 = some ⟨.type "tuple", dd_q_ROWS_OF_PARTS29, .seq #[.int (0) tk_q_ROWS_OF_PARTS25, .int (1) tk_q_ROWS_OF_PARTS26, .int (0) tk_q_ROWS_OF_PARTS27, .int (-1) tk_q_ROWS_OF_PARTS28, .int (0) tk_q_ROWS_OF_PARTS29] n_q_ROWS_OF_PARTS29, sl_q_ROWS_OF_PARTS29⟩)
    (t_q_ROWS_OF_PARTS23 : K.lookup a_q_ROWS_OF_PARTS23 = some ⟨.type "tuple", dd_q_ROWS_OF_PARTS23, .seq #[.int (1) tk_q_ROWS_OF_PARTS19, .int (0) tk_q_ROWS_OF_PARTS20, .int (-1) tk_q_ROWS_OF_PARTS21, .int (0) tk_q_ROWS_OF_PARTS22, .int (1) tk_q_ROWS_OF_PARTS23] n_q_ROWS_OF_PARTS23, sl_q_ROWS_OF_PARTS23⟩)
    (t_q_ROWS_OF_PARTS17 : K.lookup a_q_ROWS_OF_PARTS17 = some ⟨.type "tuple", dd_q_ROWS_OF_PARTS17, .seq #[.int (0) tk_q_ROWS_OF_PARTS13, .int (2) tk_q_ROWS_OF_PARTS14, .int (0) tk_q_ROWS_OF_PARTS15, .int (2) tk_q_ROWS_OF_PARTS16, .int (0) tk_q_ROWS_OF_PARTS17] n_q_ROWS_OF_PARTS17, sl_q_ROWS_OF_PARTS17⟩)
    (t_q_ROWS_OF_PARTS11 : K.lookup a_q_ROWS_OF_PARTS11 = some ⟨.type "tuple", dd_q_ROWS_OF_PARTS11, .seq #[.int (4) tk_q_ROWS_OF_PARTS7, .int (0) tk_q_ROWS_OF_PARTS8, .int (0) tk_q_ROWS_OF_PARTS9, .int (0) tk_q_ROWS_OF_PARTS10, .int (-4) tk_q_ROWS_OF_PARTS11] n_q_ROWS_OF_PARTS11, sl_q_ROWS_OF_PARTS11⟩)
    (t_q_ROWS_OF_PARTS5 : K.lookup a_q_ROWS_OF_PARTS5 = some ⟨.type "tuple", dd_q_ROWS_OF_PARTS5, .seq #[.int (3) tk_q_ROWS_OF_PARTS1, .int (0) tk_q_ROWS_OF_PARTS2, .int (1) tk_q_ROWS_OF_PARTS3, .int (0) tk_q_ROWS_OF_PARTS4, .int (3) tk_q_ROWS_OF_PARTS5] n_q_ROWS_OF_PARTS5, sl_q_ROWS_OF_PARTS5⟩)
    (y__COURSES_OF_PARTS : PySem.W.nsIn K mainGlobals "_COURSES_OF_PARTS" = some (some (.ref a_q_COURSES_OF_PARTS30)))
    (t_q_COURSES_OF_PARTS30 : K.lookup a_q_COURSES_OF_PARTS30 = some ⟨.type "tuple", dd_q_COURSES_OF_PARTS30, .seq #[.ref a_q_COURSES_OF_PARTS5, .ref a_q_COURSES_OF_PARTS11, .ref a_q_COURSES_OF_PARTS17, .ref a_q_COURSES_OF_PARTS23, .ref a_q_COURSES_OF_PARTS29] n_q_COURSES_OF_PARTS30, sl_q_COURSES_OF_PARTS30⟩)
    (t_q_COURSES_OF_PARTS29 : K.lookup a_q_COURSES_OF_PARTS29 = some ⟨.type "tuple", dd_q_COURSES_OF_PARTS29, .seq #[.int (0) tk_q_COURSES_OF_PARTS25, .int (4) tk_q_COURSES_OF_PARTS26, .int (0) tk_q_COURSES_OF_PARTS27, .int (-4) tk_q_COURSES_OF_PARTS28, .int (0) tk_q_COURSES_OF_PARTS29] n_q_COURSES_OF_PARTS29, sl_q_COURSES_OF_PARTS29⟩)
    (t_q_COURSES_OF_PARTS23 : K.lookup a_q_COURSES_OF_PARTS23 = some ⟨.type "tuple", dd_q_COURSES_OF_PARTS23, .seq #[.int (1) tk_q_COURSES_OF_PARTS19, .int (0) tk_q_COURSES_OF_PARTS20, .int (-6) tk_q_COURSES_OF_PARTS21, .int (0) tk_q_COURSES_OF_PARTS22, .int (1) tk_q_COURSES_OF_PARTS23] n_q_COURSES_OF_PARTS23, sl_q_COURSES_OF_PARTS23⟩)
    (t_q_COURSES_OF_PARTS17 : K.lookup a_q_COURSES_OF_PARTS17 = some ⟨.type "tuple", dd_q_COURSES_OF_PARTS17, .seq #[.int (0) tk_q_COURSES_OF_PARTS13, .int (2) tk_q_COURSES_OF_PARTS14, .int (0) tk_q_COURSES_OF_PARTS15, .int (2) tk_q_COURSES_OF_PARTS16, .int (0) tk_q_COURSES_OF_PARTS17] n_q_COURSES_OF_PARTS17, sl_q_COURSES_OF_PARTS17⟩)
    (t_q_COURSES_OF_PARTS11 : K.lookup a_q_COURSES_OF_PARTS11 = some ⟨.type "tuple", dd_q_COURSES_OF_PARTS11, .seq #[.int (1) tk_q_COURSES_OF_PARTS7, .int (0) tk_q_COURSES_OF_PARTS8, .int (0) tk_q_COURSES_OF_PARTS9, .int (0) tk_q_COURSES_OF_PARTS10, .int (-1) tk_q_COURSES_OF_PARTS11] n_q_COURSES_OF_PARTS11, sl_q_COURSES_OF_PARTS11⟩)
    (t_q_COURSES_OF_PARTS5 : K.lookup a_q_COURSES_OF_PARTS5 = some ⟨.type "tuple", dd_q_COURSES_OF_PARTS5, .seq #[.int (1) tk_q_COURSES_OF_PARTS1, .int (0) tk_q_COURSES_OF_PARTS2, .int (2) tk_q_COURSES_OF_PARTS3, .int (0) tk_q_COURSES_OF_PARTS4, .int (1) tk_q_COURSES_OF_PARTS5] n_q_COURSES_OF_PARTS5, sl_q_COURSES_OF_PARTS5⟩) :
    ∃ fd : FuncData, (∀ (s : Shared) (v : Value), BindsTo s fd ⟨[v], []⟩ [("_law_script", v)]) ∧ ∀ base : Heap, K.In base → base.Ns mainGlobals mg → FnG l.prog w K mg base 10 fa fd ["_law_script"] F_law_K35 := by
  have e := hfa.symm.trans (PySem.W.mg_of X G a_law)
  cases e
  have U_is_whole := fun_mk (st := s_is_whole) l_is_whole c_is_whole k_is_whole
  have U_is_row := fun_mk (st := s_is_row) l_is_row c_is_row k_is_row
  have U_divisor_of := fun_mk (st := s_divisor_of) l_divisor_of c_divisor_of k_divisor_of
  have U_is_reduced_row := fun_mk (st := s_is_reduced_row) l_is_reduced_row c_is_reduced_row k_is_reduced_row
  have U_reduced := fun_mk (st := s_reduced) l_reduced c_reduced k_reduced
  have U_dot := fun_mk (st := s_dot) l_dot c_dot k_dot
  have U_combined := fun_mk (st := s_combined) l_combined c_combined k_combined
  have U_ratio := fun_mk (st := s_ratio) l_ratio c_ratio k_ratio
  have U_is_fraction := fun_mk (st := s_is_fraction) l_is_fraction c_is_fraction k_is_fraction
  have U_check_fraction := fun_mk (st := s_check_fraction) l_check_fraction c_check_fraction k_check_fraction
  have U_check_below := fun_mk (st := s_check_below) l_check_below c_check_below k_check_below
  have U_trimmed := fun_mk (st := s_trimmed) l_trimmed c_trimmed k_trimmed
  have U_polynomial_product := fun_mk (st := s_polynomial_product) l_polynomial_product c_polynomial_product k_polynomial_product
  have U_value_at := fun_mk (st := s_value_at) l_value_at c_value_at k_value_at
  have U_is_setting := fun_mk (st := s_is_setting) l_is_setting c_is_setting k_is_setting
  have U_check_setting := fun_mk (st := s_check_setting) l_check_setting c_check_setting k_check_setting
  have U_is_course := fun_mk (st := s_is_course) l_is_course c_is_course k_is_course
  have U_check_course := fun_mk (st := s_check_course) l_check_course c_check_course k_check_course
  have U_course_of := fun_mk (st := s_course_of) l_course_of c_course_of k_course_of
  have U__length_of := fun_mk (st := s__length_of) l__length_of c__length_of k__length_of
  have U_level_at := fun_mk (st := s_level_at) l_level_at c_level_at k_level_at
  have U_level_course := fun_mk (st := s_level_course) l_level_course c_level_course k_level_course
  have U_course_less := fun_mk (st := s_course_less) l_course_less c_course_less k_course_less
  have U__weighed_course := fun_mk (st := s__weighed_course) l__weighed_course c__weighed_course k__weighed_course
  have U_course_parts := fun_mk (st := s_course_parts) l_course_parts c_course_parts k_course_parts
  have U_first_wrong__is_fraction := fun_mk (st := s_first_wrong__is_fraction) l_first_wrong__is_fraction c_first_wrong__is_fraction k_first_wrong__is_fraction
  have U_course_of_parts := fun_mk (st := s_course_of_parts) l_course_of_parts c_course_of_parts k_course_of_parts
  have U__is_sample := fun_mk (st := s__is_sample) l__is_sample c__is_sample k__is_sample
  have U__check_samples := fun_mk (st := s__check_samples) l__check_samples c__check_samples k__check_samples
  have U_course_through := fun_mk (st := s_course_through) l_course_through c_course_through k_course_through
  have U_setting_sum := fun_mk (st := s_setting_sum) l_setting_sum c_setting_sum k_setting_sum
  have U_setting_back := fun_mk (st := s_setting_back) l_setting_back c_setting_back k_setting_back
  have U__law_source := fun_mk (st := s__law_source) l__law_source c__law_source k__law_source
  have U__law_draw := fun_mk (st := s__law_draw) l__law_draw c__law_draw k__law_draw
  have U__law_pick := fun_mk (st := s__law_pick) l__law_pick c__law_pick k__law_pick
  have U__law_about := fun_mk (st := s__law_about) l__law_about c__law_about k__law_about
  have U__law_common := fun_mk (st := s__law_common) l__law_common c__law_common k__law_common
  have U__law_low := fun_mk (st := s__law_low) l__law_low c__law_low k__law_low
  have U__law_ratio := fun_mk (st := s__law_ratio) l__law_ratio c__law_ratio k__law_ratio
  have U__law_slot := fun_mk (st := s__law_slot) l__law_slot c__law_slot k__law_slot
  have U__law_signed := fun_mk (st := s__law_signed) l__law_signed c__law_signed k__law_signed
  have U__law_summed := fun_mk (st := s__law_summed) l__law_summed c__law_summed k__law_summed
  have U__law_form := fun_mk (st := s__law_form) l__law_form c__law_form k__law_form
  have U__law_at := fun_mk (st := s__law_at) l__law_at c__law_at k__law_at
  have U__law_quad := fun_mk (st := s__law_quad) l__law_quad c__law_quad k__law_quad
  have U__law_folded := fun_mk (st := s__law_folded) l__law_folded c__law_folded k__law_folded
  have U__law_course := fun_mk (st := s__law_course) l__law_course c__law_course k__law_course
  have U__law_fraction := fun_mk (st := s__law_fraction) l__law_fraction c__law_fraction k__law_fraction
  have U__law_slots := fun_mk (st := s__law_slots) l__law_slots c__law_slots k__law_slots
  have U__law_parts := fun_mk (st := s__law_parts) l__law_parts c__law_parts k__law_parts
  have U__law_laid := fun_mk (st := s__law_laid) l__law_laid c__law_laid k__law_laid
  have U__law_less := fun_mk (st := s__law_less) l__law_less c__law_less k__law_less
  have U__law_are_through := fun_mk (st := s__law_are_through) l__law_are_through c__law_are_through k__law_are_through
  have U__law_right := fun_mk (st := s__law_right) l__law_right c__law_right k__law_right
  have U_law := fun_mk (st := s_law) l_law c_law k_law
  have T : Tx K mg := ⟨PySem.W.mg_of X G z_gcd, PySem.W.mg_of X G z_lcm, PySem.W.mg_none_of X G z_abs, PySem.W.mg_none_of X G z_all, PySem.W.mg_none_of X G z_divmod, PySem.W.mg_none_of X G z_enumerate, PySem.W.mg_none_of X G z_int, PySem.W.mg_none_of X G z_isinstance, PySem.W.mg_none_of X G z_len, PySem.W.mg_none_of X G z_list, PySem.W.mg_none_of X G z_max, PySem.W.mg_none_of X G z_min, PySem.W.mg_none_of X G z_range, PySem.W.mg_none_of X G z_repr, PySem.W.mg_none_of X G z_reversed, PySem.W.mg_none_of X G z_sum, PySem.W.mg_none_of X G z_tuple, PySem.W.mg_none_of X G z_type, PySem.W.mg_none_of X G z_zip, ⟨_, a_is_fraction, PySem.W.mg_of X G a_is_fraction⟩, ⟨.ref a_q_ROUND5, _, PySem.W.mg_of X G y__ROUND, rfl, fun _ => (dp_kt (vs := [.int (1), .int (0), .int (2), .int (0), .int (1)]) t_q_ROUND5 (by show 5 ≤ sizeLine; decide) (.cons ⟨_, rfl⟩ (.cons ⟨_, rfl⟩ (.cons ⟨_, rfl⟩ (.cons ⟨_, rfl⟩ (.cons ⟨_, rfl⟩ .nil))))) fun _ => (.cons (.int _) (.cons (.int _) (.cons (.int _) (.cons (.int _) (.cons (.int _) .nil))))))⟩, ⟨.ref a_q_ROWS_OF_PARTS30, _, PySem.W.mg_of X G y__ROWS_OF_PARTS, rfl, fun _ => (dp_kt (vs := [.ref a_q_ROWS_OF_PARTS5, .ref a_q_ROWS_OF_PARTS11, .ref a_q_ROWS_OF_PARTS17, .ref a_q_ROWS_OF_PARTS23, .ref a_q_ROWS_OF_PARTS29]) t_q_ROWS_OF_PARTS30 (by show 5 ≤ sizeLine; decide) (.cons rfl (.cons rfl (.cons rfl (.cons rfl (.cons rfl .nil))))) fun _ => (.cons (dp_kt (vs := [.int (3), .int (0), .int (1), .int (0), .int (3)]) t_q_ROWS_OF_PARTS5 (by show 5 ≤ sizeLine; decide) (.cons ⟨_, rfl⟩ (.cons ⟨_, rfl⟩ (.cons ⟨_, rfl⟩ (.cons ⟨_, rfl⟩ (.cons ⟨_, rfl⟩ .nil))))) fun _ => (.cons (.int _) (.cons (.int _) (.cons (.int _) (.cons (.int _) (.cons (.int _) .nil)))))) (.cons (dp_kt (vs := [.int (4), .int (0), .int (0), .int (0), .int (-4)]) t_q_ROWS_OF_PARTS11 (by show 5 ≤ sizeLine; decide) (.cons ⟨_, rfl⟩ (.cons ⟨_, rfl⟩ (.cons ⟨_, rfl⟩ (.cons ⟨_, rfl⟩ (.cons ⟨_, rfl⟩ .nil))))) fun _ => (.cons (.int _) (.cons (.int _) (.cons (.int _) (.cons (.int _) (.cons (.int _) .nil)))))) (.cons (dp_kt (vs := [.int (0), .int (2), .int (0), .int (2), .int (0)]) t_q_ROWS_OF_PARTS17 (by show 5 ≤ sizeLine; decide) (.cons ⟨_, rfl⟩ (.cons ⟨_, rfl⟩ (.cons ⟨_, rfl⟩ (.cons ⟨_, rfl⟩ (.cons ⟨_, rfl⟩ .nil))))) fun _ => (.cons (.int _) (.cons (.int _) (.cons (.int _) (.cons (.int _) (.cons (.int _) .nil)))))) (.cons (dp_kt (vs := [.int (1), .int (0), .int (-1), .int (0), .int (1)]) t_q_ROWS_OF_PARTS23 (by show 5 ≤ sizeLine; decide) (.cons ⟨_, rfl⟩ (.cons ⟨_, rfl⟩ (.cons ⟨_, rfl⟩ (.cons ⟨_, rfl⟩ (.cons ⟨_, rfl⟩ .nil))))) fun _ => (.cons (.int _) (.cons (.int _) (.cons (.int _) (.cons (.int _) (.cons (.int _) .nil)))))) (.cons (dp_kt (vs := [.int (0), .int (1), .int (0), .int (-1), .int (0)]) t_q_ROWS_OF_PARTS29 (by show 5 ≤ sizeLine; decide) (.cons ⟨_, rfl⟩ (.cons ⟨_, rfl⟩ (.cons ⟨_, rfl⟩ (.cons ⟨_, rfl⟩ (.cons ⟨_, rfl⟩ .nil))))) fun _ => (.cons (.int _) (.cons (.int _) (.cons (.int _) (.cons (.int _) (.cons (.int _) .nil)))))) .nil))))))⟩, ⟨.ref a_q_COURSES_OF_PARTS30, _, PySem.W.mg_of X G y__COURSES_OF_PARTS, rfl, fun _ => (dp_kt (vs := [.ref a_q_COURSES_OF_PARTS5, .ref a_q_COURSES_OF_PARTS11, .ref a_q_COURSES_OF_PARTS17, .ref a_q_COURSES_OF_PARTS23, .ref a_q_COURSES_OF_PARTS29]) t_q_COURSES_OF_PARTS30 (by show 5 ≤ sizeLine; decide) (.cons rfl (.cons rfl (.cons rfl (.cons rfl (.cons rfl .nil))))) fun _ => (.cons (dp_kt (vs := [.int (1), .int (0), .int (2), .int (0), .int (1)]) t_q_COURSES_OF_PARTS5 (by show 5 ≤ sizeLine; decide) (.cons ⟨_, rfl⟩ (.cons ⟨_, rfl⟩ (.cons ⟨_, rfl⟩ (.cons ⟨_, rfl⟩ (.cons ⟨_, rfl⟩ .nil))))) fun _ => (.cons (.int _) (.cons (.int _) (.cons (.int _) (.cons (.int _) (.cons (.int _) .nil)))))) (.cons (dp_kt (vs := [.int (1), .int (0), .int (0), .int (0), .int (-1)]) t_q_COURSES_OF_PARTS11 (by show 5 ≤ sizeLine; decide) (.cons ⟨_, rfl⟩ (.cons ⟨_, rfl⟩ (.cons ⟨_, rfl⟩ (.cons ⟨_, rfl⟩ (.cons ⟨_, rfl⟩ .nil))))) fun _ => (.cons (.int _) (.cons (.int _) (.cons (.int _) (.cons (.int _) (.cons (.int _) .nil)))))) (.cons (dp_kt (vs := [.int (0), .int (2), .int (0), .int (2), .int (0)]) t_q_COURSES_OF_PARTS17 (by show 5 ≤ sizeLine; decide) (.cons ⟨_, rfl⟩ (.cons ⟨_, rfl⟩ (.cons ⟨_, rfl⟩ (.cons ⟨_, rfl⟩ (.cons ⟨_, rfl⟩ .nil))))) fun _ => (.cons (.int _) (.cons (.int _) (.cons (.int _) (.cons (.int _) (.cons (.int _) .nil)))))) (.cons (dp_kt (vs := [.int (1), .int (0), .int (-6), .int (0), .int (1)]) t_q_COURSES_OF_PARTS23 (by show 5 ≤ sizeLine; decide) (.cons ⟨_, rfl⟩ (.cons ⟨_, rfl⟩ (.cons ⟨_, rfl⟩ (.cons ⟨_, rfl⟩ (.cons ⟨_, rfl⟩ .nil))))) fun _ => (.cons (.int _) (.cons (.int _) (.cons (.int _) (.cons (.int _) (.cons (.int _) .nil)))))) (.cons (dp_kt (vs := [.int (0), .int (4), .int (0), .int (-4), .int (0)]) t_q_COURSES_OF_PARTS29 (by show 5 ≤ sizeLine; decide) (.cons ⟨_, rfl⟩ (.cons ⟨_, rfl⟩ (.cons ⟨_, rfl⟩ (.cons ⟨_, rfl⟩ (.cons ⟨_, rfl⟩ .nil))))) fun _ => (.cons (.int _) (.cons (.int _) (.cons (.int _) (.cons (.int _) (.cons (.int _) .nil)))))) .nil))))))⟩⟩
  refine ⟨PySem.W.fnOf "law" "law" (defArgs s_law) (defBody s_law) (defScope s_law) .none kV_law dc_law pm_law an_law cd_law ct_law, fun s v => .of_eq rfl, fun base _ _ => ?_⟩
  have C_is_whole : At l.prog w K mg base 1 "is_whole" ["value"] F_is_whole := at_mk U_is_whole (PySem.W.mg_of X G a_is_whole) (ok_is_whole U_is_whole T ) fun _ _ _ _ _ _ us hl i hi => bk_is_whole us hl i hi
  have C_is_row : At l.prog w K mg base 2 "is_row" ["value", "many"] F_is_row := at_mk U_is_row (PySem.W.mg_of X G a_is_row) (ok_is_row U_is_row T C_is_whole) fun _ _ _ _ _ _ us hl i hi => bk_is_row us hl i hi
  have C_divisor_of : At l.prog w K mg base 1 "divisor_of" ["numbers"] F_divisor_of := at_mk U_divisor_of (PySem.W.mg_of X G a_divisor_of) (ok_divisor_of U_divisor_of T ) fun _ _ _ _ _ _ us hl i hi => bk_divisor_of us hl i hi
  have C_is_reduced_row : At l.prog w K mg base 3 "is_reduced_row" ["value", "many"] F_is_reduced_row := at_mk U_is_reduced_row (PySem.W.mg_of X G a_is_reduced_row) (ok_is_reduced_row U_is_reduced_row T C_divisor_of C_is_row) fun _ _ _ _ _ _ us hl i hi => bk_is_reduced_row us hl i hi
  have C_reduced : At l.prog w K mg base 2 "reduced" ["numbers"] F_reduced := at_mk U_reduced (PySem.W.mg_of X G a_reduced) (ok_reduced U_reduced T C_divisor_of) fun _ _ _ _ _ _ us hl i hi => bk_reduced us hl i hi
  have C_dot : At l.prog w K mg base 1 "dot" ["row", "other"] F_dot := at_mk U_dot (PySem.W.mg_of X G a_dot) (ok_dot U_dot T ) fun _ _ _ _ _ _ us hl i hi => bk_dot us hl i hi
  have C_combined : At l.prog w K mg base 1 "combined" ["one", "row", "two", "other"] F_combined := at_mk U_combined (PySem.W.mg_of X G a_combined) (ok_combined U_combined T ) fun _ _ _ _ _ _ us hl i hi => bk_combined us hl i hi
  have C_ratio : At l.prog w K mg base 1 "ratio" ["p", "q"] F_ratio := at_mk U_ratio (PySem.W.mg_of X G a_ratio) (ok_ratio U_ratio T ) fun _ _ _ _ _ _ us hl i hi => bk_ratio us hl i hi
  have C_is_fraction : At l.prog w K mg base 4 "is_fraction" ["value"] F_is_fraction := at_mk U_is_fraction (PySem.W.mg_of X G a_is_fraction) (ok_is_fraction U_is_fraction T C_is_reduced_row) fun _ _ _ _ _ _ us hl i hi => bk_is_fraction us hl i hi
  have C_check_fraction : At l.prog w K mg base 5 "check_fraction" ["value"] F_check_fraction := at_mk U_check_fraction (PySem.W.mg_of X G a_check_fraction) (ok_check_fraction U_check_fraction T C_is_fraction) fun _ _ _ _ _ _ us hl i hi => bk_check_fraction us hl i hi
  have C_check_below : At l.prog w K mg base 2 "check_below" ["value"] F_check_below := at_mk U_check_below (PySem.W.mg_of X G a_check_below) (ok_check_below U_check_below T C_is_whole) fun _ _ _ _ _ _ us hl i hi => bk_check_below us hl i hi
  have C_trimmed : At l.prog w K mg base 1 "trimmed" ["polynomial"] F_trimmed := at_mk U_trimmed (PySem.W.mg_of X G a_trimmed) (ok_trimmed U_trimmed T ) fun _ _ _ _ _ _ us hl i hi => bk_trimmed us hl i hi
  have C_polynomial_product : At l.prog w K mg base 2 "polynomial_product" ["one", "two"] F_polynomial_product := at_mk U_polynomial_product (PySem.W.mg_of X G a_polynomial_product) (ok_polynomial_product U_polynomial_product T C_trimmed) fun _ _ _ _ _ _ us hl i hi => bk_polynomial_product us hl i hi
  have C_value_at : At l.prog w K mg base 1 "value_at" ["polynomial", "point"] F_value_at := at_mk U_value_at (PySem.W.mg_of X G a_value_at) (ok_value_at U_value_at T ) fun _ _ _ _ _ _ us hl i hi => bk_value_at us hl i hi
  have C_is_setting : At l.prog w K mg base 4 "is_setting" ["value"] F_is_setting := at_mk U_is_setting (PySem.W.mg_of X G a_is_setting) (ok_is_setting U_is_setting T C_is_reduced_row) fun _ _ _ _ _ _ us hl i hi => bk_is_setting us hl i hi
  have C_check_setting : At l.prog w K mg base 5 "check_setting" ["value"] F_check_setting := at_mk U_check_setting (PySem.W.mg_of X G a_check_setting) (ok_check_setting U_check_setting T C_is_setting) fun _ _ _ _ _ _ us hl i hi => bk_check_setting us hl i hi
  have C_is_course : At l.prog w K mg base 4 "is_course" ["value"] F_is_course := at_mk U_is_course (PySem.W.mg_of X G a_is_course) (ok_is_course U_is_course T C_is_reduced_row) fun _ _ _ _ _ _ us hl i hi => bk_is_course us hl i hi
  have C_check_course : At l.prog w K mg base 5 "check_course" ["value"] F_check_course := at_mk U_check_course (PySem.W.mg_of X G a_check_course) (ok_check_course U_check_course T C_is_course) fun _ _ _ _ _ _ us hl i hi => bk_check_course us hl i hi
  have C_course_of : At l.prog w K mg base 3 "course_of" ["numbers", "below"] F_course_of := at_mk U_course_of (PySem.W.mg_of X G a_course_of) (ok_course_of U_course_of T C_check_below C_is_row C_reduced) fun _ _ _ _ _ _ us hl i hi => bk_course_of us hl i hi
  have C_course_of_by10 : AtP l.prog w K mg base 3 "course_of" ["numbers", "below"] ["below", "numbers"] [1, 0] F_course_of := atp_mk U_course_of (PySem.W.mg_of X G a_course_of) (ok_course_of U_course_of T C_check_below C_is_row C_reduced) fun _ _ _ _ _ _ us hl => bp_course_of_by10 us hl
  have C__length_of : At l.prog w K mg base 1 "_length_of" ["setting"] F__length_of := at_mk U__length_of (PySem.W.mg_of X G a__length_of) (ok__length_of U__length_of T ) fun _ _ _ _ _ _ us hl i hi => bk__length_of us hl i hi
  have C_level_at : At l.prog w K mg base 6 "level_at" ["course", "setting"] F_level_at := at_mk U_level_at (PySem.W.mg_of X G a_level_at) (ok_level_at U_level_at T C__length_of C_check_course C_check_setting C_ratio C_value_at) fun _ _ _ _ _ _ us hl i hi => bk_level_at us hl i hi
  have C_level_at_by10 : AtP l.prog w K mg base 6 "level_at" ["course", "setting"] ["setting", "course"] [1, 0] F_level_at := atp_mk U_level_at (PySem.W.mg_of X G a_level_at) (ok_level_at U_level_at T C__length_of C_check_course C_check_setting C_ratio C_value_at) fun _ _ _ _ _ _ us hl => bp_level_at_by10 us hl
  have C_level_course : At l.prog w K mg base 6 "level_course" ["level"] F_level_course := at_mk U_level_course (PySem.W.mg_of X G a_level_course) (ok_level_course U_level_course T C_check_fraction C_reduced) fun _ _ _ _ _ _ us hl i hi => bk_level_course us hl i hi
  have C_course_less : At l.prog w K mg base 6 "course_less" ["course", "other"] F_course_less := at_mk U_course_less (PySem.W.mg_of X G a_course_less) (ok_course_less U_course_less T C_check_course C_combined C_reduced) fun _ _ _ _ _ _ us hl i hi => bk_course_less us hl i hi
  have C_course_less_by10 : AtP l.prog w K mg base 6 "course_less" ["course", "other"] ["other", "course"] [1, 0] F_course_less := atp_mk U_course_less (PySem.W.mg_of X G a_course_less) (ok_course_less U_course_less T C_check_course C_combined C_reduced) fun _ _ _ _ _ _ us hl => bp_course_less_by10 us hl
  have C__weighed_course : At l.prog w K mg base 3 "_weighed_course" ["rows", "weights"] F__weighed_course := at_mk U__weighed_course (PySem.W.mg_of X G a__weighed_course) (ok__weighed_course U__weighed_course T C_combined C_reduced) fun _ _ _ _ _ _ us hl i hi => bk__weighed_course us hl i hi
  have C_course_parts : At l.prog w K mg base 6 "course_parts" ["course"] F_course_parts := at_mk U_course_parts (PySem.W.mg_of X G a_course_parts) (ok_course_parts U_course_parts T C_check_course C_dot C_ratio) fun _ _ _ _ _ _ us hl i hi => bk_course_parts us hl i hi
  have C_first_wrong__is_fraction : At l.prog w K mg base 5 "first_wrong" ["things", "is_right", "most"] F_first_wrong__is_fraction := at_mk U_first_wrong__is_fraction (PySem.W.mg_of X G a_first_wrong__is_fraction) (ok_first_wrong__is_fraction U_first_wrong__is_fraction T C_is_fraction) fun _ _ _ _ _ _ us hl i hi => bk_first_wrong__is_fraction us hl i hi
  have C_course_of_parts : At l.prog w K mg base 6 "course_of_parts" ["parts"] F_course_of_parts := at_mk U_course_of_parts (PySem.W.mg_of X G a_course_of_parts) (ok_course_of_parts U_course_of_parts T C__weighed_course C_first_wrong__is_fraction) fun _ _ _ _ _ _ us hl i hi => bk_course_of_parts us hl i hi
  have C__is_sample : At l.prog w K mg base 5 "_is_sample" ["value"] F__is_sample := at_mk U__is_sample (PySem.W.mg_of X G a__is_sample) (ok__is_sample U__is_sample T C_is_fraction C_is_setting) fun _ _ _ _ _ _ us hl i hi => bk__is_sample us hl i hi
  have C__check_samples : At l.prog w K mg base 6 "_check_samples" ["samples"] F__check_samples := at_mk U__check_samples (PySem.W.mg_of X G a__check_samples) (ok__check_samples U__check_samples T C__is_sample) fun _ _ _ _ _ _ us hl i hi => bk__check_samples us hl i hi
  have C_course_through : At l.prog w K mg base 7 "course_through" ["samples"] F_course_through := at_mk U_course_through (PySem.W.mg_of X G a_course_through) (ok_course_through U_course_through T C__check_samples C__length_of C__weighed_course C_polynomial_product C_ratio C_value_at) fun _ _ _ _ _ _ us hl i hi => bk_course_through us hl i hi
  have C_setting_sum : At l.prog w K mg base 6 "setting_sum" ["setting", "other"] F_setting_sum := at_mk U_setting_sum (PySem.W.mg_of X G a_setting_sum) (ok_setting_sum U_setting_sum T C_check_setting C_reduced) fun _ _ _ _ _ _ us hl i hi => bk_setting_sum us hl i hi
  have C_setting_sum_by10 : AtP l.prog w K mg base 6 "setting_sum" ["setting", "other"] ["other", "setting"] [1, 0] F_setting_sum := atp_mk U_setting_sum (PySem.W.mg_of X G a_setting_sum) (ok_setting_sum U_setting_sum T C_check_setting C_reduced) fun _ _ _ _ _ _ us hl => bp_setting_sum_by10 us hl
  have C_setting_back : At l.prog w K mg base 6 "setting_back" ["setting"] F_setting_back := at_mk U_setting_back (PySem.W.mg_of X G a_setting_back) (ok_setting_back U_setting_back T C_check_setting) fun _ _ _ _ _ _ us hl i hi => bk_setting_back us hl i hi
  have C__law_source : At l.prog w K mg base 1 "_law_source" ["_law_script", "_law_at_here"] F__law_source := at_mk U__law_source (PySem.W.mg_of X G a__law_source) (ok__law_source U__law_source T ) fun _ _ _ _ _ _ us hl i hi => bk__law_source us hl i hi
  have C__law_draw : At l.prog w K mg base 1 "_law_draw" ["_law_source_here", "_law_top"] F__law_draw := at_mk U__law_draw (PySem.W.mg_of X G a__law_draw) (ok__law_draw U__law_draw T ) fun _ _ _ _ _ _ us hl i hi => bk__law_draw us hl i hi
  have C__law_pick : At l.prog w K mg base 2 "_law_pick" ["_law_source_here", "_law_some"] F__law_pick_K36 := at_mk U__law_pick (PySem.W.mg_of X G a__law_pick) (ok__law_pick U__law_pick T C__law_draw) fun _ _ _ _ _ _ us hl i hi => bk__law_pick us hl i hi
  have C__law_about : At l.prog w K mg base 2 "_law_about" ["_law_source_here", "_law_most"] F__law_about := at_mk U__law_about (PySem.W.mg_of X G a__law_about) (ok__law_about U__law_about T C__law_draw) fun _ _ _ _ _ _ us hl i hi => bk__law_about us hl i hi
  have C__law_common : At l.prog w K mg base 1 "_law_common" ["_law_row"] F__law_common_K36 := at_mk U__law_common (PySem.W.mg_of X G a__law_common) (ok__law_common U__law_common T ) fun _ _ _ _ _ _ us hl i hi => bk__law_common us hl i hi
  have C__law_low : At l.prog w K mg base 2 "_law_low" ["_law_row"] F__law_low_K36 := at_mk U__law_low (PySem.W.mg_of X G a__law_low) (ok__law_low U__law_low T C__law_common) fun _ _ _ _ _ _ us hl i hi => bk__law_low us hl i hi
  have C__law_ratio : At l.prog w K mg base 2 "_law_ratio" ["_law_top", "_law_under"] F__law_ratio_K36 := at_mk U__law_ratio (PySem.W.mg_of X G a__law_ratio) (ok__law_ratio U__law_ratio T C__law_common) fun _ _ _ _ _ _ us hl i hi => bk__law_ratio us hl i hi
  have C__law_slot : At l.prog w K mg base 3 "_law_slot" ["_law_source_here"] F__law_slot := at_mk U__law_slot (PySem.W.mg_of X G a__law_slot) (ok__law_slot U__law_slot T C__law_about C__law_draw C__law_low C__law_pick) fun _ _ _ _ _ _ us hl i hi => bk__law_slot us hl i hi
  have C__law_signed : At l.prog w K mg base 3 "_law_signed" ["_law_pair"] F__law_signed := at_mk U__law_signed (PySem.W.mg_of X G a__law_signed) (ok__law_signed U__law_signed T C__law_low) fun _ _ _ _ _ _ us hl i hi => bk__law_signed us hl i hi
  have C__law_summed : At l.prog w K mg base 4 "_law_summed" ["_law_one", "_law_two"] F__law_summed := at_mk U__law_summed (PySem.W.mg_of X G a__law_summed) (ok__law_summed U__law_summed T C__law_signed) fun _ _ _ _ _ _ us hl i hi => bk__law_summed us hl i hi
  have C__law_form : At l.prog w K mg base 1 "_law_form" ["_law_row", "_law_slot_here"] F__law_form := at_mk U__law_form (PySem.W.mg_of X G a__law_form) (ok__law_form U__law_form T ) fun _ _ _ _ _ _ us hl i hi => bk__law_form us hl i hi
  have C__law_at : At l.prog w K mg base 3 "_law_at" ["_law_row", "_law_slot_here"] F__law_at_K36 := at_mk U__law_at (PySem.W.mg_of X G a__law_at) (ok__law_at U__law_at T C__law_form C__law_ratio) fun _ _ _ _ _ _ us hl i hi => bk__law_at us hl i hi
  have C__law_quad : At l.prog w K mg base 3 "_law_quad" ["_law_source_here"] F__law_quad := at_mk U__law_quad (PySem.W.mg_of X G a__law_quad) (ok__law_quad U__law_quad T C__law_about C__law_draw C__law_pick) fun _ _ _ _ _ _ us hl i hi => bk__law_quad us hl i hi
  have C__law_folded : At l.prog w K mg base 1 "_law_folded" ["_law_one", "_law_two"] F__law_folded := at_mk U__law_folded (PySem.W.mg_of X G a__law_folded) (ok__law_folded U__law_folded T ) fun _ _ _ _ _ _ us hl i hi => bk__law_folded us hl i hi
  have C__law_course : At l.prog w K mg base 4 "_law_course" ["_law_source_here"] F__law_course := at_mk U__law_course (PySem.W.mg_of X G a__law_course) (ok__law_course U__law_course T C__law_about C__law_draw C__law_folded C__law_low C__law_quad C__law_ratio) fun _ _ _ _ _ _ us hl i hi => bk__law_course us hl i hi
  have C__law_fraction : At l.prog w K mg base 3 "_law_fraction" ["_law_source_here"] F__law_fraction := at_mk U__law_fraction (PySem.W.mg_of X G a__law_fraction) (ok__law_fraction U__law_fraction T C__law_about C__law_draw C__law_pick C__law_ratio) fun _ _ _ _ _ _ us hl i hi => bk__law_fraction us hl i hi
  have C__law_slots : At l.prog w K mg base 4 "_law_slots" ["_law_source_here"] F__law_slots := at_mk U__law_slots (PySem.W.mg_of X G a__law_slots) (ok__law_slots U__law_slots T C__law_slot) fun _ _ _ _ _ _ us hl i hi => bk__law_slots us hl i hi
  have C__law_parts : At l.prog w K mg base 3 "_law_parts" ["_law_row"] F__law_parts := at_mk U__law_parts (PySem.W.mg_of X G a__law_parts) (ok__law_parts U__law_parts T C__law_ratio) fun _ _ _ _ _ _ us hl i hi => bk__law_parts us hl i hi
  have C__law_laid : At l.prog w K mg base 3 "_law_laid" ["_law_parts_here"] F__law_laid_K35 := at_mk U__law_laid (PySem.W.mg_of X G a__law_laid) (ok__law_laid U__law_laid T C__law_low) fun _ _ _ _ _ _ us hl i hi => bk__law_laid us hl i hi
  have C__law_less : At l.prog w K mg base 3 "_law_less" ["_law_one", "_law_two"] F__law_less := at_mk U__law_less (PySem.W.mg_of X G a__law_less) (ok__law_less U__law_less T C__law_low) fun _ _ _ _ _ _ us hl i hi => bk__law_less us hl i hi
  have C__law_are_through : At l.prog w K mg base 8 "_law_are_through" ["_law_source_here", "_law_row"] F__law_are_through := at_mk U__law_are_through (PySem.W.mg_of X G a__law_are_through) (ok__law_are_through U__law_are_through T C__law_at C__law_fraction C__law_low C__law_slots C_course_through C_is_course C_level_at) fun _ _ _ _ _ _ us hl i hi => bk__law_are_through us hl i hi
  have C__law_right : At l.prog w K mg base 9 "_law_right" ["_law_source_here"] F__law_right_K35 := at_mk U__law_right (PySem.W.mg_of X G a__law_right) (ok__law_right U__law_right T C__law_are_through C__law_at C__law_course C__law_draw C__law_fraction C__law_laid C__law_less C__law_low C__law_parts C__law_slot C__law_summed C_course_less C_course_of C_course_of_parts C_course_parts C_is_course C_level_at C_level_course C_setting_back C_setting_sum C_course_less_by10 C_course_of_by10 C_level_at_by10 C_setting_sum_by10) fun _ _ _ _ _ _ us hl i hi => bk__law_right us hl i hi
  exact ok_law U_law T C__law_right C__law_source
end K35


set_option Elab.async false
set_option linter.all false
set_option maxRecDepth 100000
set_option maxHeartbeats 4000000
set_option exponentiation.threshold 20000
namespace PL
open PySem PySem.Spec L2 DL
local macro_rules | `(tactic| simp! [$as,*]) => `(tactic| simp only [fThaw, fThawT, fThawL, thawD, thawO, noL, noLAll, fAug, gAug, fRev, fFnA, fCallV, fBot, fZip, zipD, gSum, intsOf, List.foldl_cons, List.foldl_nil, mkF, fRet, fRetL, fRetN, fSkip, fSeq, fNever, fSet, fAsg, fNew, fIfS, fDrop, fPar, fPar3, fSetc, fSetc2, fVar, fLit, fOp, fUn, fTup, fTup.datsOf, fLst, fNilA, fConsA, fStarA, fCelA, fOfL, fTru, fAndT, fOrT, fNotT, fAndV, fOrV, fNotV, fIf, fBi, fCall, fCallL, fCallFr, fPerm, callF, celOf, celsOk, norm, aName, aNil, aCons, aTup, setD, fSl, fIt, fItL, fItT, fFor, forGo, fLc, lcGo, fYes, wipeD, fCix, fList, fSlL, fPart, fNoPart, fChain, List.length_cons, List.length_nil, List.getElem?_cons_zero, List.getElem?_cons_succ, List.getElem?_nil, List.set_cons_zero, List.set_cons_succ, List.map_cons, List.map_nil, List.cons_append, List.nil_append, List.append_nil, List.replicate, List.take_zero, List.take_nil, List.take_succ_cons, ↓bsome, ↓msome, Option.bind_some, Option.map_some, Option.bind_none, Option.map_none, Nat.sub_self, Int.cast_ofNat_Int, Nat.reduceAdd, Nat.reduceMul, Nat.reduceSub, Nat.reduceLeDiff, Nat.reduceLT, Nat.zero_add, Nat.add_zero, and_self, and_true, true_and, if_true, if_false, ↓reduceIte, ite_true, Bool.true_eq_false, Bool.false_eq_true, beq_self_eq_true, Bool.and_self, Bool.not_true, Bool.not_false, decide_true, decide_false, gLen, gTyIs, gTyNot, tyOf, gNeg, gPlus, DL.gSub, gCmp, gInt, gAbs, gTuple, gMax, gMin, gGcd, LIM, gIx, $as,*])
theorem core_arethrough {X R Z0 Z1 Z2 Z3 Z4 A0 A1 A2 A3 A4 f0 f1 f2 f3 f4 : PyData} {t0 t1 t2 t3 t4 td : Int} {t u0 u1 u2 u3 u4 u5 : List PyData} (y : F__law_slots [.cel 0] [t] = some (.dat (.list [Z0, Z1, Z2, Z3, Z4]), [u0]))
    (a0 : F__law_at_K36 [.dat X, .dat Z0] [] = some (.dat A0, [])) (a1 : F__law_at_K36 [.dat X, .dat Z1] [] = some (.dat A1, [])) (a2 : F__law_at_K36 [.dat X, .dat Z2] [] = some (.dat A2, [])) (a3 : F__law_at_K36 [.dat X, .dat Z3] [] = some (.dat A3, [])) (a4 : F__law_at_K36 [.dat X, .dat Z4] [] = some (.dat A4, []))
    (e1 : F_course_through [.dat (.tuple [.tuple [Z0, A0], .tuple [Z1, A1], .tuple [Z2, A2], .tuple [Z3, A3], .tuple [Z4, A4]])] [] = some (.dat X, [])) (r1 : gRepr [X] = some R) (r2 : gNe R R = some (.bool false))
    (y0 : F__law_fraction [.cel 0] [u0] = some (.dat f0, [u1])) (y1 : F__law_fraction [.cel 0] [u1] = some (.dat f1, [u2])) (y2 : F__law_fraction [.cel 0] [u2] = some (.dat f2, [u3])) (y3 : F__law_fraction [.cel 0] [u3] = some (.dat f3, [u4])) (y4 : F__law_fraction [.cel 0] [u4] = some (.dat f4, [u5]))
    (e2 : F_course_through [.dat (.tuple [.tuple [Z0, f0], .tuple [Z1, f1], .tuple [Z2, f2], .tuple [Z3, f3], .tuple [Z4, f4]])] [] = some (.dat (T6 t0 t1 t2 t3 t4 td), [])) (ic : F_is_course [.dat (T6 t0 t1 t2 t3 t4 td)] [] = some (.dat (.bool true), [])) (il : F__law_low_K36 [.dat (T6 t0 t1 t2 t3 t4 td)] [] = some (.dat (T6 t0 t1 t2 t3 t4 td), [])) (in1 : gNe (T6 t0 t1 t2 t3 t4 td) (T6 t0 t1 t2 t3 t4 td) = some (.bool false)) (h1 : decide (td < 1) = false)
    (b0 : F__law_at_K36 [.dat (T6 t0 t1 t2 t3 t4 td), .dat Z0] [] = some (.dat f0, [])) (v0 : F_level_at [.dat (T6 t0 t1 t2 t3 t4 td), .dat Z0] [] = some (.dat f0, [])) (nf0 : gNe f0 f0 = some (.bool false)) (b1 : F__law_at_K36 [.dat (T6 t0 t1 t2 t3 t4 td), .dat Z1] [] = some (.dat f1, [])) (v1 : F_level_at [.dat (T6 t0 t1 t2 t3 t4 td), .dat Z1] [] = some (.dat f1, [])) (nf1 : gNe f1 f1 = some (.bool false)) (b2 : F__law_at_K36 [.dat (T6 t0 t1 t2 t3 t4 td), .dat Z2] [] = some (.dat f2, [])) (v2 : F_level_at [.dat (T6 t0 t1 t2 t3 t4 td), .dat Z2] [] = some (.dat f2, [])) (nf2 : gNe f2 f2 = some (.bool false)) (b3 : F__law_at_K36 [.dat (T6 t0 t1 t2 t3 t4 td), .dat Z3] [] = some (.dat f3, [])) (v3 : F_level_at [.dat (T6 t0 t1 t2 t3 t4 td), .dat Z3] [] = some (.dat f3, [])) (nf3 : gNe f3 f3 = some (.bool false)) (b4 : F__law_at_K36 [.dat (T6 t0 t1 t2 t3 t4 td), .dat Z4] [] = some (.dat f4, [])) (v4 : F_level_at [.dat (T6 t0 t1 t2 t3 t4 td), .dat Z4] [] = some (.dat f4, [])) (nf4 : gNe f4 f4 = some (.bool false)) : F__law_are_through [.cel 0, .dat X] [t] = some (.dat (.bool true), [u5]) := by
  have isi : gIsi "tuple" (T6 t0 t1 t2 t3 t4 td) = some (.bool true) := rfl
  have g6 : gNe (.int 6) (.int 6) = some (.bool false) := rfl
  have ge : gEq (.list []) (.list []) = some (.bool true) := rfl
  have c0 : (fSet 2 (fCall F__law_slots (fCelA 0 fNilA))) ⟨[some (.cel 0), some (.dat X), none, none, none, none, none], [t]⟩ = some (.nx ⟨[some (.cel 0), some (.dat X), some (.dat (.list [Z0, Z1, Z2, Z3, Z4])), none, none, none, none], [u0]⟩) := by
    simp! [y]
  have c1 : (fSet 3 (fCall F_course_through (fConsA (fBi gTuple (fConsA (fOfL (fLc (fIt (fVar 2)) (aName 5) fYes (fTup (fConsA (fVar 5) (fConsA (fCall F__law_at_K36 (fConsA (fVar 1) (fConsA (fVar 5) fNilA))) fNilA))) [5])) fNilA)) fNilA))) ⟨[some (.cel 0), some (.dat X), some (.dat (.list [Z0, Z1, Z2, Z3, Z4])), none, none, none, none], [u0]⟩ = some (.nx ⟨[some (.cel 0), some (.dat X), some (.dat (.list [Z0, Z1, Z2, Z3, Z4])), some (.dat X), none, none, none], [u0]⟩) := by
    simp! [gTuple, a0, a1, a2, a3, a4, e1]
  have c2 : (fIfS (fTru (fOp gNe (fBi gRepr (fConsA (fVar 3) fNilA)) (fBi gRepr (fConsA (fVar 1) fNilA)))) (fRet (fLit (.bool false))) fSkip) ⟨[some (.cel 0), some (.dat X), some (.dat (.list [Z0, Z1, Z2, Z3, Z4])), some (.dat X), none, none, none], [u0]⟩ = some (.nx ⟨[some (.cel 0), some (.dat X), some (.dat (.list [Z0, Z1, Z2, Z3, Z4])), some (.dat X), none, none, none], [u0]⟩) := by
    simp! [r1, r2]
  have c3 : (fSet 4 (fBi gTuple (fConsA (fOfL (fLc (fIt (fVar 2)) (aName 5) fYes (fTup (fConsA (fVar 5) (fConsA (fCall F__law_fraction (fCelA 0 fNilA)) fNilA))) [5])) fNilA))) ⟨[some (.cel 0), some (.dat X), some (.dat (.list [Z0, Z1, Z2, Z3, Z4])), some (.dat X), none, none, none], [u0]⟩ = some (.nx ⟨[some (.cel 0), some (.dat X), some (.dat (.list [Z0, Z1, Z2, Z3, Z4])), some (.dat X), some (.dat (.tuple [.tuple [Z0, f0], .tuple [Z1, f1], .tuple [Z2, f2], .tuple [Z3, f3], .tuple [Z4, f4]])), none, none], [u5]⟩) := by
    simp! [gTuple, y0, y1, y2, y3, y4]
  have c4 : (fSet 3 (fCall F_course_through (fConsA (fVar 4) fNilA))) ⟨[some (.cel 0), some (.dat X), some (.dat (.list [Z0, Z1, Z2, Z3, Z4])), some (.dat X), some (.dat (.tuple [.tuple [Z0, f0], .tuple [Z1, f1], .tuple [Z2, f2], .tuple [Z3, f3], .tuple [Z4, f4]])), none, none], [u5]⟩ = some (.nx ⟨[some (.cel 0), some (.dat X), some (.dat (.list [Z0, Z1, Z2, Z3, Z4])), some (.dat (T6 t0 t1 t2 t3 t4 td)), some (.dat (.tuple [.tuple [Z0, f0], .tuple [Z1, f1], .tuple [Z2, f2], .tuple [Z3, f3], .tuple [Z4, f4]])), none, none], [u5]⟩) := by
    simp! [e2]
  have c5 : (fIfS (fOrT (fNotT (fTru (fUn (gIsi "tuple") (fVar 3)))) (fOrT (fTru (fOp gNe (fBi gLen (fConsA (fVar 3) fNilA)) (fLit (.int 6)))) (fOrT (fNotT (fTru (fCall F_is_course (fConsA (fVar 3) fNilA)))) (fOrT (fTru (fOp gNe (fCall F__law_low_K36 (fConsA (fVar 3) fNilA)) (fVar 3))) (fTru (fOp (gCmp fun i j => decide (i < j)) (fOp gIx (fVar 3) (fLit (.int 5))) (fLit (.int 1)))))))) (fRet (fLit (.bool false))) fSkip) ⟨[some (.cel 0), some (.dat X), some (.dat (.list [Z0, Z1, Z2, Z3, Z4])), some (.dat (T6 t0 t1 t2 t3 t4 td)), some (.dat (.tuple [.tuple [Z0, f0], .tuple [Z1, f1], .tuple [Z2, f2], .tuple [Z3, f3], .tuple [Z4, f4]])), none, none], [u5]⟩ = some (.nx ⟨[some (.cel 0), some (.dat X), some (.dat (.list [Z0, Z1, Z2, Z3, Z4])), some (.dat (T6 t0 t1 t2 t3 t4 td)), some (.dat (.tuple [.tuple [Z0, f0], .tuple [Z1, f1], .tuple [Z2, f2], .tuple [Z3, f3], .tuple [Z4, f4]])), none, none], [u5]⟩) := by
    simp! [gIx, ix6', isi, g6, ic, il, in1, h1]
  have c6 : (fRet (fOp gEq (fOfL (fLc (fIt (fVar 4)) (aName 6) (fOrT (fTru (fOp gNe (fCall F__law_at_K36 (fConsA (fVar 3) (fConsA (fOp gIx (fVar 6) (fLit (.int 0))) fNilA))) (fOp gIx (fVar 6) (fLit (.int 1))))) (fTru (fOp gNe (fCall F_level_at (fConsA (fVar 3) (fConsA (fOp gIx (fVar 6) (fLit (.int 0))) fNilA))) (fOp gIx (fVar 6) (fLit (.int 1)))))) (fVar 6) [6])) (fOfL (fLst fNilA)))) ⟨[some (.cel 0), some (.dat X), some (.dat (.list [Z0, Z1, Z2, Z3, Z4])), some (.dat (T6 t0 t1 t2 t3 t4 td)), some (.dat (.tuple [.tuple [Z0, f0], .tuple [Z1, f1], .tuple [Z2, f2], .tuple [Z3, f3], .tuple [Z4, f4]])), none, none], [u5]⟩ = some (.rt (.dat (.bool true)) [u5]) := by
    simp! [gIx, ix2_0, ix2_1, b0, v0, nf0, b1, v1, nf1, b2, v2, nf2, b3, v3, nf3, b4, v4, nf4, ge]
  exact fn_ok (np := 2) (nN := 7) (n0 := 1) ((seq_nx c0).trans ((seq_nx c1).trans ((seq_nx c2).trans ((seq_nx c3).trans ((seq_nx c4).trans ((seq_nx c5).trans (c6))))))) ⟨rfl, rfl⟩ rfl
end PL


set_option Elab.async false
set_option linter.all false
set_option maxRecDepth 100000
set_option maxHeartbeats 4000000
set_option exponentiation.threshold 20000
namespace PL
open PySem PySem.Spec L2 DL
local macro_rules | `(tactic| simp! [$as,*]) => `(tactic| simp only [fThaw, fThawT, fThawL, thawD, thawO, noL, noLAll, fAug, gAug, fRev, fFnA, fCallV, fBot, fZip, zipD, gSum, intsOf, List.foldl_cons, List.foldl_nil, mkF, fRet, fRetL, fRetN, fSkip, fSeq, fNever, fSet, fAsg, fNew, fIfS, fDrop, fPar, fPar3, fSetc, fSetc2, fVar, fLit, fOp, fUn, fTup, fTup.datsOf, fLst, fNilA, fConsA, fStarA, fCelA, fOfL, fTru, fAndT, fOrT, fNotT, fAndV, fOrV, fNotV, fIf, fBi, fCall, fCallL, fCallFr, fPerm, callF, celOf, celsOk, norm, aName, aNil, aCons, aTup, setD, fSl, fIt, fItL, fItT, fFor, forGo, fLc, lcGo, fYes, wipeD, fCix, fList, fSlL, fPart, fNoPart, fChain, List.length_cons, List.length_nil, List.getElem?_cons_zero, List.getElem?_cons_succ, List.getElem?_nil, List.set_cons_zero, List.set_cons_succ, List.map_cons, List.map_nil, List.cons_append, List.nil_append, List.append_nil, List.replicate, List.take_zero, List.take_nil, List.take_succ_cons, ↓bsome, ↓msome, Option.bind_some, Option.map_some, Option.bind_none, Option.map_none, Nat.sub_self, Int.cast_ofNat_Int, Nat.reduceAdd, Nat.reduceMul, Nat.reduceSub, Nat.reduceLeDiff, Nat.reduceLT, Nat.zero_add, Nat.add_zero, and_self, and_true, true_and, if_true, if_false, ↓reduceIte, ite_true, Bool.true_eq_false, Bool.false_eq_true, beq_self_eq_true, Bool.and_self, Bool.not_true, Bool.not_false, decide_true, decide_false, gLen, gTyIs, gTyNot, tyOf, gNeg, gPlus, DL.gSub, gCmp, gInt, gAbs, gTuple, gMax, gMin, gGcd, LIM, gIx, $as,*])
theorem permX {α : Type} (x y : α) : perm [1, 0] [x, y] = [y, x] := rfl
theorem gPlusL {xs ys : List PyData} (h : xs.length + ys.length ≤ 100000) : gPlus (.list xs) (.list ys) = some (.list (xs ++ ys)) := if_pos h
theorem gPlusT {xs ys : List PyData} (h : xs.length + ys.length ≤ 100000) : gPlus (.tuple xs) (.tuple ys) = some (.tuple (xs ++ ys)) := if_pos h
theorem core35 {x0 x1 x2 x3 x4 n mp mq u a b M2 : Int} {G0 G1 G2 G3 G4 G5 : Int} {β : Bool} {Y fr2 F V FL D1 D2 f0 f1 f2 f3 f4 P Q BK G rp1s rp2s rp3s rp4s rp5s PY : PyData} {t t1 t2 t3 t4 t5 t6 t7 t8 t9 t10 t11 : List PyData}
    (y1 : F__law_course [.cel 0] [t] = some (.dat (.tuple [(T6 x0 x1 x2 x3 x4 n), T2 mp mq]), [t1])) (y2 : F__law_course [.cel 0] [t1] = some (.dat (.tuple [Y, fr2]), [t2])) (y3 : F__law_slot [.cel 0] [t2] = some (.dat (T2 a b), [t3])) (y4 : F__law_slot [.cel 0] [t3] = some (.dat F, [t4])) (y5 : F__law_draw [.cel 0, .dat (.int 5)] [t4] = some (.dat (.int u), [t5]))
    (v1 : F_level_at [.dat (T6 x0 x1 x2 x3 x4 n), .dat (T2 a b)] [] = some (.dat V, [])) (lc : F_level_course [.dat (T2 mp mq)] [] = some (.dat FL, [])) (m2 : gMul (.int 2) (.int mp) = some (.int M2)) (ll : F__law_low_K36 [.dat (T6 mp 0 M2 0 mp mq)] [] = some (.dat FL, [])) (at1 : F__law_at_K36 [.dat (T6 x0 x1 x2 x3 x4 n), .dat (T2 a b)] [] = some (.dat V, [])) (r1 : gRepr [(.list [V, V, FL, FL])] = some rp1s) (r1n : gNe rp1s rp1s = some (.bool false))
    (g0 : gMul (.int (1 + u)) (.int x0) = some (.int G0)) (g1 : gMul (.int (1 + u)) (.int x1) = some (.int G1)) (g2 : gMul (.int (1 + u)) (.int x2) = some (.int G2)) (g3 : gMul (.int (1 + u)) (.int x3) = some (.int G3)) (g4 : gMul (.int (1 + u)) (.int x4) = some (.int G4)) (g5 : gMul (.int (1 + u)) (.int n) = some (.int G5)) (co1 : F_course_of [.dat (T5 G0 G1 G2 G3 G4), .dat (.int G5)] [] = some (.dat (T6 x0 x1 x2 x3 x4 n), [])) (co2 : F_course_of [.dat (T5 x0 x1 x2 x3 x4), .dat (.int n)] [] = some (.dat (T6 x0 x1 x2 x3 x4 n), []))
    (cl1 : F_course_less [.dat (T6 x0 x1 x2 x3 x4 n), .dat Y] [] = some (.dat D1, [])) (cl2 : F_course_less [.dat Y, .dat (T6 x0 x1 x2 x3 x4 n)] [] = some (.dat D2, [])) (cl0 : F_course_less [.dat (T6 x0 x1 x2 x3 x4 n), .dat (T6 x0 x1 x2 x3 x4 n)] [] = some (.dat (T6 0 0 0 0 0 1), [])) (le1 : F__law_less [.dat (T6 x0 x1 x2 x3 x4 n), .dat Y] [] = some (.dat D1, [])) (le2 : F__law_less [.dat Y, .dat (T6 x0 x1 x2 x3 x4 n)] [] = some (.dat D2, [])) (r2 : gRepr [(.list [(T6 x0 x1 x2 x3 x4 n), (T6 x0 x1 x2 x3 x4 n), D1, D2, T6 0 0 0 0 0 1])] = some rp2s) (r2n : gNe rp2s rp2s = some (.bool false))
    (y6 : F__law_fraction [.cel 0] [t5] = some (.dat f0, [t6])) (y7 : F__law_fraction [.cel 0] [t6] = some (.dat f1, [t7])) (y8 : F__law_fraction [.cel 0] [t7] = some (.dat f2, [t8])) (y9 : F__law_fraction [.cel 0] [t8] = some (.dat f3, [t9])) (y10 : F__law_fraction [.cel 0] [t9] = some (.dat f4, [t10])) (cp1 : F_course_parts [.dat (T6 x0 x1 x2 x3 x4 n)] [] = some (.dat P, [])) (cp2 : F_course_of_parts [.dat (.tuple [f0, f1, f2, f3, f4])] [] = some (.dat Q, [])) (cq : F_course_parts [.dat Y] [] = some (.dat PY, [])) (cy : F_course_of_parts [.dat PY] [] = some (.dat Y, [])) (lp : F__law_parts [.dat (T6 x0 x1 x2 x3 x4 n)] [] = some (.dat P, [])) (lq : F__law_laid_K35 [.dat (.tuple [f0, f1, f2, f3, f4])] [] = some (.dat Q, [])) (r3 : gRepr [(.list [P, P, Q, Y])] = some rp3s) (r3n : gNe rp3s rp3s = some (.bool false))
    (hβ : gEq (.int b) (.int 0) = some (.bool β)) (hBK : BK = bif β then T2 1 0 else T2 (0 - a) b) (ss1 : F_setting_sum [.dat (T2 a b), .dat F] [] = some (.dat G, [])) (ss2 : F_setting_sum [.dat F, .dat (T2 a b)] [] = some (.dat G, [])) (sb : F_setting_back [.dat (T2 a b)] [] = some (.dat BK, [])) (ss3 : F_setting_sum [.dat (T2 a b), .dat BK] [] = some (.dat (T2 0 1), [])) (sm1 : F__law_summed [.dat (T2 a b), .dat F] [] = some (.dat G, [])) (r4 : gRepr [(.list [G, G, BK, T2 0 1])] = some rp4s) (r4n : gNe rp4s rp4s = some (.bool false))
    (h0 : gMul (.int 3) (.int x0) = some (.int (3 * x0))) (h1 : gMul (.int 3) (.int x1) = some (.int (3 * x1))) (h2 : gMul (.int 3) (.int x2) = some (.int (3 * x2))) (h3 : gMul (.int 3) (.int x3) = some (.int (3 * x3))) (h4 : gMul (.int 3) (.int x4) = some (.int (3 * x4))) (h5 : gMul (.int 3) (.int n) = some (.int (3 * n)))
    (i1 : F_is_course [.dat (T6 x0 x1 x2 x3 x4 n)] [] = some (.dat (.bool true), [])) (i2 : F_is_course [.dat Y] [] = some (.dat (.bool true), []))
    (j0 : F_is_course [.dat (T6 (3 * x0) (3 * x1) (3 * x2) (3 * x3) (3 * x4) (3 * n))] [] = some (.dat (.bool false), [])) (j1 : F_is_course [.dat (.list [.int x0, .int x1, .int x2, .int x3, .int x4, .int n])] [] = some (.dat (.bool false), [])) (j2 : F_is_course [.dat (T5 x0 x1 x2 x3 x4)] [] = some (.dat (.bool false), [])) (j3 : F_is_course [.dat (.tuple [.int x0, .int x1, .int x2, .int x3, .int x4, .int n, .int 1])] [] = some (.dat (.bool false), [])) (j4 : F_is_course [.dat (T6 x0 x1 x2 x3 x4 0)] [] = some (.dat (.bool false), [])) (j5 : F_is_course [.dat (T6 x0 x1 x2 x3 x4 (0 - n))] [] = some (.dat (.bool false), [])) (j6 : F_is_course [.dat (.tuple [.int 0, .int 0, .int 0, .int 0, .bool false, .int 1])] [] = some (.dat (.bool false), [])) (j7 : F_is_course [.dat (.none)] [] = some (.dat (.bool false), []))
    (r5 : gRepr [(.list [.bool true, .bool true, .bool false, .bool false, .bool false, .bool false, .bool false, .bool false, .bool false, .bool false])] = some rp5s) (r5e : gEq rp5s rp5s = some (.bool true)) (thr : F__law_are_through [.cel 0, .dat Y] [t10] = some (.dat (.bool true), [t11])) :
    F__law_right_K35 [.cel 0] [t] = some (.dat (.bool true), [t11]) := by
  have rng2 : rngOk 2 = true := rng_ok (by decide) (by decide)
  have rng8 : rngOk 8 = true := rng_ok (by decide) (by decide)
  have tn2 : (2 : Int).toNat = 2 := rfl
  have tn8 : (8 : Int).toNat = 8 := rfl
  have c0 : (fAsg (aTup 2 (aCons (aName 8) (aCons (aName 9) aNil))) (fCall F__law_course (fCelA 0 fNilA))) ⟨[some (.cel 0), none, none, none, none, none, none, none, none, none, none, none, none, none, none], [t]⟩ = some (.nx ⟨[some (.cel 0), none, none, none, none, none, none, none, some (.dat (T6 x0 x1 x2 x3 x4 n)), some (.dat (T2 mp mq)), none, none, none, none, none], [t1]⟩) := by
    simp! [aTup, y1]
  have c1 : (fSet 1 (fOp gIx (fCall F__law_course (fCelA 0 fNilA)) (fLit (.int 0)))) ⟨[some (.cel 0), none, none, none, none, none, none, none, some (.dat (T6 x0 x1 x2 x3 x4 n)), some (.dat (T2 mp mq)), none, none, none, none, none], [t1]⟩ = some (.nx ⟨[some (.cel 0), some (.dat Y), none, none, none, none, none, none, some (.dat (T6 x0 x1 x2 x3 x4 n)), some (.dat (T2 mp mq)), none, none, none, none, none], [t2]⟩) := by
    simp! [gIx, ix2_0, y2]
  have c2 : (fPar 10 11 (fConsA (fCall F__law_slot (fCelA 0 fNilA)) (fConsA (fCall F__law_slot (fCelA 0 fNilA)) fNilA))) ⟨[some (.cel 0), some (.dat Y), none, none, none, none, none, none, some (.dat (T6 x0 x1 x2 x3 x4 n)), some (.dat (T2 mp mq)), none, none, none, none, none], [t2]⟩ = some (.nx ⟨[some (.cel 0), some (.dat Y), none, none, none, none, none, none, some (.dat (T6 x0 x1 x2 x3 x4 n)), some (.dat (T2 mp mq)), some (.dat (T2 a b)), some (.dat F), none, none, none], [t4]⟩) := by
    simp! [y3, y4]
  have c3 : (fSet 2 (fOp gPlus (fLit (.int 1)) (fCall F__law_draw (fCelA 0 (fConsA (fLit (.int 5)) fNilA))))) ⟨[some (.cel 0), some (.dat Y), none, none, none, none, none, none, some (.dat (T6 x0 x1 x2 x3 x4 n)), some (.dat (T2 mp mq)), some (.dat (T2 a b)), some (.dat F), none, none, none], [t4]⟩ = some (.nx ⟨[some (.cel 0), some (.dat Y), some (.dat (.int (1 + u))), none, none, none, none, none, some (.dat (T6 x0 x1 x2 x3 x4 n)), some (.dat (T2 mp mq)), some (.dat (T2 a b)), some (.dat F), none, none, none], [t5]⟩) := by
    simp! [y5]
  have c4 : (fSet 3 (fOfL (fLst (fConsA (fCall F_level_at (fConsA (fVar 8) (fConsA (fVar 10) fNilA))) (fConsA (fCall F_level_at (fPerm [1, 0] (fConsA (fVar 10) (fConsA (fVar 8) fNilA)))) (fConsA (fCall F_level_course (fConsA (fVar 9) fNilA)) (fConsA (fCall F_level_course (fConsA (fVar 9) fNilA)) fNilA))))))) ⟨[some (.cel 0), some (.dat Y), some (.dat (.int (1 + u))), none, none, none, none, none, some (.dat (T6 x0 x1 x2 x3 x4 n)), some (.dat (T2 mp mq)), some (.dat (T2 a b)), some (.dat F), none, none, none], [t5]⟩ = some (.nx ⟨[some (.cel 0), some (.dat Y), some (.dat (.int (1 + u))), some (.dat (.list [V, V, FL, FL])), none, none, none, none, some (.dat (T6 x0 x1 x2 x3 x4 n)), some (.dat (T2 mp mq)), some (.dat (T2 a b)), some (.dat F), none, none, none], [t5]⟩) := by
    simp! [permX, v1, lc]
  have c5 : (fSet 4 (fCall F__law_low_K36 (fConsA (fTup (fConsA (fOp gIx (fVar 9) (fLit (.int 0))) (fConsA (fLit (.int 0)) (fConsA (fOp gMul (fLit (.int 2)) (fOp gIx (fVar 9) (fLit (.int 0)))) (fConsA (fLit (.int 0)) (fConsA (fOp gIx (fVar 9) (fLit (.int 0))) (fConsA (fOp gIx (fVar 9) (fLit (.int 1))) fNilA))))))) fNilA))) ⟨[some (.cel 0), some (.dat Y), some (.dat (.int (1 + u))), some (.dat (.list [V, V, FL, FL])), none, none, none, none, some (.dat (T6 x0 x1 x2 x3 x4 n)), some (.dat (T2 mp mq)), some (.dat (T2 a b)), some (.dat F), none, none, none], [t5]⟩ = some (.nx ⟨[some (.cel 0), some (.dat Y), some (.dat (.int (1 + u))), some (.dat (.list [V, V, FL, FL])), some (.dat FL), none, none, none, some (.dat (T6 x0 x1 x2 x3 x4 n)), some (.dat (T2 mp mq)), some (.dat (T2 a b)), some (.dat F), none, none, none], [t5]⟩) := by
    simp! [gIx, ix2_0, ix2_1, m2, ll]
  have c6 : (fIfS (fTru (fOp gNe (fBi gRepr (fConsA (fVar 3) fNilA)) (fBi gRepr (fConsA (fOp gPlus (fRep (fLst (fConsA (fCall F__law_at_K36 (fConsA (fVar 8) (fConsA (fVar 10) fNilA))) fNilA)) (fLit (.int 2))) (fRep (fLst (fConsA (fVar 4) fNilA)) (fLit (.int 2)))) fNilA)))) (fRet (fLit (.bool false))) fSkip) ⟨[some (.cel 0), some (.dat Y), some (.dat (.int (1 + u))), some (.dat (.list [V, V, FL, FL])), some (.dat FL), none, none, none, some (.dat (T6 x0 x1 x2 x3 x4 n)), some (.dat (T2 mp mq)), some (.dat (T2 a b)), some (.dat F), none, none, none], [t5]⟩ = some (.nx ⟨[some (.cel 0), some (.dat Y), some (.dat (.int (1 + u))), some (.dat (.list [V, V, FL, FL])), some (.dat FL), none, none, none, some (.dat (T6 x0 x1 x2 x3 x4 n)), some (.dat (T2 mp mq)), some (.dat (T2 a b)), some (.dat F), none, none, none], [t5]⟩) := by
    simp! [at1, r1, r1n, fRep, rng2, tn2, List.flatten_cons, List.flatten_nil, gPlusL]
  have c7 : (fSet 3 (fOfL (fLst (fConsA (fCall F_course_of (fConsA (fBi gTuple (fConsA (fOfL (fLc (fIt (fSl (fVar 8) fNoPart (fPart (fLit (.int 5))))) (aName 13) fYes (fOp gMul (fVar 2) (fVar 13)) [13])) fNilA)) (fConsA (fOp gMul (fVar 2) (fOp gIx (fVar 8) (fLit (.int 5)))) fNilA))) (fConsA (fCall F_course_of (fPerm [1, 0] (fConsA (fOp gIx (fVar 8) (fLit (.int 5))) (fConsA (fSl (fVar 8) fNoPart (fPart (fLit (.int 5)))) fNilA)))) fNilA))))) ⟨[some (.cel 0), some (.dat Y), some (.dat (.int (1 + u))), some (.dat (.list [V, V, FL, FL])), some (.dat FL), none, none, none, some (.dat (T6 x0 x1 x2 x3 x4 n)), some (.dat (T2 mp mq)), some (.dat (T2 a b)), some (.dat F), none, none, none], [t5]⟩ = some (.nx ⟨[some (.cel 0), some (.dat Y), some (.dat (.int (1 + u))), some (.dat (.list [(T6 x0 x1 x2 x3 x4 n), (T6 x0 x1 x2 x3 x4 n)])), some (.dat FL), none, none, none, some (.dat (T6 x0 x1 x2 x3 x4 n)), some (.dat (T2 mp mq)), some (.dat (T2 a b)), some (.dat F), none, none, none], [t5]⟩) := by
    simp! [permX, gTuple, gIx, ix6', cut6, g0, g1, g2, g3, g4, g5, co1, co2]
  have c8 : (fSet 3 (fOp gPlus (fVar 3) (fOfL (fLst (fConsA (fCall F_course_less (fConsA (fVar 8) (fConsA (fVar 1) fNilA))) (fConsA (fCall F_course_less (fPerm [1, 0] (fConsA (fVar 8) (fConsA (fVar 1) fNilA)))) (fConsA (fCall F_course_less (fConsA (fVar 8) (fConsA (fVar 8) fNilA))) fNilA))))))) ⟨[some (.cel 0), some (.dat Y), some (.dat (.int (1 + u))), some (.dat (.list [(T6 x0 x1 x2 x3 x4 n), (T6 x0 x1 x2 x3 x4 n)])), some (.dat FL), none, none, none, some (.dat (T6 x0 x1 x2 x3 x4 n)), some (.dat (T2 mp mq)), some (.dat (T2 a b)), some (.dat F), none, none, none], [t5]⟩ = some (.nx ⟨[some (.cel 0), some (.dat Y), some (.dat (.int (1 + u))), some (.dat (.list [(T6 x0 x1 x2 x3 x4 n), (T6 x0 x1 x2 x3 x4 n), D1, D2, T6 0 0 0 0 0 1])), some (.dat FL), none, none, none, some (.dat (T6 x0 x1 x2 x3 x4 n)), some (.dat (T2 mp mq)), some (.dat (T2 a b)), some (.dat F), none, none, none], [t5]⟩) := by
    simp! [permX, cl1, cl2, cl0, gPlusL]
  have c9 : (fIfS (fTru (fOp gNe (fBi gRepr (fConsA (fVar 3) fNilA)) (fBi gRepr (fConsA (fOfL (fLst (fConsA (fVar 8) (fConsA (fVar 8) (fConsA (fCall F__law_less (fConsA (fVar 8) (fConsA (fVar 1) fNilA))) (fConsA (fCall F__law_less (fConsA (fVar 1) (fConsA (fVar 8) fNilA))) (fConsA (fTup (fConsA (fLit (.int 0)) (fConsA (fLit (.int 0)) (fConsA (fLit (.int 0)) (fConsA (fLit (.int 0)) (fConsA (fLit (.int 0)) (fConsA (fLit (.int 1)) fNilA))))))) fNilA))))))) fNilA)))) (fRet (fLit (.bool false))) fSkip) ⟨[some (.cel 0), some (.dat Y), some (.dat (.int (1 + u))), some (.dat (.list [(T6 x0 x1 x2 x3 x4 n), (T6 x0 x1 x2 x3 x4 n), D1, D2, T6 0 0 0 0 0 1])), some (.dat FL), none, none, none, some (.dat (T6 x0 x1 x2 x3 x4 n)), some (.dat (T2 mp mq)), some (.dat (T2 a b)), some (.dat F), none, none, none], [t5]⟩ = some (.nx ⟨[some (.cel 0), some (.dat Y), some (.dat (.int (1 + u))), some (.dat (.list [(T6 x0 x1 x2 x3 x4 n), (T6 x0 x1 x2 x3 x4 n), D1, D2, T6 0 0 0 0 0 1])), some (.dat FL), none, none, none, some (.dat (T6 x0 x1 x2 x3 x4 n)), some (.dat (T2 mp mq)), some (.dat (T2 a b)), some (.dat F), none, none, none], [t5]⟩) := by
    simp! [le1, le2, r2, r2n]
  have c10 : (fSet 5 (fBi gTuple (fConsA (fOfL (fLc (fRng1 (fConsA (fLit (.int 5)) fNilA)) (aName 12) fYes (fCall F__law_fraction (fCelA 0 fNilA)) [12])) fNilA))) ⟨[some (.cel 0), some (.dat Y), some (.dat (.int (1 + u))), some (.dat (.list [(T6 x0 x1 x2 x3 x4 n), (T6 x0 x1 x2 x3 x4 n), D1, D2, T6 0 0 0 0 0 1])), some (.dat FL), none, none, none, some (.dat (T6 x0 x1 x2 x3 x4 n)), some (.dat (T2 mp mq)), some (.dat (T2 a b)), some (.dat F), none, none, none], [t5]⟩ = some (.nx ⟨[some (.cel 0), some (.dat Y), some (.dat (.int (1 + u))), some (.dat (.list [(T6 x0 x1 x2 x3 x4 n), (T6 x0 x1 x2 x3 x4 n), D1, D2, T6 0 0 0 0 0 1])), some (.dat FL), some (.dat (.tuple [f0, f1, f2, f3, f4])), none, none, some (.dat (T6 x0 x1 x2 x3 x4 n)), some (.dat (T2 mp mq)), some (.dat (T2 a b)), some (.dat F), none, none, none], [t10]⟩) := by
    simp! [gTuple, fRng1, rng_5, tn_5, rng5D, y6, y7, y8, y9, y10]
  have c11 : (fSet 3 (fOfL (fLst (fConsA (fCall F_course_parts (fConsA (fVar 8) fNilA)) (fConsA (fCall F_course_parts (fConsA (fVar 8) fNilA)) (fConsA (fCall F_course_of_parts (fConsA (fVar 5) fNilA)) (fConsA (fCall F_course_of_parts (fConsA (fCall F_course_parts (fConsA (fVar 1) fNilA)) fNilA)) fNilA))))))) ⟨[some (.cel 0), some (.dat Y), some (.dat (.int (1 + u))), some (.dat (.list [(T6 x0 x1 x2 x3 x4 n), (T6 x0 x1 x2 x3 x4 n), D1, D2, T6 0 0 0 0 0 1])), some (.dat FL), some (.dat (.tuple [f0, f1, f2, f3, f4])), none, none, some (.dat (T6 x0 x1 x2 x3 x4 n)), some (.dat (T2 mp mq)), some (.dat (T2 a b)), some (.dat F), none, none, none], [t10]⟩ = some (.nx ⟨[some (.cel 0), some (.dat Y), some (.dat (.int (1 + u))), some (.dat (.list [P, P, Q, Y])), some (.dat FL), some (.dat (.tuple [f0, f1, f2, f3, f4])), none, none, some (.dat (T6 x0 x1 x2 x3 x4 n)), some (.dat (T2 mp mq)), some (.dat (T2 a b)), some (.dat F), none, none, none], [t10]⟩) := by
    simp! [cp1, cp2, cq, cy]
  have c12 : (fIfS (fTru (fOp gNe (fBi gRepr (fConsA (fVar 3) fNilA)) (fBi gRepr (fConsA (fOfL (fLst (fConsA (fCall F__law_parts (fConsA (fVar 8) fNilA)) (fConsA (fCall F__law_parts (fConsA (fVar 8) fNilA)) (fConsA (fCall F__law_laid_K35 (fConsA (fVar 5) fNilA)) (fConsA (fVar 1) fNilA)))))) fNilA)))) (fRet (fLit (.bool false))) fSkip) ⟨[some (.cel 0), some (.dat Y), some (.dat (.int (1 + u))), some (.dat (.list [P, P, Q, Y])), some (.dat FL), some (.dat (.tuple [f0, f1, f2, f3, f4])), none, none, some (.dat (T6 x0 x1 x2 x3 x4 n)), some (.dat (T2 mp mq)), some (.dat (T2 a b)), some (.dat F), none, none, none], [t10]⟩ = some (.nx ⟨[some (.cel 0), some (.dat Y), some (.dat (.int (1 + u))), some (.dat (.list [P, P, Q, Y])), some (.dat FL), some (.dat (.tuple [f0, f1, f2, f3, f4])), none, none, some (.dat (T6 x0 x1 x2 x3 x4 n)), some (.dat (T2 mp mq)), some (.dat (T2 a b)), some (.dat F), none, none, none], [t10]⟩) := by
    simp! [lp, lq, r3, r3n]
  have c13 : (fSet 6 (fIf (fTru (fOp gEq (fOp gIx (fVar 10) (fLit (.int 1))) (fLit (.int 0)))) (fTup (fConsA (fLit (.int 1)) (fConsA (fLit (.int 0)) fNilA))) (fTup (fConsA (fOp gSub (fLit (.int 0)) (fOp gIx (fVar 10) (fLit (.int 0)))) (fConsA (fOp gIx (fVar 10) (fLit (.int 1))) fNilA))))) ⟨[some (.cel 0), some (.dat Y), some (.dat (.int (1 + u))), some (.dat (.list [P, P, Q, Y])), some (.dat FL), some (.dat (.tuple [f0, f1, f2, f3, f4])), none, none, some (.dat (T6 x0 x1 x2 x3 x4 n)), some (.dat (T2 mp mq)), some (.dat (T2 a b)), some (.dat F), none, none, none], [t10]⟩ = some (.nx ⟨[some (.cel 0), some (.dat Y), some (.dat (.int (1 + u))), some (.dat (.list [P, P, Q, Y])), some (.dat FL), some (.dat (.tuple [f0, f1, f2, f3, f4])), some (.dat BK), none, some (.dat (T6 x0 x1 x2 x3 x4 n)), some (.dat (T2 mp mq)), some (.dat (T2 a b)), some (.dat F), none, none, none], [t10]⟩) := by
    cases β <;> simp only [cond_true, cond_false] at hBK <;> subst hBK <;> simp! [gIx, ix2_0, ix2_1, hβ]
  have c14 : (fSet 3 (fOfL (fLst (fConsA (fCall F_setting_sum (fConsA (fVar 10) (fConsA (fVar 11) fNilA))) (fConsA (fCall F_setting_sum (fPerm [1, 0] (fConsA (fVar 10) (fConsA (fVar 11) fNilA)))) (fConsA (fCall F_setting_back (fConsA (fVar 10) fNilA)) (fConsA (fCall F_setting_sum (fConsA (fVar 10) (fConsA (fCall F_setting_back (fConsA (fVar 10) fNilA)) fNilA))) fNilA))))))) ⟨[some (.cel 0), some (.dat Y), some (.dat (.int (1 + u))), some (.dat (.list [P, P, Q, Y])), some (.dat FL), some (.dat (.tuple [f0, f1, f2, f3, f4])), some (.dat BK), none, some (.dat (T6 x0 x1 x2 x3 x4 n)), some (.dat (T2 mp mq)), some (.dat (T2 a b)), some (.dat F), none, none, none], [t10]⟩ = some (.nx ⟨[some (.cel 0), some (.dat Y), some (.dat (.int (1 + u))), some (.dat (.list [G, G, BK, T2 0 1])), some (.dat FL), some (.dat (.tuple [f0, f1, f2, f3, f4])), some (.dat BK), none, some (.dat (T6 x0 x1 x2 x3 x4 n)), some (.dat (T2 mp mq)), some (.dat (T2 a b)), some (.dat F), none, none, none], [t10]⟩) := by
    simp! [permX, ss1, ss2, sb, ss3]
  have c15 : (fIfS (fTru (fOp gNe (fBi gRepr (fConsA (fVar 3) fNilA)) (fBi gRepr (fConsA (fOfL (fLst (fConsA (fCall F__law_summed (fConsA (fVar 10) (fConsA (fVar 11) fNilA))) (fConsA (fCall F__law_summed (fConsA (fVar 10) (fConsA (fVar 11) fNilA))) (fConsA (fVar 6) (fConsA (fTup (fConsA (fLit (.int 0)) (fConsA (fLit (.int 1)) fNilA))) fNilA)))))) fNilA)))) (fRet (fLit (.bool false))) fSkip) ⟨[some (.cel 0), some (.dat Y), some (.dat (.int (1 + u))), some (.dat (.list [G, G, BK, T2 0 1])), some (.dat FL), some (.dat (.tuple [f0, f1, f2, f3, f4])), some (.dat BK), none, some (.dat (T6 x0 x1 x2 x3 x4 n)), some (.dat (T2 mp mq)), some (.dat (T2 a b)), some (.dat F), none, none, none], [t10]⟩ = some (.nx ⟨[some (.cel 0), some (.dat Y), some (.dat (.int (1 + u))), some (.dat (.list [G, G, BK, T2 0 1])), some (.dat FL), some (.dat (.tuple [f0, f1, f2, f3, f4])), some (.dat BK), none, some (.dat (T6 x0 x1 x2 x3 x4 n)), some (.dat (T2 mp mq)), some (.dat (T2 a b)), some (.dat F), none, none, none], [t10]⟩) := by
    simp! [sm1, r4, r4n]
  have c16 : (fSet 7 (fOfL (fLst (fConsA (fBi gTuple (fConsA (fOfL (fLc (fIt (fVar 8)) (aName 13) fYes (fOp gMul (fLit (.int 3)) (fVar 13)) [13])) fNilA)) (fConsA (fOfL (fList (fVar 8))) (fConsA (fSl (fVar 8) fNoPart (fPart (fLit (.int 5)))) (fConsA (fOp gPlus (fVar 8) (fTup (fConsA (fLit (.int 1)) fNilA))) (fConsA (fOp gPlus (fSl (fVar 8) fNoPart (fPart (fLit (.int 5)))) (fTup (fConsA (fLit (.int 0)) fNilA))) (fConsA (fOp gPlus (fSl (fVar 8) fNoPart (fPart (fLit (.int 5)))) (fTup (fConsA (fOp gSub (fLit (.int 0)) (fOp gIx (fVar 8) (fLit (.int 5)))) fNilA))) (fConsA (fTup (fConsA (fLit (.int 0)) (fConsA (fLit (.int 0)) (fConsA (fLit (.int 0)) (fConsA (fLit (.int 0)) (fConsA (fLit (.bool false)) (fConsA (fLit (.int 1)) fNilA))))))) fNilA)))))))))) ⟨[some (.cel 0), some (.dat Y), some (.dat (.int (1 + u))), some (.dat (.list [G, G, BK, T2 0 1])), some (.dat FL), some (.dat (.tuple [f0, f1, f2, f3, f4])), some (.dat BK), none, some (.dat (T6 x0 x1 x2 x3 x4 n)), some (.dat (T2 mp mq)), some (.dat (T2 a b)), some (.dat F), none, none, none], [t10]⟩ = some (.nx ⟨[some (.cel 0), some (.dat Y), some (.dat (.int (1 + u))), some (.dat (.list [G, G, BK, T2 0 1])), some (.dat FL), some (.dat (.tuple [f0, f1, f2, f3, f4])), some (.dat BK), some (.dat (.list [T6 (3 * x0) (3 * x1) (3 * x2) (3 * x3) (3 * x4) (3 * n), .list [.int x0, .int x1, .int x2, .int x3, .int x4, .int n], T5 x0 x1 x2 x3 x4, .tuple [.int x0, .int x1, .int x2, .int x3, .int x4, .int n, .int 1], T6 x0 x1 x2 x3 x4 0, T6 x0 x1 x2 x3 x4 (0 - n), .tuple [.int 0, .int 0, .int 0, .int 0, .bool false, .int 1]])), some (.dat (T6 x0 x1 x2 x3 x4 n)), some (.dat (T2 mp mq)), some (.dat (T2 a b)), some (.dat F), none, none, none], [t10]⟩) := by
    simp! [gTuple, gIx, ix6', cut6, h0, h1, h2, h3, h4, h5, fList, gPlusT]
  have c17 : (fSet 3 (fOp gPlus (fOp gPlus (fOfL (fLst (fConsA (fCall F_is_course (fConsA (fVar 8) fNilA)) (fConsA (fCall F_is_course (fConsA (fVar 1) fNilA)) fNilA)))) (fOfL (fLc (fIt (fVar 7)) (aName 14) fYes (fCall F_is_course (fConsA (fVar 14) fNilA)) [14]))) (fOfL (fLst (fConsA (fCall F_is_course (fConsA (fLit .none) fNilA)) fNilA))))) ⟨[some (.cel 0), some (.dat Y), some (.dat (.int (1 + u))), some (.dat (.list [G, G, BK, T2 0 1])), some (.dat FL), some (.dat (.tuple [f0, f1, f2, f3, f4])), some (.dat BK), some (.dat (.list [T6 (3 * x0) (3 * x1) (3 * x2) (3 * x3) (3 * x4) (3 * n), .list [.int x0, .int x1, .int x2, .int x3, .int x4, .int n], T5 x0 x1 x2 x3 x4, .tuple [.int x0, .int x1, .int x2, .int x3, .int x4, .int n, .int 1], T6 x0 x1 x2 x3 x4 0, T6 x0 x1 x2 x3 x4 (0 - n), .tuple [.int 0, .int 0, .int 0, .int 0, .bool false, .int 1]])), some (.dat (T6 x0 x1 x2 x3 x4 n)), some (.dat (T2 mp mq)), some (.dat (T2 a b)), some (.dat F), none, none, none], [t10]⟩ = some (.nx ⟨[some (.cel 0), some (.dat Y), some (.dat (.int (1 + u))), some (.dat (.list [.bool true, .bool true, .bool false, .bool false, .bool false, .bool false, .bool false, .bool false, .bool false, .bool false])), some (.dat FL), some (.dat (.tuple [f0, f1, f2, f3, f4])), some (.dat BK), some (.dat (.list [T6 (3 * x0) (3 * x1) (3 * x2) (3 * x3) (3 * x4) (3 * n), .list [.int x0, .int x1, .int x2, .int x3, .int x4, .int n], T5 x0 x1 x2 x3 x4, .tuple [.int x0, .int x1, .int x2, .int x3, .int x4, .int n, .int 1], T6 x0 x1 x2 x3 x4 0, T6 x0 x1 x2 x3 x4 (0 - n), .tuple [.int 0, .int 0, .int 0, .int 0, .bool false, .int 1]])), some (.dat (T6 x0 x1 x2 x3 x4 n)), some (.dat (T2 mp mq)), some (.dat (T2 a b)), some (.dat F), none, none, none], [t10]⟩) := by
    simp! [i1, i2, j0, j1, j2, j3, j4, j5, j6, j7, gPlusL]
  have c18 : (fRet (fAndV (fOp gEq (fBi gRepr (fConsA (fVar 3) fNilA)) (fBi gRepr (fConsA (fOp gPlus (fOfL (fLst (fConsA (fLit (.bool true)) (fConsA (fLit (.bool true)) fNilA)))) (fRep (fLst (fConsA (fLit (.bool false)) fNilA)) (fLit (.int 8)))) fNilA))) (fCall F__law_are_through (fCelA 0 (fConsA (fVar 1) fNilA))))) ⟨[some (.cel 0), some (.dat Y), some (.dat (.int (1 + u))), some (.dat (.list [.bool true, .bool true, .bool false, .bool false, .bool false, .bool false, .bool false, .bool false, .bool false, .bool false])), some (.dat FL), some (.dat (.tuple [f0, f1, f2, f3, f4])), some (.dat BK), some (.dat (.list [T6 (3 * x0) (3 * x1) (3 * x2) (3 * x3) (3 * x4) (3 * n), .list [.int x0, .int x1, .int x2, .int x3, .int x4, .int n], T5 x0 x1 x2 x3 x4, .tuple [.int x0, .int x1, .int x2, .int x3, .int x4, .int n, .int 1], T6 x0 x1 x2 x3 x4 0, T6 x0 x1 x2 x3 x4 (0 - n), .tuple [.int 0, .int 0, .int 0, .int 0, .bool false, .int 1]])), some (.dat (T6 x0 x1 x2 x3 x4 n)), some (.dat (T2 mp mq)), some (.dat (T2 a b)), some (.dat F), none, none, none], [t10]⟩ = some (.rt (.dat (.bool true)) [t11]) := by
    simp! [fRep, rng8, tn8, List.flatten_cons, List.flatten_nil, gPlusL, r5, r5e, thr]
  exact fn_ok (np := 1) (nN := 15) (n0 := 1) ((seq_nx c0).trans ((seq_nx c1).trans ((seq_nx c2).trans ((seq_nx c3).trans ((seq_nx c4).trans ((seq_nx c5).trans ((seq_nx c6).trans ((seq_nx c7).trans ((seq_nx c8).trans ((seq_nx c9).trans ((seq_nx c10).trans ((seq_nx c11).trans ((seq_nx c12).trans ((seq_nx c13).trans ((seq_nx c14).trans ((seq_nx c15).trans ((seq_nx c16).trans ((seq_nx c17).trans (c18))))))))))))))))))) ⟨rfl, rfl⟩ rfl
end PL


set_option Elab.async false
set_option linter.all false
set_option maxRecDepth 100000
set_option maxHeartbeats 4000000
set_option exponentiation.threshold 20000
namespace PL
open PySem PySem.Spec L2 DL
local macro_rules | `(tactic| simp! [$as,*]) => `(tactic| simp only [fThaw, fThawT, fThawL, thawD, thawO, noL, noLAll, fAug, gAug, fRev, fFnA, fCallV, fBot, fZip, zipD, gSum, intsOf, List.foldl_cons, List.foldl_nil, mkF, fRet, fRetL, fRetN, fSkip, fSeq, fNever, fSet, fAsg, fNew, fIfS, fDrop, fPar, fPar3, fSetc, fSetc2, fVar, fLit, fOp, fUn, fTup, fTup.datsOf, fLst, fNilA, fConsA, fStarA, fCelA, fOfL, fTru, fAndT, fOrT, fNotT, fAndV, fOrV, fNotV, fIf, fBi, fCall, fCallL, fCallFr, fPerm, callF, celOf, celsOk, norm, aName, aNil, aCons, aTup, setD, fSl, fIt, fItL, fItT, fFor, forGo, fLc, lcGo, fYes, wipeD, fCix, fList, fSlL, fPart, fNoPart, fChain, List.length_cons, List.length_nil, List.getElem?_cons_zero, List.getElem?_cons_succ, List.getElem?_nil, List.set_cons_zero, List.set_cons_succ, List.map_cons, List.map_nil, List.cons_append, List.nil_append, List.append_nil, List.replicate, List.take_zero, List.take_nil, List.take_succ_cons, ↓bsome, ↓msome, Option.bind_some, Option.map_some, Option.bind_none, Option.map_none, Nat.sub_self, Int.cast_ofNat_Int, Nat.reduceAdd, Nat.reduceMul, Nat.reduceSub, Nat.reduceLeDiff, Nat.reduceLT, Nat.zero_add, Nat.add_zero, and_self, and_true, true_and, if_true, if_false, ↓reduceIte, ite_true, Bool.true_eq_false, Bool.false_eq_true, beq_self_eq_true, Bool.and_self, Bool.not_true, Bool.not_false, decide_true, decide_false, gLen, gTyIs, gTyNot, tyOf, gNeg, gPlus, DL.gSub, gCmp, gInt, gAbs, gTuple, gMax, gMin, gGcd, LIM, gIx, $as,*])
theorem nice6 {m : Nat} {a b c d e f : Int} (ha : Sz m a) (hb : Sz m b) (hc : Sz m c) (hd : Sz m d) (he : Sz m e) (hf : Sz m f) : Nice m (T6 a b c d e f) :=
  nice_tup (nice_cons (nice_int ha) (nice_cons (nice_int hb) (nice_cons (nice_int hc) (nice_cons (nice_int hd) (nice_cons (nice_int he) (nice_cons (nice_int hf) nice_nil))))))
theorem co_nice {m : Nat} {x0 x1 x2 x3 x4 n : Int} (C : Co m x0 x1 x2 x3 x4 n) : Nice m (T6 x0 x1 x2 x3 x4 n) := nice6 C.s0 C.s1 C.s2 C.s3 C.s4 C.sn
theorem neT (v w : List Int) : gNe (.tuple (nts v)) (.tuple (nts w)) = some (.bool (!(v == w))) := by
  unfold gNe
  rw [if_pos ⟨shaped_tup v, shaped_tup w⟩]
  show some (PyData.bool (!PyData.eqvAll (nts v) (nts w))) = _
  rw [eqv_ints]
theorem neT_self (v : List Int) : gNe (.tuple (nts v)) (.tuple (nts v)) = some (.bool false) := by
  rw [neT, beq_self_eq_true]; rfl
theorem rt_is {m : Nat} {A B p q : Int} (hB : 0 < B) (F : Fr m p q) (h : A * q = p * B) : Rt A B = T2 p q := by
  have e1 : red [A, B] = red [p, q] := red_par F.q0 hB (by
    simp only [List.map_cons, List.map_nil, List.cons.injEq, and_true]
    exact ⟨by rw [Int.mul_comm q, h, Int.mul_comm], by rw [Int.mul_comm]⟩)
  rw [← rg_red hB, red_of_one F.one] at e1
  simp only [List.cons.injEq, and_true] at e1
  show T2 _ _ = _
  rw [e1.1, e1.2]
theorem lev_fin {X T n d P Q g L : Int} (L0 : L ≠ 0) (h1 : P * g = X) (h2 : Q * g = n * L * L) (e : T * Q = P * L * L * d) : X * d = T * n := by
  have e2 : T * n * (L * L) = X * d * (L * L) := by
    have a1 : T * n * (L * L) = T * (n * L * L) := by grind
    rw [a1, ← h2, ← h1]
    have a2 : T * (Q * g) = T * Q * g := by grind
    rw [a2, e]; grind
  exact (Int.eq_of_mul_eq_mul_right (Int.mul_ne_zero L0 L0) e2).symm
theorem w_arethrough {k : Nat} {t : List PyData} {x0 x1 x2 x3 x4 n : Int} (h : Src (k + 35) t) (C : Co 24 x0 x1 x2 x3 x4 n) : ∃ t', F__law_are_through [.cel 0, .dat (T6 x0 x1 x2 x3 x4 n)] [t] = some (.dat (.bool true), [t']) ∧ Src k t' := by
  obtain ⟨S, u0, y, h0, hl, nd, hS⟩ := w_slots (k := k + 15) h
  obtain ⟨s0, s1, s2, s3, s4, rfl⟩ : ∃ s0 s1 s2 s3 s4, S = [s0, s1, s2, s3, s4] := by
    match S, hl with
    | [a, b, c, d, e], _ => exact ⟨a, b, c, d, e, rfl⟩
  have S0 := hS s0 (by simp)
  have S1 := hS s1 (by simp)
  have S2 := hS s2 (by simp)
  have S3 := hS s3 (by simp)
  have S4 := hS s4 (by simp)
  obtain ⟨p0, q0, u1, y0, h1, F0⟩ := w_fraction (k := k + 12) h0
  obtain ⟨p1, q1, u2, y1, h2, F1⟩ := w_fraction (k := k + 9) h1
  obtain ⟨p2, q2, u3, y2, h3, F2⟩ := w_fraction (k := k + 6) h2
  obtain ⟨p3, q3, u4, y3, h4, F3⟩ := w_fraction (k := k + 3) h3
  obtain ⟨p4, q4, u5, y4, h5, F4⟩ := w_fraction (k := k + 0) h4
  have N0 : 0 < n * Ls s0.1 s0.2 * Ls s0.1 s0.2 := Int.mul_pos (Int.mul_pos C.n0 (ls_pos S0)) (ls_pos S0)
  obtain ⟨P0, Q0, g0, e0, K0, _, z0, w0⟩ := ratN (m := 60) N0 ((fo_sz C S0.sa S0.sb).by _ (by decide)) (((C.sn.mul (ls_sz S0.sa S0.sb)).mul (ls_sz S0.sa S0.sb)).by _ (by decide))
  have a0 := w_at C S0 (by decide)
  rw [e0] at a0
  have N1 : 0 < n * Ls s1.1 s1.2 * Ls s1.1 s1.2 := Int.mul_pos (Int.mul_pos C.n0 (ls_pos S1)) (ls_pos S1)
  obtain ⟨P1, Q1, g1, e1, K1, _, z1, w1⟩ := ratN (m := 60) N1 ((fo_sz C S1.sa S1.sb).by _ (by decide)) (((C.sn.mul (ls_sz S1.sa S1.sb)).mul (ls_sz S1.sa S1.sb)).by _ (by decide))
  have a1 := w_at C S1 (by decide)
  rw [e1] at a1
  have N2 : 0 < n * Ls s2.1 s2.2 * Ls s2.1 s2.2 := Int.mul_pos (Int.mul_pos C.n0 (ls_pos S2)) (ls_pos S2)
  obtain ⟨P2, Q2, g2, e2, K2, _, z2, w2⟩ := ratN (m := 60) N2 ((fo_sz C S2.sa S2.sb).by _ (by decide)) (((C.sn.mul (ls_sz S2.sa S2.sb)).mul (ls_sz S2.sa S2.sb)).by _ (by decide))
  have a2 := w_at C S2 (by decide)
  rw [e2] at a2
  have N3 : 0 < n * Ls s3.1 s3.2 * Ls s3.1 s3.2 := Int.mul_pos (Int.mul_pos C.n0 (ls_pos S3)) (ls_pos S3)
  obtain ⟨P3, Q3, g3, e3, K3, _, z3, w3⟩ := ratN (m := 60) N3 ((fo_sz C S3.sa S3.sb).by _ (by decide)) (((C.sn.mul (ls_sz S3.sa S3.sb)).mul (ls_sz S3.sa S3.sb)).by _ (by decide))
  have a3 := w_at C S3 (by decide)
  rw [e3] at a3
  have N4 : 0 < n * Ls s4.1 s4.2 * Ls s4.1 s4.2 := Int.mul_pos (Int.mul_pos C.n0 (ls_pos S4)) (ls_pos S4)
  obtain ⟨P4, Q4, g4, e4, K4, _, z4, w4⟩ := ratN (m := 60) N4 ((fo_sz C S4.sa S4.sb).by _ (by decide)) (((C.sn.mul (ls_sz S4.sa S4.sb)).mul (ls_sz S4.sa S4.sb)).by _ (by decide))
  have a4 := w_at C S4 (by decide)
  rw [e4] at a4
  obtain ⟨t0, t1, t2, t3, t4, d, e1, D, l0, l1, l2, l3, l4⟩ := w_through (by decide) (by decide) nd S0 S1 S2 S3 S4 K0 K1 K2 K3 K4
  have eX := co_same C D nd S0 S1 S2 S3 S4 (lev_fin (Int.ne_of_gt (ls_pos S0)) z0 w0 l0) (lev_fin (Int.ne_of_gt (ls_pos S1)) z1 w1 l1) (lev_fin (Int.ne_of_gt (ls_pos S2)) z2 w2 l2) (lev_fin (Int.ne_of_gt (ls_pos S3)) z3 w3 l3) (lev_fin (Int.ne_of_gt (ls_pos S4)) z4 w4 l4)
  rw [← eX] at e1
  obtain ⟨r0, r1, r2, r3, r4, v, e2, E, m0, m1, m2, m3, m4⟩ := w_through (m := 8) (k := 12) (by decide) (by decide) nd S0 S1 S2 S3 S4 F0 F1 F2 F3 F4
  have b0 := w_at E S0 (by decide)
  have v0 := w_level E S0 (by decide)
  have f0 : Rt (Fo r0 r1 r2 r3 r4 s0.1 s0.2) (v * Ls s0.1 s0.2 * Ls s0.1 s0.2) = T2 p0 q0 := rt_is (Int.mul_pos (Int.mul_pos E.n0 (ls_pos S0)) (ls_pos S0)) F0 (by rw [m0]; grind)
  rw [f0] at b0 v0
  have b1 := w_at E S1 (by decide)
  have v1 := w_level E S1 (by decide)
  have f1 : Rt (Fo r0 r1 r2 r3 r4 s1.1 s1.2) (v * Ls s1.1 s1.2 * Ls s1.1 s1.2) = T2 p1 q1 := rt_is (Int.mul_pos (Int.mul_pos E.n0 (ls_pos S1)) (ls_pos S1)) F1 (by rw [m1]; grind)
  rw [f1] at b1 v1
  have b2 := w_at E S2 (by decide)
  have v2 := w_level E S2 (by decide)
  have f2 : Rt (Fo r0 r1 r2 r3 r4 s2.1 s2.2) (v * Ls s2.1 s2.2 * Ls s2.1 s2.2) = T2 p2 q2 := rt_is (Int.mul_pos (Int.mul_pos E.n0 (ls_pos S2)) (ls_pos S2)) F2 (by rw [m2]; grind)
  rw [f2] at b2 v2
  have b3 := w_at E S3 (by decide)
  have v3 := w_level E S3 (by decide)
  have f3 : Rt (Fo r0 r1 r2 r3 r4 s3.1 s3.2) (v * Ls s3.1 s3.2 * Ls s3.1 s3.2) = T2 p3 q3 := rt_is (Int.mul_pos (Int.mul_pos E.n0 (ls_pos S3)) (ls_pos S3)) F3 (by rw [m3]; grind)
  rw [f3] at b3 v3
  have b4 := w_at E S4 (by decide)
  have v4 := w_level E S4 (by decide)
  have f4 : Rt (Fo r0 r1 r2 r3 r4 s4.1 s4.2) (v * Ls s4.1 s4.2 * Ls s4.1 s4.2) = T2 p4 q4 := rt_is (Int.mul_pos (Int.mul_pos E.n0 (ls_pos S4)) (ls_pos S4)) F4 (by rw [m4]; grind)
  rw [f4] at b4 v4
  obtain ⟨tr, R1, R2, _⟩ := rep_R (co_nice C)
  have il := w_low (v := [r0, r1, r2, r3, r4, v]) (r := T6 r0 r1 r2 r3 r4 v) .t (fun x hx => by
    simp only [List.mem_cons, List.not_mem_nil, or_false] at hx
    rcases hx with rfl | rfl | rfl | rfl | rfl | rfl
    · exact E.s0.sm (by decide)
    · exact E.s1.sm (by decide)
    · exact E.s2.sm (by decide)
    · exact E.s3.sm (by decide)
    · exact E.s4.sm (by decide)
    · exact E.sn.sm (by decide)) (by simp)
  rw [red_of_one E.one] at il
  exact ⟨u5, core_arethrough y a0 a1 a2 a3 a4 e1 R1 R2 y0 y1 y2 y3 y4 e2 (w_isco E) il (neT_self [r0, r1, r2, r3, r4, v]) (decide_eq_false (by have := E.n0; omega)) b0 v0 (neT_self [p0, q0]) b1 v1 (neT_self [p1, q1]) b2 v2 (neT_self [p2, q2]) b3 v3 (neT_self [p3, q3]) b4 v4 (neT_self [p4, q4]), h5⟩
/-! what is no course -/
theorem isco_gen {a b c d e f : Int} : F_is_course [.dat (T6 a b c d e f)] [] = some (.dat (.bool (((gL [a, b, c, d, e, f] : Int) == 1) && decide (0 < f))), []) := by
  have e1 := e_rrow6 (a := a) (b := b) (c := c) (d := d) (e := e) (f := f)
  generalize ((gL [a, b, c, d, e, f] : Int) == 1) = β at *
  cases β
  · simp! [F_is_course, b_is_course, e1, gIx, ix6', Bool.false_and]
  · simp! [F_is_course, b_is_course, e1, gIx, ix6', Bool.true_and]
theorem no_rr {x : PyData} (h : F_is_row [.dat x, .dat (.int 6)] [] = some (.dat (.bool false), [])) : F_is_course [.dat x] [] = some (.dat (.bool false), []) := by
  have e1 : F_is_reduced_row [.dat x, .dat (.int 6)] [] = some (.dat (.bool false), []) := by
    simp! [F_is_reduced_row, b_is_reduced_row, h]
  simp! [F_is_course, b_is_course, e1]
section
variable {m : Nat} {x0 x1 x2 x3 x4 n a b : Int}
theorem bad0 (C : Co m x0 x1 x2 x3 x4 n) : F_is_course [.dat (T6 (3 * x0) (3 * x1) (3 * x2) (3 * x3) (3 * x4) (3 * n))] [] = some (.dat (.bool false), []) := by
  have e := gL_map_mul 3 [x0, x1, x2, x3, x4, n]
  rw [C.one] at e
  have e' : gL [3 * x0, 3 * x1, 3 * x2, 3 * x3, 3 * x4, 3 * n] = 3 := e
  rw [isco_gen, e']; rfl
theorem bad4 : F_is_course [.dat (T6 x0 x1 x2 x3 x4 0)] [] = some (.dat (.bool false), []) := by
  rw [isco_gen]
  simp only [Int.lt_irrefl, decide_false, Bool.and_false]
theorem bad5 (h : 0 < n) : F_is_course [.dat (T6 x0 x1 x2 x3 x4 (0 - n))] [] = some (.dat (.bool false), []) := by
  rw [isco_gen, show decide (0 < 0 - n) = false from decide_eq_false (by omega), Bool.and_false]
theorem w_backE (S : Sg m a b) : F_setting_back [.dat (T2 a b)] [] = some (.dat (bif b == 0 then T2 1 0 else T2 (0 - a) b), []) := by
  have h1 := w_chset S
  by_cases hb : b = 0
  · have ha := S.z hb
    subst hb
    subst ha
    have z0 : gEq (.int 0) (.int 0) = some (.bool true) := rfl
    show _ = some (RV.dat (T2 1 0), [])
    simp! [F_setting_back, b_setting_back, h1, gIx, ix2_1, z0]
  · have z0 : (b == 0) = false := beq_eq_false_iff_ne.mpr hb
    have z1 : -a = 0 - a := by omega
    rw [z0]
    show _ = some (RV.dat (T2 (0 - a) b), [])
    simp! [F_setting_back, b_setting_back, h1, gIx, ix2_0, ix2_1, gEq_int, z0, z1]
theorem sum_back (hm : m ≤ 100) (S : Sg m a b) : ∃ A B : Int, (bif b == 0 then T2 1 0 else T2 (0 - a) b) = T2 A B ∧ Sg m A B ∧ F_setting_sum [.dat (T2 a b), .dat (T2 A B)] [] = some (.dat (T2 0 1), []) := by
  obtain ⟨A, B, e1, SB, g, g0, h1, h2⟩ := w_back S
  have e2 := e1.symm.trans (w_backE S)
  simp only [Option.some.injEq, Prod.mk.injEq, RV.dat.injEq, and_true] at e2
  refine ⟨A, B, e2.symm, SB, ?_⟩
  have e := w_setsum S SB (by omega)
  obtain ⟨G, g', g0', k1, k2⟩ := sg_ok (sum_nz S SB) (s := 2 * m + 1) (((S.sa.mul SB.sb).add (SB.sa.mul S.sb)).by _ (by omega)) (((S.sb.mul SB.sb).sub (S.sa.mul SB.sa)).by _ (by omega)) (by omega)
  rw [h1, h2] at e k1 k2 G
  generalize sgA (g * 0) (g * 1) = P at *
  generalize sgB (g * 0) (g * 1) = Q at *
  rw [Int.mul_zero] at k1
  have hP : P = 0 := (Int.mul_eq_zero.mp k1.symm).resolve_left g0'
  subst hP
  have q1 := G.one
  simp only [gL, Int.natAbs_zero, Nat.gcd_zero_left, Nat.gcd_zero_right] at q1
  have q0 := G.b0
  have hQ : Q = 1 := by omega
  subst hQ
  exact e
theorem red6 {a b c d e f : Int} (ha : Sz m a) (hb : Sz m b) (hc : Sz m c) (hd : Sz m d) (he : Sz m e) (hf : Sz m f) : ∃ a' b' c' d' e' f' : Int, PyData.tuple ((red [a, b, c, d, e, f]).map .int) = T6 a' b' c' d' e' f' ∧ Nice m (T6 a' b' c' d' e' f') :=
  ⟨_, _, _, _, _, _, rfl, nice6 ha.div hb.div hc.div hd.div he.div hf.div⟩
theorem ld_red {y0 y1 y2 y3 y4 e : Int} (C : Co m x0 x1 x2 x3 x4 n) (D : Co m y0 y1 y2 y3 y4 e) : ∃ a' b' c' d' e' f' : Int, PyData.tuple ((red (Ld x0 x1 x2 x3 x4 n y0 y1 y2 y3 y4 e)).map .int) = T6 a' b' c' d' e' f' ∧ Nice (2 * m + 1) (T6 a' b' c' d' e' f') :=
  red6 (((C.s0.mul D.sn).sub (D.s0.mul C.sn)).by _ (by omega)) (((C.s1.mul D.sn).sub (D.s1.mul C.sn)).by _ (by omega)) (((C.s2.mul D.sn).sub (D.s2.mul C.sn)).by _ (by omega)) (((C.s3.mul D.sn).sub (D.s3.mul C.sn)).by _ (by omega)) (((C.s4.mul D.sn).sub (D.s4.mul C.sn)).by _ (by omega)) ((C.sn.mul D.sn).by _ (by omega))
theorem ld_self (C : Co m x0 x1 x2 x3 x4 n) : PyData.tuple ((red (Ld x0 x1 x2 x3 x4 n x0 x1 x2 x3 x4 n)).map .int) = T6 0 0 0 0 0 1 := by
  have e : Ld x0 x1 x2 x3 x4 n x0 x1 x2 x3 x4 n = [0, 0, 0, 0, 0, 1].map ((n * n) * ·) := by
    simp only [List.map_cons, List.map_nil, List.cons.injEq, and_true]
    exact ⟨by omega, by omega, by omega, by omega, by omega, by omega⟩
  rw [e, red_mul (Int.mul_pos C.n0 C.n0), red_of_one (by decide)]
  rfl
theorem wp_red {M : Nat} {p0 q0 p1 q1 p2 q2 p3 q3 p4 q4 : Int} (k0 : Fr M p0 q0) (k1 : Fr M p1 q1) (k2 : Fr M p2 q2) (k3 : Fr M p3 q3) (k4 : Fr M p4 q4) : ∃ a' b' c' d' e' f' : Int, PyData.tuple ((red (Wp p0 q0 p1 q1 p2 q2 p3 q3 p4 q4)).map .int) = T6 a' b' c' d' e' f' ∧ Nice (6 * M + 12) (T6 a' b' c' d' e' f') := by
  have sN := nq_sz k0.sq k1.sq k2.sq k3.sq k4.sq
  have se : ∀ {b : Int}, Sz (5 * M + 2) (Nq q0 q1 q2 q3 q4 / b) := sN.div
  have sw : ∀ {a b : Int}, Sz M a → Sz (6 * M + 2) (a * (Nq q0 q1 q2 q3 q4 / b)) := fun h => (h.mul se).by _ (by omega)
  have c : ∀ {x : Int}, x.natAbs < 2 ^ 4 → Sz 4 x := fun h => Sm.sz h
  have z2 : Sz 4 (2 : Int) := c (by decide)
  have z4 : Sz 4 (4 : Int) := c (by decide)
  have z6 : Sz 4 (6 : Int) := c (by decide)
  exact red6 ((((sw k0.sp).add (sw k1.sp)).add (sw k3.sp)).by _ (by omega)) (((z2.mul (sw k2.sp)).add (z4.mul (sw k4.sp))).by _ (by omega)) (((z2.mul (sw k0.sp)).sub (z6.mul (sw k3.sp))).by _ (by omega)) (((z2.mul (sw k2.sp)).sub (z4.mul (sw k4.sp))).by _ (by omega)) ((((sw k0.sp).sub (sw k1.sp)).add (sw k3.sp)).by _ (by omega)) (sN.by _ (by omega))
end
theorem e_right35 {k : Nat} {t : List PyData} (h : Src (k + 95) t) : ∃ t', F__law_right_K35 [.cel 0] [t] = some (.dat (.bool true), [t']) := by
  obtain ⟨x0, x1, x2, x3, x4, n, M, u', t1, y1, h1, C, u0', sM, su'⟩ := w_courseR (k := k + 77) h
  obtain ⟨z0, z1, z2, z3, z4, e, fr2, t2, y2, h2, D⟩ := w_course (k := k + 59) h1
  obtain ⟨a, b, t3, y3, h3, S⟩ := w_slot (k := k + 55) h2
  obtain ⟨c, f, t4, y4, h4, F⟩ := w_slot (k := k + 51) h3
  obtain ⟨u, t5, y5, h5, u0, u1⟩ := w_draw (k := k + 50) (m := 5) h4 (by decide) (by decide)
  obtain ⟨p0, q0, t6, y6, h6, K0⟩ := w_fraction (k := k + 47) h5
  obtain ⟨p1, q1, t7, y7, h7, K1⟩ := w_fraction (k := k + 44) h6
  obtain ⟨p2, q2, t8, y8, h8, K2⟩ := w_fraction (k := k + 41) h7
  obtain ⟨p3, q3, t9, y9, h9, K3⟩ := w_fraction (k := k + 38) h8
  obtain ⟨p4, q4, t10, y10, h10, K4⟩ := w_fraction (k := k + 35) h9
  obtain ⟨t11, thr, _⟩ := w_arethrough (k := k) h10 D
  obtain ⟨mp, mq, _, eM, KM, _, _, _⟩ := ratN (m := 20) u0' sM su'
  rw [eM] at y1
  have n0 := C.n0
  have v1 := w_level C S (by decide)
  have at1 := w_at C S (by decide)
  obtain ⟨vp, vq, _, eV, KV, _, _, _⟩ := ratN (m := 60) (Int.mul_pos (Int.mul_pos C.n0 (ls_pos S)) (ls_pos S)) ((fo_sz C S.sa S.sb).by _ (by decide)) (((C.sn.mul (ls_sz S.sa S.sb)).mul (ls_sz S.sa S.sb)).by _ (by decide))
  rw [eV] at v1 at1
  have lc := w_levelcourse KM (by decide)
  have z2' : Sz 4 (2 : Int) := Sm.sz (show (2 : Int).natAbs < 2 ^ 4 by decide)
  have m2 := gMul_ok (z2'.sm (m := 4000)) (KM.sp.sm (m := 4000))
  have s2p : Sz 24 (2 * mp) := (z2'.mul KM.sp).by _ (by decide)
  have zz : Sz 24 (0 : Int) := sz_0.by _ (by decide)
  have ll := w_low (v := [mp, 0, 2 * mp, 0, mp, mq]) (r := T6 mp 0 (2 * mp) 0 mp mq) .t (fun x hx => by
    simp only [List.mem_cons, List.not_mem_nil, or_false] at hx
    rcases hx with rfl | rfl | rfl | rfl | rfl | rfl
    · exact KM.sp.sm (by decide)
    · exact zz.sm (by decide)
    · exact s2p.sm (by decide)
    · exact zz.sm (by decide)
    · exact KM.sp.sm (by decide)
    · exact KM.sq.sm (by decide)) (by simp)
  obtain ⟨fa, fb, fc, fd, fe, ff, eF, nF⟩ := red6 (m := 24) (KM.sp.by _ (by decide)) zz s2p zz (KM.sp.by _ (by decide)) (KM.sq.by _ (by decide))
  rw [eF] at lc ll
  have nV : Nice 60 (T2 vp vq) := nice2 KV.sp KV.sq
  obtain ⟨tr1, R1, R1n, _⟩ := rep_R (nice_list (nice_cons nV (nice_cons nV (nice_cons (nF.up (by decide)) (nice_cons (nF.up (by decide)) nice_nil)))))
  have su : Sz 4 (1 + u) := Sm.sz (by unfold Sm; omega)
  have gm : ∀ {x : Int}, Sz 24 x → gMul (.int (1 + u)) (.int x) = some (.int ((1 + u) * x)) := fun h => gMul_ok (su.sm (m := 4000)) (h.sm (m := 4000))
  have co1 := w_courseof (a := (1 + u) * x0) (b := (1 + u) * x1) (c := (1 + u) * x2) (d := (1 + u) * x3) (f := (1 + u) * x4) (g := (1 + u) * n) (Int.mul_pos (by omega) n0) (fun x hx => by
    simp only [List.mem_cons, List.not_mem_nil, or_false] at hx
    rcases hx with rfl | rfl | rfl | rfl | rfl | rfl
    · exact (su.mul C.s0).sm (by decide)
    · exact (su.mul C.s1).sm (by decide)
    · exact (su.mul C.s2).sm (by decide)
    · exact (su.mul C.s3).sm (by decide)
    · exact (su.mul C.s4).sm (by decide)
    · exact (su.mul C.sn).sm (by decide))
  rw [co_by C (by omega)] at co1
  have co2 := w_courseof (a := x0) (b := x1) (c := x2) (d := x3) (f := x4) (g := n) n0 (fun x hx => by
    simp only [List.mem_cons, List.not_mem_nil, or_false] at hx
    rcases hx with rfl | rfl | rfl | rfl | rfl | rfl
    · exact C.s0.sm (by decide)
    · exact C.s1.sm (by decide)
    · exact C.s2.sm (by decide)
    · exact C.s3.sm (by decide)
    · exact C.s4.sm (by decide)
    · exact C.sn.sm (by decide))
  rw [co_red C] at co2
  have cl1 := w_courseless C D (by decide)
  have cl2 := w_courseless D C (by decide)
  have cl0 := w_courseless C C (by decide)
  have le1 := w_less C D (by decide)
  have le2 := w_less D C (by decide)
  rw [ld_self C] at cl0
  obtain ⟨aa, ab, ac, ad, ae, af, eD1, nD1⟩ := ld_red C D
  obtain ⟨ba, bb, bc, bd, be, bf, eD2, nD2⟩ := ld_red D C
  rw [eD1] at cl1 le1
  rw [eD2] at cl2 le2
  have nX := co_nice (C.up (by decide : 24 ≤ 60))
  have nY := co_nice (D.up (by decide : 24 ≤ 300))
  have z0' : Sz 60 (0 : Int) := sz_0.by _ (by decide)
  have z1' : Sz 60 (1 : Int) := sz_1.by _ (by decide)
  obtain ⟨tr2, R2, R2n, _⟩ := rep_R (nice_list (nice_cons nX (nice_cons nX (nice_cons (nD1.up (by decide)) (nice_cons (nD2.up (by decide)) (nice_cons (nice6 z0' z0' z0' z0' z0' z1') nice_nil))))))
  have cp1 := w_partsF C (by decide)
  have lp := w_lparts C (by decide)
  have cp2 := w_ofparts5 (by decide) (by decide) K0 K1 K2 K3 K4
  have lq := w_laid (by decide) K0 K1 K2 K3 K4
  obtain ⟨ca, cb, cc, cd, ce, cf, eQ, nQ⟩ := wp_red K0 K1 K2 K3 K4
  rw [eQ] at cp2 lq
  obtain ⟨PY, cq, cy⟩ := w_partsback D (by decide)
  have s3 : Sz 4 (3 : Int) := Sm.sz (show (3 : Int).natAbs < 2 ^ 4 by decide)
  have s4 : Sz 4 (4 : Int) := Sm.sz (show (4 : Int).natAbs < 2 ^ 4 by decide)
  have s8 : Sz 4 (8 : Int) := Sm.sz (show (8 : Int).natAbs < 2 ^ 4 by decide)
  have r8 : Sz 60 (8 * n) := (s8.mul C.sn).by _ (by decide)
  have nr : ∀ {p q : Int}, 0 < q → Sz 60 p → Sz 60 q → Nice 300 (Rt p q) := fun h1 h2 h3 => by
    have F := rt_fr h1 h2 h3
    exact nice2 (F.sp.by _ (by decide)) (F.sq.by _ (by decide))
  have nP := nice_tup (nice_cons (nr (p := 3 * x0 + x2 + 3 * x4) (q := 8 * n) (by omega) ((((s3.mul C.s0).add C.s2).add (s3.mul C.s4)).by _ (by decide)) r8) (nice_cons (nr (p := x0 - x4) (q := 2 * n) (by omega) ((C.s0.sub C.s4).by _ (by decide)) ((z2'.mul C.sn).by _ (by decide))) (nice_cons (nr (p := x1 + x3) (q := 4 * n) (by omega) ((C.s1.add C.s3).by _ (by decide)) ((s4.mul C.sn).by _ (by decide))) (nice_cons (nr (p := x0 - x2 + x4) (q := 8 * n) (by omega) (((C.s0.sub C.s2).add C.s4).by _ (by decide)) r8) (nice_cons (nr (p := x1 - x3) (q := 8 * n) (by omega) ((C.s1.sub C.s3).by _ (by decide)) r8) nice_nil)))))
  obtain ⟨tr3, R3, R3n, _⟩ := rep_R (nice_list (nice_cons nP (nice_cons nP (nice_cons (nQ.up (by decide)) (nice_cons nY nice_nil)))))
  obtain ⟨A, B, eBK, SB, ss3⟩ := sum_back (by decide) S
  have sb := w_backE S
  rw [eBK] at sb
  have ss1 := w_setsum S F (by decide)
  have ss2 := w_setsum F S (by decide)
  have sm1 := w_summed S F (by decide)
  rw [show c * b + a * f = a * f + c * b by grind, show f * b - c * a = b * f - a * c by grind] at ss2
  obtain ⟨GG, _, _, _, _⟩ := sg_ok (sum_nz S F) (s := 17) (((S.sa.mul F.sb).add (F.sa.mul S.sb)).by _ (by decide)) (((S.sb.mul F.sb).sub (S.sa.mul F.sa)).by _ (by decide)) (by decide)
  generalize sgA (a * f + c * b) (b * f - a * c) = GA at *
  generalize sgB (a * f + c * b) (b * f - a * c) = GB at *
  have nG : Nice 60 (T2 GA GB) := nice2 (GG.sa.by _ (by decide)) (GG.sb.by _ (by decide))
  have nB : Nice 60 (T2 A B) := nice2 (SB.sa.by _ (by decide)) (SB.sb.by _ (by decide))
  obtain ⟨tr4, R4, R4n, _⟩ := rep_R (nice_list (nice_cons nG (nice_cons nG (nice_cons nB (nice_cons (nice2 z0' z1') nice_nil)))))
  have nb : ∀ {b : Bool}, Nice 60 (.bool b) := nice_bool
  obtain ⟨tr5, R5, _, R5e⟩ := rep_R (nice_list (nice_cons (nb (b := true)) (nice_cons (nb (b := true)) (nice_cons (nb (b := false)) (nice_cons (nb (b := false)) (nice_cons (nb (b := false)) (nice_cons (nb (b := false)) (nice_cons (nb (b := false)) (nice_cons (nb (b := false)) (nice_cons (nb (b := false)) (nice_cons (nb (b := false)) nice_nil))))))))))) 
  have g3 : ∀ {x : Int}, Sz 24 x → gMul (.int 3) (.int x) = some (.int (3 * x)) := fun h => gMul_ok (s3.sm (m := 4000)) (h.sm (m := 4000))
  exact ⟨t11, core35 y1 y2 y3 y4 y5 v1 lc m2 ll at1 R1 R1n (gm C.s0) (gm C.s1) (gm C.s2) (gm C.s3) (gm C.s4) (gm C.sn) co1 co2 cl1 cl2 cl0 le1 le2 R2 R2n y6 y7 y8 y9 y10 cp1 cp2 cq cy lp lq R3 R3n (gEq_int _ _) eBK.symm ss1 ss2 sb ss3 sm1 R4 R4n (g3 C.s0) (g3 C.s1) (g3 C.s2) (g3 C.s3) (g3 C.s4) (g3 C.sn) (w_isco C) (w_isco D) (bad0 C) (no_rr rfl) (no_rr rfl) (no_rr rfl) bad4 (bad5 n0) (no_rr rfl) (no_rr rfl) R5 R5e thr⟩
theorem math_K35 (ns : List Int) (hl : ns.length ≤ 63) : ∃ c, F_law_K35 [.dat (.list (ns.map PyData.int))] [] = some (.dat (.bool true), c) :=
  src_ok (FR := F__law_right_K35) (m := 4) (by decide) (by decide) (fun t ht => by
    obtain ⟨t', e⟩ := e_right35 (k := 0) (ht.le (by decide))
    exact ⟨_, e⟩) ns
end PL


set_option Elab.async false
set_option linter.all false
open PySem PySem.W PyProof.Rows
set_option maxRecDepth 100000 in
set_option maxHeartbeats 0 in
theorem PySem.Challenge.cw_platelights_k35_courses_levels_parts_holds : PySem.Challenge.rw_platelights_k35_courses_levels_parts.Holds := by
  w_on; o_law; k_head; (case hw => w_witness2)
  k_fill
  refine DL.walk_G (l := PySem.Challenge.rw_platelights_k35_courses_levels_parts) (n := 63) (k := 10) (x := "_law_script") rfl (by decide) rfl ⟨rfl, by decide, by decide⟩ (fun w h Y => PySem.W.kIn_of Y) ?F (fun ns hl => PL.math_K35 ns hl)
  case F =>
    intro w mg fa h KX G hmg
    refine' K35.all_mk KX G hmg ?a_is_whole ?l_is_whole ?c_is_whole ?k_is_whole ?a_is_row ?l_is_row ?c_is_row ?k_is_row ?a_divisor_of ?l_divisor_of ?c_divisor_of ?k_divisor_of ?a_is_reduced_row ?l_is_reduced_row ?c_is_reduced_row ?k_is_reduced_row ?a_reduced ?l_reduced ?c_reduced ?k_reduced ?a_dot ?l_dot ?c_dot ?k_dot ?a_combined ?l_combined ?c_combined ?k_combined ?a_ratio ?l_ratio ?c_ratio ?k_ratio ?a_is_fraction ?l_is_fraction ?c_is_fraction ?k_is_fraction ?a_check_fraction ?l_check_fraction ?c_check_fraction ?k_check_fraction ?a_check_below ?l_check_below ?c_check_below ?k_check_below ?a_trimmed ?l_trimmed ?c_trimmed ?k_trimmed ?a_polynomial_product ?l_polynomial_product ?c_polynomial_product ?k_polynomial_product ?a_value_at ?l_value_at ?c_value_at ?k_value_at ?a_is_setting ?l_is_setting ?c_is_setting ?k_is_setting ?a_check_setting ?l_check_setting ?c_check_setting ?k_check_setting ?a_is_course ?l_is_course ?c_is_course ?k_is_course ?a_check_course ?l_check_course ?c_check_course ?k_check_course ?a_course_of ?l_course_of ?c_course_of ?k_course_of ?a__length_of ?l__length_of ?c__length_of ?k__length_of ?a_level_at ?l_level_at ?c_level_at ?k_level_at ?a_level_course ?l_level_course ?c_level_course ?k_level_course ?a_course_less ?l_course_less ?c_course_less ?k_course_less ?a__weighed_course ?l__weighed_course ?c__weighed_course ?k__weighed_course ?a_course_parts ?l_course_parts ?c_course_parts ?k_course_parts ?a_first_wrong__is_fraction ?l_first_wrong__is_fraction ?c_first_wrong__is_fraction ?k_first_wrong__is_fraction ?a_course_of_parts ?l_course_of_parts ?c_course_of_parts ?k_course_of_parts ?a__is_sample ?l__is_sample ?c__is_sample ?k__is_sample ?a__check_samples ?l__check_samples ?c__check_samples ?k__check_samples ?a_course_through ?l_course_through ?c_course_through ?k_course_through ?a_setting_sum ?l_setting_sum ?c_setting_sum ?k_setting_sum ?a_setting_back ?l_setting_back ?c_setting_back ?k_setting_back ?a__law_source ?l__law_source ?c__law_source ?k__law_source ?a__law_draw ?l__law_draw ?c__law_draw ?k__law_draw ?a__law_pick ?l__law_pick ?c__law_pick ?k__law_pick ?a__law_about ?l__law_about ?c__law_about ?k__law_about ?a__law_common ?l__law_common ?c__law_common ?k__law_common ?a__law_low ?l__law_low ?c__law_low ?k__law_low ?a__law_ratio ?l__law_ratio ?c__law_ratio ?k__law_ratio ?a__law_slot ?l__law_slot ?c__law_slot ?k__law_slot ?a__law_signed ?l__law_signed ?c__law_signed ?k__law_signed ?a__law_summed ?l__law_summed ?c__law_summed ?k__law_summed ?a__law_form ?l__law_form ?c__law_form ?k__law_form ?a__law_at ?l__law_at ?c__law_at ?k__law_at ?a__law_quad ?l__law_quad ?c__law_quad ?k__law_quad ?a__law_folded ?l__law_folded ?c__law_folded ?k__law_folded ?a__law_course ?l__law_course ?c__law_course ?k__law_course ?a__law_fraction ?l__law_fraction ?c__law_fraction ?k__law_fraction ?a__law_slots ?l__law_slots ?c__law_slots ?k__law_slots ?a__law_parts ?l__law_parts ?c__law_parts ?k__law_parts ?a__law_laid ?l__law_laid ?c__law_laid ?k__law_laid ?a__law_less ?l__law_less ?c__law_less ?k__law_less ?a__law_are_through ?l__law_are_through ?c__law_are_through ?k__law_are_through ?a__law_right ?l__law_right ?c__law_right ?k__law_right ?a_law ?l_law ?c_law ?k_law ?z_gcd ?z_lcm ?z_abs ?z_all ?z_divmod ?z_enumerate ?z_int ?z_isinstance ?z_len ?z_list ?z_max ?z_min ?z_range ?z_repr ?z_reversed ?z_sum ?z_tuple ?z_type ?z_zip ?y__ROUND ?t_q_ROUND5 ?y__ROWS_OF_PARTS ?t_q_ROWS_OF_PARTS30 ?t_q_ROWS_OF_PARTS29 ?t_q_ROWS_OF_PARTS23 ?t_q_ROWS_OF_PARTS17 ?t_q_ROWS_OF_PARTS11 ?t_q_ROWS_OF_PARTS5 ?y__COURSES_OF_PARTS ?t_q_COURSES_OF_PARTS30 ?t_q_COURSES_OF_PARTS29 ?t_q_COURSES_OF_PARTS23 ?t_q_COURSES_OF_PARTS17 ?t_q_COURSES_OF_PARTS11 ?t_q_COURSES_OF_PARTS5
    (case a_is_whole => k_is)
    (case l_is_whole => k_is)
    (case c_is_whole => k_is)
    (case k_is_whole => k_is)
    (case a_is_row => k_is)
    (case l_is_row => k_is)
    (case c_is_row => k_is)
    (case k_is_row => k_is)
    (case a_divisor_of => k_is)
    (case l_divisor_of => k_is)
    (case c_divisor_of => k_is)
    (case k_divisor_of => k_is)
    (case a_is_reduced_row => k_is)
    (case l_is_reduced_row => k_is)
    (case c_is_reduced_row => k_is)
    (case k_is_reduced_row => k_is)
    (case a_reduced => k_is)
    (case l_reduced => k_is)
    (case c_reduced => k_is)
    (case k_reduced => k_is)
    (case a_dot => k_is)
    (case l_dot => k_is)
    (case c_dot => k_is)
    (case k_dot => k_is)
    (case a_combined => k_is)
    (case l_combined => k_is)
    (case c_combined => k_is)
    (case k_combined => k_is)
    (case a_ratio => k_is)
    (case l_ratio => k_is)
    (case c_ratio => k_is)
    (case k_ratio => k_is)
    (case a_is_fraction => k_is)
    (case l_is_fraction => k_is)
    (case c_is_fraction => k_is)
    (case k_is_fraction => k_is)
    (case a_check_fraction => k_is)
    (case l_check_fraction => k_is)
    (case c_check_fraction => k_is)
    (case k_check_fraction => k_is)
    (case a_check_below => k_is)
    (case l_check_below => k_is)
    (case c_check_below => k_is)
    (case k_check_below => k_is)
    (case a_trimmed => k_is)
    (case l_trimmed => k_is)
    (case c_trimmed => k_is)
    (case k_trimmed => k_is)
    (case a_polynomial_product => k_is)
    (case l_polynomial_product => k_is)
    (case c_polynomial_product => k_is)
    (case k_polynomial_product => k_is)
    (case a_value_at => k_is)
    (case l_value_at => k_is)
    (case c_value_at => k_is)
    (case k_value_at => k_is)
    (case a_is_setting => k_is)
    (case l_is_setting => k_is)
    (case c_is_setting => k_is)
    (case k_is_setting => k_is)
    (case a_check_setting => k_is)
    (case l_check_setting => k_is)
    (case c_check_setting => k_is)
    (case k_check_setting => k_is)
    (case a_is_course => k_is)
    (case l_is_course => k_is)
    (case c_is_course => k_is)
    (case k_is_course => k_is)
    (case a_check_course => k_is)
    (case l_check_course => k_is)
    (case c_check_course => k_is)
    (case k_check_course => k_is)
    (case a_course_of => k_is)
    (case l_course_of => k_is)
    (case c_course_of => k_is)
    (case k_course_of => k_is)
    (case a__length_of => k_is)
    (case l__length_of => k_is)
    (case c__length_of => k_is)
    (case k__length_of => k_is)
    (case a_level_at => k_is)
    (case l_level_at => k_is)
    (case c_level_at => k_is)
    (case k_level_at => k_is)
    (case a_level_course => k_is)
    (case l_level_course => k_is)
    (case c_level_course => k_is)
    (case k_level_course => k_is)
    (case a_course_less => k_is)
    (case l_course_less => k_is)
    (case c_course_less => k_is)
    (case k_course_less => k_is)
    (case a__weighed_course => k_is)
    (case l__weighed_course => k_is)
    (case c__weighed_course => k_is)
    (case k__weighed_course => k_is)
    (case a_course_parts => k_is)
    (case l_course_parts => k_is)
    (case c_course_parts => k_is)
    (case k_course_parts => k_is)
    (case a_first_wrong__is_fraction => k_is)
    (case l_first_wrong__is_fraction => k_is)
    (case c_first_wrong__is_fraction => k_is)
    (case k_first_wrong__is_fraction => k_is)
    (case a_course_of_parts => k_is)
    (case l_course_of_parts => k_is)
    (case c_course_of_parts => k_is)
    (case k_course_of_parts => k_is)
    (case a__is_sample => k_is)
    (case l__is_sample => k_is)
    (case c__is_sample => k_is)
    (case k__is_sample => k_is)
    (case a__check_samples => k_is)
    (case l__check_samples => k_is)
    (case c__check_samples => k_is)
    (case k__check_samples => k_is)
    (case a_course_through => k_is)
    (case l_course_through => k_is)
    (case c_course_through => k_is)
    (case k_course_through => k_is)
    (case a_setting_sum => k_is)
    (case l_setting_sum => k_is)
    (case c_setting_sum => k_is)
    (case k_setting_sum => k_is)
    (case a_setting_back => k_is)
    (case l_setting_back => k_is)
    (case c_setting_back => k_is)
    (case k_setting_back => k_is)
    (case a__law_source => k_is)
    (case l__law_source => k_is)
    (case c__law_source => k_is)
    (case k__law_source => k_is)
    (case a__law_draw => k_is)
    (case l__law_draw => k_is)
    (case c__law_draw => k_is)
    (case k__law_draw => k_is)
    (case a__law_pick => k_is)
    (case l__law_pick => k_is)
    (case c__law_pick => k_is)
    (case k__law_pick => k_is)
    (case a__law_about => k_is)
    (case l__law_about => k_is)
    (case c__law_about => k_is)
    (case k__law_about => k_is)
    (case a__law_common => k_is)
    (case l__law_common => k_is)
    (case c__law_common => k_is)
    (case k__law_common => k_is)
    (case a__law_low => k_is)
    (case l__law_low => k_is)
    (case c__law_low => k_is)
    (case k__law_low => k_is)
    (case a__law_ratio => k_is)
    (case l__law_ratio => k_is)
    (case c__law_ratio => k_is)
    (case k__law_ratio => k_is)
    (case a__law_slot => k_is)
    (case l__law_slot => k_is)
    (case c__law_slot => k_is)
    (case k__law_slot => k_is)
    (case a__law_signed => k_is)
    (case l__law_signed => k_is)
    (case c__law_signed => k_is)
    (case k__law_signed => k_is)
    (case a__law_summed => k_is)
    (case l__law_summed => k_is)
    (case c__law_summed => k_is)
    (case k__law_summed => k_is)
    (case a__law_form => k_is)
    (case l__law_form => k_is)
    (case c__law_form => k_is)
    (case k__law_form => k_is)
    (case a__law_at => k_is)
    (case l__law_at => k_is)
    (case c__law_at => k_is)
    (case k__law_at => k_is)
    (case a__law_quad => k_is)
    (case l__law_quad => k_is)
    (case c__law_quad => k_is)
    (case k__law_quad => k_is)
    (case a__law_folded => k_is)
    (case l__law_folded => k_is)
    (case c__law_folded => k_is)
    (case k__law_folded => k_is)
    (case a__law_course => k_is)
    (case l__law_course => k_is)
    (case c__law_course => k_is)
    (case k__law_course => k_is)
    (case a__law_fraction => k_is)
    (case l__law_fraction => k_is)
    (case c__law_fraction => k_is)
    (case k__law_fraction => k_is)
    (case a__law_slots => k_is)
    (case l__law_slots => k_is)
    (case c__law_slots => k_is)
    (case k__law_slots => k_is)
    (case a__law_parts => k_is)
    (case l__law_parts => k_is)
    (case c__law_parts => k_is)
    (case k__law_parts => k_is)
    (case a__law_laid => k_is)
    (case l__law_laid => k_is)
    (case c__law_laid => k_is)
    (case k__law_laid => k_is)
    (case a__law_less => k_is)
    (case l__law_less => k_is)
    (case c__law_less => k_is)
    (case k__law_less => k_is)
    (case a__law_are_through => k_is)
    (case l__law_are_through => k_is)
    (case c__law_are_through => k_is)
    (case k__law_are_through => k_is)
    (case a__law_right => k_is)
    (case l__law_right => k_is)
    (case c__law_right => k_is)
    (case k__law_right => k_is)
    (case a_law => k_is)
    (case l_law => k_is)
    (case c_law => k_is)
    (case k_law => k_is)
    (case z_gcd => k_is)
    (case z_lcm => k_is)
    (case z_abs => k_is)
    (case z_all => k_is)
    (case z_divmod => k_is)
    (case z_enumerate => k_is)
    (case z_int => k_is)
    (case z_isinstance => k_is)
    (case z_len => k_is)
    (case z_list => k_is)
    (case z_max => k_is)
    (case z_min => k_is)
    (case z_range => k_is)
    (case z_repr => k_is)
    (case z_reversed => k_is)
    (case z_sum => k_is)
    (case z_tuple => k_is)
    (case z_type => k_is)
    (case z_zip => k_is)
    (case y__ROUND => k_is)
    (case t_q_ROUND5 => k_is)
    (case y__ROWS_OF_PARTS => k_is)
    (case t_q_ROWS_OF_PARTS30 => k_is)
    (case t_q_ROWS_OF_PARTS29 => k_is)
    (case t_q_ROWS_OF_PARTS23 => k_is)
    (case t_q_ROWS_OF_PARTS17 => k_is)
    (case t_q_ROWS_OF_PARTS11 => k_is)
    (case t_q_ROWS_OF_PARTS5 => k_is)
    (case y__COURSES_OF_PARTS => k_is)
    (case t_q_COURSES_OF_PARTS30 => k_is)
    (case t_q_COURSES_OF_PARTS29 => k_is)
    (case t_q_COURSES_OF_PARTS23 => k_is)
    (case t_q_COURSES_OF_PARTS17 => k_is)
    (case t_q_COURSES_OF_PARTS11 => k_is)
    (case t_q_COURSES_OF_PARTS5 => k_is)

