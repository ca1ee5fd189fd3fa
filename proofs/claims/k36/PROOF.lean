import PyProof.Rows.All
import Wide.All
import OpenK.AllK
import Wide.FinOn
import HandS.Base
import HandS.Call
import HandS.List
import HandS.Comp
import HandS.Ends
import HandS.Iter
import HandS.Walk
import HandS.Words
import HandS.Wide
import HandS.WideBits
import HandS.Gcd
import HandS.IsInst
import HandS.More
import HandS.Style
import HandS.Conv
import HandS.RaiseMore
import PyProof.ReprRoads
import HandS.TupAny
import KE.GoesMore
import HandS.Zip
import KE.GoesEnum
import PyProof.EnumMake
import HandS.Star
import HandS.Rev
import KE.KMathG
import HandS.NoneIn
import HandS.TupLe
import HandS.TupMul
import PySem.Challenge.RW_platelights_k36_whole_turned_courses
set_option Elab.async false
set_option linter.all false
set_option maxRecDepth 100000
set_option maxHeartbeats 4000000
/-! A layer of my own over the hand layer: plain data, evaluated without the heap. -/
namespace DL
open PySem PySem.Spec L2
open PyProof.Rows hiding St

/-! ### heaps -/
def hid (hs : List Addr) (H : Hp) : Hp := fun a => if a ∈ hs then none else H a
theorem hid_out {hs : List Addr} {H : Hp} {a : Addr} (h : a ∉ hs) : hid hs H a = H a := if_neg h
theorem hid_some {hs : List Addr} {H : Hp} {a : Addr} {o : HO} (h : hid hs H a = some o) : a ∉ hs ∧ H a = some o := by
  unfold hid at h
  by_cases m : a ∈ hs
  · rw [if_pos m] at h; cases h
  · rw [if_neg m] at h; exact ⟨m, h⟩
def Sub (G H : Hp) : Prop := ∀ a o, G a = some o → H a = some o
theorem Sub.refl (H : Hp) : Sub H H := fun _ _ h => h
theorem hid_sub {hs : List Addr} {H : Hp} : Sub (hid hs H) H := fun _ _ h => (hid_some h).2
def Step (ps : List Addr) (H H' : Hp) : Prop := ∀ a o, a ∉ ps → H a = some o → H' a = some o
theorem Step.refl {ps : List Addr} (H : Hp) : Step ps H H := fun _ _ _ h => h
theorem Step.trans {ps : List Addr} {H H1 H2 : Hp} (a : Step ps H H1) (b : Step ps H1 H2) : Step ps H H2 := fun x o n h => b x o n (a x o n h)
theorem Step.mono {ps qs : List Addr} {H H1 : Hp} (a : Step ps H H1) (h : ∀ p ∈ ps, p ∈ qs) : Step qs H H1 := fun x o n q => a x o (fun m => n (h x m)) q
theorem Step.new {ps : List Addr} {H : Hp} {p : Addr} {o : HO} (h : H p = none) : Step ps H (upd H p o) := fun a u _ e => by
  rw [upd_ne (ne_of_none e h)]; exact e
theorem Step.hd {ps hs hs' : List Addr} {H H' : Hp} (s : Step ps H H') (h1 : ∀ p ∈ ps, p ∈ hs) (h2 : ∀ a ∈ hs', a ∉ hs → H a = none) : Sub (hid hs H) (hid hs' H') := fun a o e => by
  obtain ⟨n, q⟩ := hid_some e
  rw [hid_out (fun m => by rw [h2 a m n] at q; cases q)]
  exact s a o (fun m => n (h1 a m)) q
theorem Step.hd0 {ps hs : List Addr} {H H' : Hp} (s : Step ps H H') (h1 : ∀ p ∈ ps, p ∈ hs) : Sub (hid hs H) (hid hs H') := s.hd h1 fun _ m n => absurd m n

/-! ### data -/
theorem sqL_mono {K : PySem.W.Frag} {G H : Hp} {a : Addr} {xs : List V} (s : Sub G H) (h : SqL K G a xs) : SqL K H a xs := by
  rcases h with (h | ⟨o, h⟩) | h
  · exact .inl (.inl (s _ _ h))
  · exact .inl (.inr ⟨o, s _ _ h⟩)
  · exact .inr h
theorem sqT_mono {K : PySem.W.Frag} {G H : Hp} {a : Addr} {xs : List V} (s : Sub G H) (h : SqT K G a xs) : SqT K H a xs := by
  rcases h with (h | ⟨o, h⟩) | h
  · exact .inl (.inl (s _ _ h))
  · exact .inl (.inr ⟨o, s _ _ h⟩)
  · exact .inr h
mutual
theorem dp_mono {K : PySem.W.Frag} {G H : Hp} (s : Sub G H) : ∀ (d : PyData) (v : V), Dp K G v d → Dp K H v d
  | .none, _, h => by cases h; exact .non
  | .bool b, _, h => by cases h; exact .bl b
  | .int i, _, h => by cases h; exact .int i
  | .str x, _, h => by cases h; exact .str x
  | .list ds, _, h => by
    cases h with
    | lst hs ha => exact .lst (sqL_mono s hs) (dpa_mono s ds _ ha)
  | .tuple ds, _, h => by
    cases h with
    | tup hs ha => exact .tup (sqT_mono s hs) (dpa_mono s ds _ ha)
  | .dict _, _, h => by cases h
theorem dpa_mono {K : PySem.W.Frag} {G H : Hp} (s : Sub G H) : ∀ (ds : List PyData) (vs : List V), DpAll K G vs ds → DpAll K H vs ds
  | [], _, h => by cases h; exact .nil
  | d :: ds, _, h => by
    cases h with
    | cons h1 h2 => exact .cons (dp_mono s d _ h1) (dpa_mono s ds _ h2)
end
end DL
namespace L2
open PySem PySem.Spec DL
section
variable {K : PySem.W.Frag} {G H : Hp}
theorem Dp.up {v : V} {d : PyData} (h : Dp K G v d) (s : Sub G H) : Dp K H v d := dp_mono s d v h
theorem DpAll.up {vs : List V} {ds : List PyData} (h : DpAll K G vs ds) (s : Sub G H) : DpAll K H vs ds := dpa_mono s ds vs h
theorem DpAll.len : ∀ {vs : List V} {ds : List PyData}, DpAll K H vs ds → vs.length = ds.length
  | _, _, .nil => rfl
  | _, _, .cons _ t => congrArg (· + 1) (DpAll.len t)
theorem DpAll.get : ∀ {vs : List V} {ds : List PyData} {i : Nat} {d : PyData}, DpAll K H vs ds → ds[i]? = some d → ∃ v, vs[i]? = some v ∧ Dp K H v d
  | _, _, 0, _, .cons h _, e => by
    have e' := Option.some.inj e; subst e'; exact ⟨_, rfl, h⟩
  | _, _, i + 1, _, .cons _ t, e => by
    obtain ⟨v, h1, h2⟩ := DpAll.get (i := i) t (by simpa using e)
    exact ⟨v, by simpa using h1, h2⟩
theorem DpAll.getV : ∀ {vs : List V} {ds : List PyData} {i : Nat} {v : V}, DpAll K H vs ds → vs[i]? = some v → ∃ d, ds[i]? = some d ∧ Dp K H v d
  | _, _, 0, _, .cons h _, e => by
    have e' := Option.some.inj e; subst e'; exact ⟨_, rfl, h⟩
  | _, _, i + 1, _, .cons _ t, e => by
    obtain ⟨v, h1, h2⟩ := DpAll.getV (i := i) t (by simpa using e)
    exact ⟨v, by simpa using h1, h2⟩
theorem DpAll.app : ∀ {vs ws : List V} {ds es : List PyData}, DpAll K H vs ds → DpAll K H ws es → DpAll K H (vs ++ ws) (ds ++ es)
  | _, _, _, _, .nil, h => h
  | _, _, _, _, .cons a t, h => .cons a (DpAll.app t h)
theorem DpAll.tk : ∀ {vs : List V} {ds : List PyData} (n : Nat), DpAll K H vs ds → DpAll K H (vs.take n) (ds.take n)
  | _, _, 0, _ => .nil
  | _, _, _ + 1, .nil => .nil
  | _, _, n + 1, .cons a t => .cons a (DpAll.tk n t)
theorem DpAll.dr : ∀ {vs : List V} {ds : List PyData} (n : Nat), DpAll K H vs ds → DpAll K H (vs.drop n) (ds.drop n)
  | _, _, 0, h => h
  | _, _, _ + 1, .nil => .nil
  | _, _, n + 1, .cons _ t => DpAll.dr n t
theorem DpAll.set' : ∀ {vs : List V} {ds : List PyData} (n : Nat) {v : V} {d : PyData}, DpAll K H vs ds → Dp K H v d → DpAll K H (vs.set n v) (ds.set n d)
  | _, _, _, _, _, .nil, _ => .nil
  | _, _, 0, _, _, .cons _ t, h => .cons h t
  | _, _, n + 1, _, _, .cons a t, h => .cons a (DpAll.set' n t h)
theorem DpAll.ints : ∀ (ns : List Int), DpAll K H (ns.map V.int) (ns.map PyData.int)
  | [] => .nil
  | n :: ns => .cons (.int n) (DpAll.ints ns)
end

end L2
namespace DL
open PySem PySem.Spec L2
open PyProof.Rows hiding St
/-! ### states -/
inductive SV where
  | dat (d : PyData) | cel (i : Nat) | fn (x : Str)
abbrev Slots := List (Option SV)
structure Sta where
  ds : Slots
  cs : List (List PyData)
section
variable (K : PySem.W.Frag)
def RelS (hs ps : List Addr) (H : Hp) (v : V) : SV → Prop
  | .dat d => Dp K (hid hs H) v d
  | .cel i => ∃ p, ps[i]? = some p ∧ v = .ref p
  | .fn x => ∃ f, v = .ref f ∧ PySem.W.nsIn K mainGlobals x = some (some (.ref f))
structure HR (hs ps : List Addr) (H : Hp) (cs : List (List PyData)) : Prop where
  sub : ∀ p ∈ ps, p ∈ hs
  nd : ps.Nodup
  len : ps.length = cs.length
  trk : ∀ a ∈ hs, H a ≠ none
  cel : ∀ (i : Nat) (p : Addr) (xs : List PyData), ps[i]? = some p → cs[i]? = some xs → ∃ vs, H p = some (.lst vs) ∧ DpAll K (hid hs H) vs xs
structure Rel (hs ps : List Addr) (σ : St) (H : Hp) (st : Sta) : Prop where
  hr : HR K hs ps H st.cs
  len : σ.length = st.ds.length
  slot : ∀ (i : Nat) (x : SV), st.ds[i]? = some (some x) → ∃ v, σ[i]? = some (some v) ∧ RelS K hs ps H v x
end
section
variable {K : PySem.W.Frag} {hs hs' ps ps' : List Addr} {σ : St} {H H' : Hp} {st : Sta} {cs cs' : List (List PyData)}
theorem RelS.up {v : V} {x : SV} (h : RelS K hs ps H v x) (s : Sub (hid hs H) (hid hs' H')) : RelS K hs' ps H' v x := by
  cases x with
  | dat d => exact Dp.up h s
  | cel i => exact h
  | fn y => exact h
theorem Rel.slots (R : Rel K hs ps σ H st) (s : Sub (hid hs H) (hid hs' H')) (q : HR K hs' ps H' cs') : Rel K hs' ps σ H' ⟨st.ds, cs'⟩ :=
  ⟨q, R.len, fun i x e => let ⟨v, h1, h2⟩ := R.slot i x e; ⟨v, h1, h2.up s⟩⟩
/-- a step that changes nothing of the cells -/
theorem HR.step (R : HR K hs ps H cs) (s : Step [] H H') : HR K hs ps H' cs := by
  refine ⟨R.sub, R.nd, R.len, fun a m e => ?_, fun i p xs h1 h2 => ?_⟩
  · cases q : H a with
    | none => exact R.trk a m q
    | some o =>
      rw [s a o (by simp) q] at e
      cases e
  · obtain ⟨vs, q1, q2⟩ := R.cel i p xs h1 h2
    exact ⟨vs, s _ _ (by simp) q1, q2.up ((s.mono (qs := ps) (by simp)).hd0 R.sub)⟩
theorem Rel.step (R : Rel K hs ps σ H st) (s : Step [] H H') : Rel K hs ps σ H' st :=
  R.slots ((s.mono (qs := ps) (by simp)).hd0 R.hr.sub) (R.hr.step s)
/-- fewer addresses are hidden -/
theorem HR.less (R : HR K hs ps H cs) (h : ∀ a ∈ hs', a ∈ hs) (hp : ∀ p ∈ ps, p ∈ hs') : HR K hs' ps H cs := by
  have s : Sub (hid hs H) (hid hs' H) := fun a o e => by
    obtain ⟨n, q⟩ := hid_some e
    rw [hid_out fun m => n (h a m)]; exact q
  exact ⟨hp, R.nd, R.len, fun a m => R.trk a (h a m), fun i p xs h1 h2 => let ⟨vs, q1, q2⟩ := R.cel i p xs h1 h2; ⟨vs, q1, q2.up s⟩⟩
theorem Rel.less (R : Rel K hs ps σ H st) (h : ∀ a ∈ hs', a ∈ hs) (hp : ∀ p ∈ ps, p ∈ hs') : Rel K hs' ps σ H st := by
  have s : Sub (hid hs H) (hid hs' H) := fun a o e => by
    obtain ⟨n, q⟩ := hid_some e
    rw [hid_out fun m => n (h a m)]; exact q
  exact R.slots s (R.hr.less h hp)
/-- more are: new ones -/
theorem Rel.more (R : Rel K hs ps σ H st) {p : Addr} (s : Step [] H H') (hp : H p = none) (hp' : H' p ≠ none) : Rel K (p :: hs) ps σ H' st := by
  have e : ∀ a ∈ p :: hs, a ∉ hs → H a = none := fun a m n => by
    rcases List.mem_cons.mp m with e | m
    · rw [e]; exact hp
    · exact absurd m n
  have s1 := (s.mono (qs := ps) (by simp)).hd (hs' := p :: hs) R.hr.sub e
  have R1 := R.hr.step s
  refine R.slots s1 ⟨fun q m => List.mem_cons_of_mem _ (R.hr.sub q m), R.hr.nd, R.hr.len, fun a m => ?_, fun i q xs h1 h2 => ?_⟩
  · rcases List.mem_cons.mp m with e | m
    · rw [e]; exact hp'
    · exact R1.trk a m
  · obtain ⟨vs, q1, q2⟩ := R.hr.cel i q xs h1 h2
    exact ⟨vs, s _ _ (by simp) q1, q2.up s1⟩
end

/-! ### what readings evaluate to -/
section
variable (K : PySem.W.Frag)
def ED (te : TE) (st : Sta) (d : PyData) (cs' : List (List PyData)) : Prop :=
  ∀ hs ps σ H, Rel K hs ps σ H st → ∀ Q : VK, (∀ v H2, Step ps H H2 → Rel K hs ps σ H2 ⟨st.ds, cs'⟩ → Dp K (hid hs H2) v d → Q v H2) → te σ H Q
def EDT (tt : TT) (st : Sta) (b : Bool) (cs' : List (List PyData)) : Prop :=
  ∀ hs ps σ H, Rel K hs ps σ H st → ∀ Q : Bool → Hp → Prop, (∀ H2, Step ps H H2 → Rel K hs ps σ H2 ⟨st.ds, cs'⟩ → Q b H2) → tt σ H Q
def EDA (ta : TA) (st : Sta) (xs : List SV) (cs' : List (List PyData)) : Prop :=
  ∀ hs ps σ H, Rel K hs ps σ H st → ∀ Q : List V → Hp → Prop, (∀ vs H2, Step ps H H2 → Rel K hs ps σ H2 ⟨st.ds, cs'⟩ → Paired (RelS K hs ps H2) vs xs → Q vs H2) → ta σ H Q
/-- a fresh list -/
def EDL (te : TE) (st : Sta) (xs : List PyData) (cs' : List (List PyData)) : Prop :=
  ∀ hs ps σ H, Rel K hs ps σ H st → ∀ Q : VK, (∀ p vs H2, H p = none → Step ps H H2 → Rel K (p :: hs) ps σ H2 ⟨st.ds, cs'⟩ → H2 p = some (.lst vs) → DpAll K (hid (p :: hs) H2) vs xs → Q (.ref p) H2) → te σ H Q
end
section
variable {K : PySem.W.Frag} {st : Sta} {d x y z : PyData} {cs cs' c1 c2 : List (List PyData)} {ta tb te : TE} {tt tu : TT}
theorem hid_cons_sub {p : Addr} {hs : List Addr} {H : Hp} : Sub (hid (p :: hs) H) (hid hs H) := fun a o e => by
  obtain ⟨n, q⟩ := hid_some e
  rw [hid_out fun m => n (List.mem_cons_of_mem _ m)]; exact q
theorem EDL.ed {xs : List PyData} (h : EDL K te st xs cs') : ED K te st (.list xs) cs' := fun hs ps σ H R Q q => h hs ps σ H R Q fun p vs H2 hp s R2 e a => by
  have hph : p ∉ hs := fun m => R.hr.trk p m hp
  refine q _ H2 s (R2.less (fun a m => List.mem_cons_of_mem _ m) R.hr.sub) ?_
  exact .lst (.inl (.inl (by rw [hid_out hph]; exact e))) (a.up hid_cons_sub)
theorem ed_var {i : Nat} (h : st.ds[i]? = some (some (.dat d))) : ED K (tVar i) st d st.cs := fun hs ps σ H R Q q => by
  obtain ⟨v, h1, h2⟩ := R.slot i _ h
  exact ⟨v, h1, q v H (Step.refl H) R h2⟩
theorem ed_c {v : V} (h : ∀ H, Dp K H v d) : ED K (tC v) st d st.cs := fun hs ps σ H R Q q => q v H (Step.refl H) R (h _)
/-- a two-place operation on data; it may make new things -/
def RD (K : PySem.W.Frag) (r : R2) (x y z : PyData) : Prop := ∀ (hs : List Addr) (H : Hp) (v w : V), (∀ a ∈ hs, H a ≠ none) → Dp K (hid hs H) v x → Dp K (hid hs H) w y →
  ∀ Q : VK, (∀ u H', Step [] H H' → Dp K (hid hs H') u z → Q u H') → r v w H Q
theorem ed_op {r : R2} (ha : ED K ta st x c1) (hb : ED K tb ⟨st.ds, c1⟩ y c2) (hr : RD K r x y z) : ED K (tOp r ta tb) st z c2 := fun hs ps σ H R Q q =>
  ha hs ps σ H R _ fun v H1 s1 R1 d1 => hb hs ps σ H1 R1 _ fun w H2 s2 R2 d2 => hr hs H2 v w R2.hr.trk (d1.up (s2.hd0 R.hr.sub)) d2 Q fun u H3 s3 d3 =>
    q u H3 ((s1.trans s2).trans (s3.mono (by simp))) (R2.step s3) d3
def RU (K : PySem.W.Frag) (r : V → Hp → VK → Prop) (x z : PyData) : Prop := ∀ (hs : List Addr) (H : Hp) (v : V), (∀ a ∈ hs, H a ≠ none) → Dp K (hid hs H) v x →
  ∀ Q : VK, (∀ u H', Step [] H H' → Dp K (hid hs H') u z → Q u H') → r v H Q
theorem ed_un {r : V → Hp → VK → Prop} (ha : ED K ta st x c1) (hr : RU K r x z) : ED K (tUn r ta) st z c1 := fun hs ps σ H R Q q =>
  ha hs ps σ H R _ fun v H1 s1 R1 d1 => hr hs H1 v R1.hr.trk d1 Q fun u H3 s3 d3 => q u H3 (s1.trans (s3.mono (by simp))) (R1.step s3) d3
theorem eda_nil : EDA K tNil st [] st.cs := fun hs ps σ H R Q q => q [] H (Step.refl H) R .nil
theorem Paired.up {hs ps : List Addr} {H H' : Hp} (s : Sub (hid hs H) (hid hs H')) : ∀ {vs : List V} {xs : List SV}, Paired (RelS K hs ps H) vs xs → Paired (RelS K hs ps H') vs xs
  | _, _, .nil => .nil
  | _, _, .cons a t => .cons (a.up s) (Paired.up s t)
theorem eda_cons {tr : TA} {xs : List SV} (ha : ED K ta st x c1) (hr : EDA K tr ⟨st.ds, c1⟩ xs c2) : EDA K (tCons ta tr) st (.dat x :: xs) c2 := fun hs ps σ H R Q q =>
  ha hs ps σ H R _ fun v H1 s1 R1 d1 => hr hs ps σ H1 R1 _ fun vs H2 s2 R2 a2 => q (v :: vs) H2 (s1.trans s2) R2 (.cons (d1.up (s2.hd0 R.hr.sub)) a2)
theorem eda_cel {tr : TA} {xs : List SV} {i k : Nat} (h : st.ds[i]? = some (some (.cel k))) (hr : EDA K tr st xs c2) : EDA K (tCons (tVar i) tr) st (.cel k :: xs) c2 := fun hs ps σ H R Q q => by
  obtain ⟨v, h1, h2⟩ := R.slot i _ h
  exact ⟨v, h1, hr hs ps σ H R _ fun vs H2 s2 R2 a2 => q (v :: vs) H2 s2 R2 (.cons h2 a2)⟩
end
end DL


set_option Elab.async false
set_option linter.all false
set_option maxRecDepth 100000
set_option maxHeartbeats 4000000
namespace DL
open PySem PySem.Spec L2
open PyProof.Rows hiding St

/-! ### the readings that say the least -/
def wE (X : Cx) (e : Expr) : TE := fun σ H Q => ∀ pins s, Inv X pins σ H s → wpAny (model X.prog X.w) X.A (eval e X.env) (EP X pins σ Q) X.xe s
def wT (X : Cx) (e : Expr) : TT := fun σ H Q => ∀ pins s, Inv X pins σ H s → wpAny (model X.prog X.w) X.A (isTrue e X.env (eval e X.env)) (TP X pins σ Q) X.xe s
def wW (X : Cx) (e : Expr) : TT := fun σ H Q => ∀ whole pins s, Inv X pins σ H s → wpAny (model X.prog X.w) X.A (isTrue e X.env whole) (TP X pins σ Q) X.xe s
def wA (X : Cx) (es : List Expr) : TA := fun σ H Q => ∀ pos pins s, Inv X pins σ H s → wpAny (model X.prog X.w) X.A (spliced (backTo pos (starEach es X.env))) (AP X pins σ Q) X.xe s
def wS (X : Cx) (st : Stmt) : TS := fun D σ H => ∀ pins s, Inv X pins σ H s → wpAny (model X.prog X.w) X.A (exec st X.env) (SP X pins D) X.xe s
def wSs (X : Cx) (st : List Stmt) : TS := fun D σ H => ∀ pins s, Inv X pins σ H s → wpAny (model X.prog X.w) X.A (execs st X.env) (SP X pins D) X.xe s
def wI (X : Cx) (tg iter : Expr) : TI := fun σ H R => ∀ pins s, Inv X pins σ H s → wpAny (model X.prog X.w) X.A (eval iter X.env) (fun v s1 => wpAny (model X.prog X.w) X.A (pyIter v) (PIE X pins σ tg R) X.xe s1) X.xe s
section
variable {X : Cx}
theorem pwE (e : Expr) : PE X e (wE X e) := ⟨fun pins s _ _ _ I h => h pins s I⟩
theorem pwT (e : Expr) : PT X e (wT X e) := ⟨fun pins s _ _ _ I h => h pins s I⟩
theorem pwW (e : Expr) : PW X e (wW X e) := ⟨fun w pins s _ _ _ I h => h w pins s I⟩
theorem pwA (es : List Expr) : PA X es (wA X es) := ⟨fun pos pins s _ _ _ I h => h pos pins s I⟩
theorem pwS (st : Stmt) : PS X st (wS X st) := ⟨fun pins s _ _ _ I h => h pins s I⟩
theorem pwSs (st : List Stmt) : PSs X st (wSs X st) := ⟨fun pins s _ _ _ I h => h pins s I⟩
theorem pwI (tg iter : Expr) : PI X tg iter (wI X tg iter) := ⟨fun pins s _ _ _ I h => h pins s I⟩
end

/-! ### what a piece of syntax computes on data -/
abbrev Cs := List (List PyData)
abbrev FE := Sta → Option (PyData × Cs)
abbrev FT := Sta → Option (Bool × Cs)
abbrev FA := Sta → Option (List SV × Cs)
abbrev FL := Sta → Option (List PyData × Cs)
structure RE (X : Cx) (e : Expr) (f : FE) : Prop where
  h : ∀ st d c, f st = some (d, c) → ED X.K (wE X e) st d c
instance (X : Cx) (e : Expr) (f : FE) : CoeFun (RE X e f) (fun _ => ∀ st d c, f st = some (d, c) → ED X.K (wE X e) st d c) := ⟨fun r => r.h⟩
structure RT (X : Cx) (e : Expr) (f : FT) : Prop where
  h : ∀ st d c, f st = some (d, c) → EDT X.K (wT X e) st d c
instance (X : Cx) (e : Expr) (f : FT) : CoeFun (RT X e f) (fun _ => ∀ st d c, f st = some (d, c) → EDT X.K (wT X e) st d c) := ⟨fun r => r.h⟩
structure RW (X : Cx) (e : Expr) (f : FT) : Prop where
  h : ∀ st d c, f st = some (d, c) → EDT X.K (wW X e) st d c
instance (X : Cx) (e : Expr) (f : FT) : CoeFun (RW X e f) (fun _ => ∀ st d c, f st = some (d, c) → EDT X.K (wW X e) st d c) := ⟨fun r => r.h⟩
structure RA (X : Cx) (es : List Expr) (f : FA) : Prop where
  h : ∀ st d c, f st = some (d, c) → EDA X.K (wA X es) st d c
instance (X : Cx) (es : List Expr) (f : FA) : CoeFun (RA X es f) (fun _ => ∀ st d c, f st = some (d, c) → EDA X.K (wA X es) st d c) := ⟨fun r => r.h⟩
structure RL (X : Cx) (e : Expr) (f : FL) : Prop where
  h : ∀ st d c, f st = some (d, c) → EDL X.K (wE X e) st d c
instance (X : Cx) (e : Expr) (f : FL) : CoeFun (RL X e f) (fun _ => ∀ st d c, f st = some (d, c) → EDL X.K (wE X e) st d c) := ⟨fun r => r.h⟩
section
variable {X : Cx} {e : Expr} {st : Sta} {c : Cs}
theorem RE.of {t : TE} {d : PyData} (p : PE X e t) (k : ED X.K t st d c) : ED X.K (wE X e) st d c := fun hs ps σ H R Q q pins s I => p.run pins s σ H Q I (k hs ps σ H R Q q)
theorem RL.of {t : TE} {d : List PyData} (p : PE X e t) (k : EDL X.K t st d c) : EDL X.K (wE X e) st d c := fun hs ps σ H R Q q pins s I => p.run pins s σ H Q I (k hs ps σ H R Q q)
theorem RT.of {t : TT} {d : Bool} (p : PT X e t) (k : EDT X.K t st d c) : EDT X.K (wT X e) st d c := fun hs ps σ H R Q q pins s I => p.run pins s σ H Q I (k hs ps σ H R Q q)
theorem RW.of {t : TT} {d : Bool} (p : PW X e t) (k : EDT X.K t st d c) : EDT X.K (wW X e) st d c := fun hs ps σ H R Q q w pins s I => p.run w pins s σ H Q I (k hs ps σ H R Q q)
theorem RA.of {es : List Expr} {t : TA} {d : List SV} (p : PA X es t) (k : EDA X.K t st d c) : EDA X.K (wA X es) st d c := fun hs ps σ H R Q q pos pins s I => p.run pos pins s σ H Q I (k hs ps σ H R Q q)
end

/-! ### expressions -/
def fVar (i : Nat) : FE := fun st => match st.ds[i]? with
  | some (some (.dat d)) => some (d, st.cs)
  | _ => none
def fLit (d : PyData) : FE := fun st => some (d, st.cs)
def fOp (g : PyData → PyData → Option PyData) (a b : FE) : FE := fun st => (a st).bind fun p => (b ⟨st.ds, p.2⟩).bind fun q => (g p.1 q.1).map fun z => (z, q.2)
def fUn (g : PyData → Option PyData) (a : FE) : FE := fun st => (a st).bind fun p => (g p.1).map fun z => (z, p.2)
def fTup (a : FA) : FE := fun st => (a st).bind fun p => if p.1.length ≤ 100000 then (datsOf p.1).map fun ds => (.tuple ds, p.2) else none
where datsOf : List SV → Option (List PyData)
  | [] => some []
  | .dat d :: r => (datsOf r).map (d :: ·)
  | .cel _ :: _ => none
  | .fn _ :: _ => none
abbrev datsOf := fTup.datsOf
def fLst (a : FA) : FL := fun st => (a st).bind fun p => if p.1.length ≤ 100000 then (datsOf p.1).map fun ds => (ds, p.2) else none
def fNilA : FA := fun st => some ([], st.cs)
def fConsA (a : FE) (r : FA) : FA := fun st => (a st).bind fun p => (r ⟨st.ds, p.2⟩).map fun q => (.dat p.1 :: q.1, q.2)
def fCelA (i : Nat) (r : FA) : FA := fun st => match st.ds[i]? with
  | some (some (.cel k)) => (r st).map fun q => (.cel k :: q.1, q.2)
  | _ => none
def fOfL (a : FL) : FE := fun st => (a st).map fun p => (.list p.1, p.2)
theorem bind_some {α β : Type} {o : Option α} {f : α → Option β} {z : β} (h : o.bind f = some z) : ∃ x, o = some x ∧ f x = some z := Option.bind_eq_some_iff.mp h
theorem map_some {α β : Type} {o : Option α} {f : α → β} {z : β} (h : o.map f = some z) : ∃ x, o = some x ∧ f x = z := Option.map_eq_some_iff.mp h
theorem datsOf_dat : ∀ {xs : List SV} {ds : List PyData}, datsOf xs = some ds → xs = ds.map SV.dat
  | [], ds, h => by
    have h' := Option.some.inj h
    subst h'; rfl
  | .dat d :: r, ds, h => by
    obtain ⟨l, h1, rfl⟩ := map_some (show (datsOf r).map (d :: ·) = some ds from h)
    rw [datsOf_dat h1]; rfl
  | .cel _ :: _, _, h => by cases h
  | .fn _ :: _, _, h => by cases h
theorem paired_dat {K : PySem.W.Frag} {hs ps : List Addr} {H : Hp} : ∀ {ds : List PyData} {vs : List V}, Paired (RelS K hs ps H) vs (ds.map SV.dat) → DpAll K (hid hs H) vs ds
  | [], _, h => by cases h; exact .nil
  | _ :: _, _, h => by
    cases h with
    | cons a t => exact .cons a (paired_dat t)
/-! an argument that is no star -/
section
variable {env : PySem.Env} {es : List Expr}
theorem sn_name {x : Str} {p : Pos} : starEach (.Name x p :: es) env = (false, eval (.Name x p) env) :: starEach es env := rfl
theorem sn_const {c : Const} {j} {p : Pos} : starEach (.Constant c j p :: es) env = (false, eval (.Constant c j p) env) :: starEach es env := rfl
theorem sn_tup {l : List Expr} {j} {p : Pos} : starEach (.Tuple l j p :: es) env = (false, eval (.Tuple l j p) env) :: starEach es env := rfl
theorem sn_list {l : List Expr} {p : Pos} : starEach (.List l p :: es) env = (false, eval (.List l p) env) :: starEach es env := rfl
theorem sn_bin {a b : Expr} {o : Operator} {p : Pos} : starEach (.BinOp a o b p :: es) env = (false, eval (.BinOp a o b p) env) :: starEach es env := rfl
theorem sn_un {a : Expr} {o : UnaryOp} {p : Pos} : starEach (.UnaryOp o a p :: es) env = (false, eval (.UnaryOp o a p) env) :: starEach es env := rfl
theorem sn_bool {l : List Expr} {o : BoolOp} {p : Pos} : starEach (.BoolOp o l p :: es) env = (false, eval (.BoolOp o l p) env) :: starEach es env := rfl
theorem sn_cmp {a : Expr} {o : List CmpOp} {l : List Expr} {p : Pos} : starEach (.Compare a o l p :: es) env = (false, eval (.Compare a o l p) env) :: starEach es env := rfl
theorem sn_call {f : Expr} {l : List Expr} {k : List Keyword} {p : Pos} : starEach (.Call f l k p :: es) env = (false, eval (.Call f l k p) env) :: starEach es env := rfl
theorem sn_sub {a b : Expr} {p : Pos} : starEach (.Subscript a b p :: es) env = (false, eval (.Subscript a b p) env) :: starEach es env := rfl
theorem sn_if {a b c : Expr} {p : Pos} : starEach (.IfExp a b c p :: es) env = (false, eval (.IfExp a b c p) env) :: starEach es env := rfl
theorem sn_attr {a : Expr} {x : Str} {p : Pos} : starEach (.Attribute a x p :: es) env = (false, eval (.Attribute a x p) env) :: starEach es env := rfl
theorem sn_lc {a : Expr} {l : List Comprehension} {sc : Scope} {p : Pos} : starEach (.ListComp a l sc p :: es) env = (false, eval (.ListComp a l sc p) env) :: starEach es env := rfl
end
section
variable {X : Cx} {a b e : Expr} {es : List Expr} {pos : Pos} {fa fb : FE} {f : FA}
theorem re_var {i : Nat} {x : Str} (hN : X.N[i]? = some x) (hv : Vis X.env.scope x) (hd : (x == ("__debug__" : Str)) = false := by decide) (hcd : (x == ("__classdict__" : Str)) = false := by decide) : RE X (.Name x pos) (fVar i) := .mk fun st d c h => by
  unfold fVar at h
  split at h
  · rename_i d' e'
    cases h
    exact RE.of (pe_var hN hv hd hcd) (ed_var e')
  · cases h
theorem re_int {i : Int} {j} : RE X (.Constant (.int i) j pos) (fLit (.int i)) := .mk fun st d c h => by
  cases h; exact RE.of pe_int (ed_c fun _ => .int i)
theorem re_bl {i : Bool} {j} : RE X (.Constant (.bool i) j pos) (fLit (.bool i)) := .mk fun st d c h => by
  cases h; exact RE.of pe_bl (ed_c fun _ => .bl i)
theorem re_non {j} : RE X (.Constant .none j pos) (fLit .none) := .mk fun st d c h => by
  cases h; exact RE.of pe_non (ed_c fun _ => .non)
theorem re_str {i : Str} {j} : RE X (.Constant (.str i) j pos) (fLit (.str i)) := .mk fun st d c h => by
  cases h; exact RE.of pe_str (ed_c fun _ => .str i)
/-- a module's constant that stands in the written part -/
theorem re_glob {x : Str} {v : V} {u : Value} {d : PyData} (hg : Gl X x) (hm : X.mg x = some u) (r : RelV v u) (hd : ∀ H, Dp X.K H v d) (hdb : (x == ("__debug__" : Str)) = false := by decide) : RE X (.Name x pos) (fLit d) := .mk fun st d c h => by
  cases h; exact RE.of (pe_glob hg hm r hdb) (ed_c hd)
theorem re_op {op : Operator} {r : R2} {g : PyData → PyData → Option PyData} (ho : OpR X (binaryOp op) r) (hr : ∀ x y z, g x y = some z → RD X.K r x y z) (ha : RE X a fa) (hb : RE X b fb) : RE X (.BinOp a op b pos) (fOp g fa fb) := .mk fun st d c h => by
  obtain ⟨⟨x, c1⟩, h1, h⟩ := bind_some h
  obtain ⟨⟨y, c2⟩, h2, h⟩ := bind_some h
  obtain ⟨z, h3, e⟩ := map_some h
  cases e
  exact RE.of (pe_op ho (pwE a) (pwE b)) (ed_op (ha _ _ _ h1) (hb _ _ _ h2) (hr _ _ _ h3))
theorem re_cmp {op : CmpOp} {r : R2} {g : PyData → PyData → Option PyData} (ho : OpR X (compareOp op) r) (hr : ∀ x y z, g x y = some z → RD X.K r x y z) (ha : RE X a fa) (hb : RE X b fb) (hm : behindInMarks op b = false) : RE X (.Compare a [op] [b] pos) (fOp g fa fb) := .mk fun st d c h => by
  obtain ⟨⟨x, c1⟩, h1, h⟩ := bind_some h
  obtain ⟨⟨y, c2⟩, h2, h⟩ := bind_some h
  obtain ⟨z, h3, e⟩ := map_some h
  cases e
  exact RE.of (pe_cmpR ho (pwE a) (pwE b) hm) (ed_op (ha _ _ _ h1) (hb _ _ _ h2) (hr _ _ _ h3))
theorem re_un {op : UnaryOp} {r : V → Hp → VK → Prop} {g : PyData → Option PyData} (ho : UnR X (unaryOp op) r) (hr : ∀ x z, g x = some z → RU X.K r x z) (ha : RE X a fa) : RE X (.UnaryOp op a pos) (fUn g fa) := .mk fun st d c h => by
  obtain ⟨⟨x, c1⟩, h1, h⟩ := bind_some h
  obtain ⟨z, h3, e⟩ := map_some h
  cases e
  exact RE.of (pe_un ho (pwE a)) (ed_un (ha _ _ _ h1) (hr _ _ h3))
theorem ra_nil : RA X [] fNilA := .mk fun st d c h => by
  cases h; exact RA.of pa_nil eda_nil
theorem ra_cons (ha : RE X e fa) (hr : RA X es f) (hs : starEach (e :: es) X.env = (false, eval e X.env) :: starEach es X.env := by with_reducible first | exact sn_name | exact sn_const | exact sn_tup | exact sn_list | exact sn_bin | exact sn_un | exact sn_bool | exact sn_cmp | exact sn_call | exact sn_sub | exact sn_if | exact sn_attr | exact sn_lc) : RA X (e :: es) (fConsA fa f) := .mk fun st d c h => by
  obtain ⟨⟨x, c1⟩, h1, h⟩ := bind_some h
  obtain ⟨⟨xs, c2⟩, h2, e⟩ := map_some h
  cases e
  exact RA.of (pa_cons (pwE e) (pwA es) hs) (eda_cons (ha _ _ _ h1) (hr _ _ _ h2))
theorem ra_cel {i : Nat} {x : Str} (hN : X.N[i]? = some x) (hv : Vis X.env.scope x) (hr : RA X es f) (hd : (x == ("__debug__" : Str)) = false := by decide) (hcd : (x == ("__classdict__" : Str)) = false := by decide)
    (hs : starEach (.Name x pos :: es) X.env = (false, eval (.Name x pos) X.env) :: starEach es X.env := by rfl) : RA X (.Name x pos :: es) (fCelA i f) := .mk fun st d c h => by
  unfold fCelA at h
  split at h
  · rename_i k e'
    obtain ⟨⟨xs, c2⟩, h2, e⟩ := map_some h
    cases e
    exact RA.of (pa_cons (pe_var hN hv hd hcd) (pwA es) hs) (eda_cel e' (hr _ _ _ h2))
  · cases h
theorem re_tup {x1} (ha : RA X es f) : RE X (.Tuple es x1 pos) (fTup f) := .mk fun st d c h => by
  obtain ⟨⟨xs, c1⟩, h1, h⟩ := bind_some h
  simp only at h
  split at h
  · rename_i hl
    obtain ⟨ds, h2, e⟩ := map_some h
    cases e
    refine RE.of (pe_tup (pwA es)) fun hs ps σ H R Q q => ha _ _ _ h1 hs ps σ H R _ fun vs H2 s2 R2 p2 => ?_
    rw [datsOf_dat h2] at p2 hl
    have dd := paired_dat p2
    refine ⟨Nat.le_trans (by rw [dd.len]; simpa using hl) (by decide : 100000 ≤ sizeLine), fun p hp => ?_⟩
    have s3 : Step [] H2 (upd H2 p (.tup vs)) := Step.new hp
    have hph : p ∉ hs := fun m => R2.hr.trk p m hp
    exact q _ _ (s2.trans (s3.mono (by simp))) (R2.step s3) (.tup (.inl (.inl (by rw [hid_out hph]; exact upd_same))) (dd.up (s3.hd0 (by simp))))
  · cases h
theorem rl_lst (ha : RA X es f) : RL X (.List es pos) (fLst f) := .mk fun st d c h => by
  obtain ⟨⟨xs, c1⟩, h1, h⟩ := bind_some h
  simp only at h
  split at h
  · rename_i hl
    obtain ⟨ds, h2, e⟩ := map_some h
    cases e
    refine RL.of (pe_lst (pwA es)) fun hs ps σ H R Q q => ha _ _ _ h1 hs ps σ H R _ fun vs H2 s2 R2 p2 => ?_
    rw [datsOf_dat h2] at p2 hl
    have dd := paired_dat p2
    refine ⟨Nat.le_trans (by rw [dd.len]; simpa using hl) (by decide : 100000 ≤ sizeLine), fun p hp => ?_⟩
    have s3 : Step [] H2 (upd H2 p (.lst vs)) := Step.new hp
    have hp0 : H p = none := by
      cases hq : H p with
      | none => rfl
      | some o =>
        by_cases m : p ∈ ps
        · exact absurd hp (R2.hr.trk p (R2.hr.sub p m))
        · rw [s2 p o m hq] at hp; cases hp
    have e3 : ∀ a ∈ p :: hs, a ∉ hs → H2 a = none := fun a m n => by
      rcases List.mem_cons.mp m with e | m
      · rw [e]; exact hp
      · exact absurd m n
    exact q p vs _ hp0 (s2.trans (s3.mono (by simp))) (R2.more s3 hp (by rw [upd_same]; simp)) upd_same (dd.up ((s3.mono (qs := []) (by simp)).hd (by simp) e3))
  · cases h
theorem re_ofL {g : FL} (h : RL X e g) : RE X e (fOfL g) := .mk fun st d c hq => by
  obtain ⟨⟨xs, c1⟩, h1, e⟩ := map_some hq
  cases e
  exact (h _ _ _ h1).ed
end

/-! ### tests, and, or, not, if -/
def fTru (a : FE) : FT := fun st => (a st).bind fun p => match p.1 with
  | .bool b => some (b, p.2)
  | _ => none
def fAndT (a b : FT) : FT := fun st => (a st).bind fun p => if p.1 = true then b ⟨st.ds, p.2⟩ else some (false, p.2)
def fOrT (a b : FT) : FT := fun st => (a st).bind fun p => if p.1 = true then some (true, p.2) else b ⟨st.ds, p.2⟩
def fNotT (a : FT) : FT := fun st => (a st).map fun p => (!p.1, p.2)
def fAndV (a b : FE) : FE := fun st => (a st).bind fun p => match p.1 with
  | .bool c => if c = true then b ⟨st.ds, p.2⟩ else some (.bool false, p.2)
  | _ => none
def fOrV (a b : FE) : FE := fun st => (a st).bind fun p => match p.1 with
  | .bool c => if c = true then some (.bool true, p.2) else b ⟨st.ds, p.2⟩
  | _ => none
def fNotV (a : FE) : FE := fun st => (a st).bind fun p => match p.1 with
  | .bool c => some (.bool (!c), p.2)
  | _ => none
def fIf (t : FT) (a b : FE) : FE := fun st => (t st).bind fun p => if p.1 = true then a ⟨st.ds, p.2⟩ else b ⟨st.ds, p.2⟩
section
variable {X : Cx} {a b e : Expr} {rest : List Expr} {pos : Pos} {fa fb : FE} {f g : FT}
theorem dp_bool {K : PySem.W.Frag} {H : Hp} {v : V} {b : Bool} (h : Dp K H v (.bool b)) : v = .bl b := by cases h; rfl
theorem dp_int {K : PySem.W.Frag} {H : Hp} {v : V} {b : Int} (h : Dp K H v (.int b)) : v = .int b := by cases h; rfl
theorem rt_val (ha : RE X a fa) (he : ∀ whole, isTrue a X.env whole = (do let v ← whole; standAt a.pos; holding [v] (truthy v)) := by intro _; rfl) : RT X a (fTru fa) := .mk fun st d c h => by
  obtain ⟨⟨x, c1⟩, h1, h⟩ := bind_some h
  simp only at h
  split at h
  · cases h
    exact RT.of (pt_val (pwE a) he) fun hs ps σ H R Q q => ha _ _ _ h1 hs ps σ H R _ fun v H2 s2 R2 d2 => ⟨_, dp_bool d2, q H2 s2 R2⟩
  · cases h
theorem rt_w (h : RW X a f) : RT X a f := .mk fun st d c hq => RT.of (PW.pt (pwW a)) (h _ _ _ hq)
theorem rw_and1 (h : RT X a f) : RW X (.BoolOp .And [a] pos) f := .mk fun st d c hq => RW.of (pw_and1 (pwT a)) (h _ _ _ hq)
theorem rw_or1 (h : RT X a f) : RW X (.BoolOp .Or [a] pos) f := .mk fun st d c hq => RW.of (pw_or1 (pwT a)) (h _ _ _ hq)
theorem rw_and (ha : RT X a f) (hb : RW X (.BoolOp .And (b :: rest) pos) g) : RW X (.BoolOp .And (a :: b :: rest) pos) (fAndT f g) := .mk fun st d c h => by
  obtain ⟨⟨x, c1⟩, h1, h⟩ := bind_some h
  refine RW.of (pw_and (pwT a) (pwW _)) fun hs ps σ H R Q q => ha _ _ _ h1 hs ps σ H R _ fun H2 s2 R2 => ?_
  simp only at h
  cases x with
  | true =>
    rw [if_pos rfl] at h ⊢
    exact hb _ _ _ h hs ps σ H2 R2 _ fun H3 s3 R3 => q H3 (s2.trans s3) R3
  | false =>
    rw [if_neg (by decide)] at h ⊢
    cases h
    exact q H2 s2 R2
theorem rw_or (ha : RT X a f) (hb : RW X (.BoolOp .Or (b :: rest) pos) g) : RW X (.BoolOp .Or (a :: b :: rest) pos) (fOrT f g) := .mk fun st d c h => by
  obtain ⟨⟨x, c1⟩, h1, h⟩ := bind_some h
  refine RW.of (pw_or (pwT a) (pwW _)) fun hs ps σ H R Q q => ha _ _ _ h1 hs ps σ H R _ fun H2 s2 R2 => ?_
  simp only at h
  cases x with
  | true =>
    rw [if_pos rfl] at h ⊢
    cases h
    exact q H2 s2 R2
  | false =>
    rw [if_neg (by decide)] at h ⊢
    exact hb _ _ _ h hs ps σ H2 R2 _ fun H3 s3 R3 => q H3 (s2.trans s3) R3
theorem rt_not (h : RT X a f) : RT X (.UnaryOp .Not a pos) (fNotT f) := .mk fun st d c hq => by
  obtain ⟨⟨x, c1⟩, h1, e⟩ := map_some hq
  cases e
  exact RT.of (pt_not (pwT a)) fun hs ps σ H R Q q => h _ _ _ h1 hs ps σ H R _ fun H2 s2 R2 => q H2 s2 R2
theorem re_one {op} (h : RE X a fa) : RE X (.BoolOp op [a] pos) fa := .mk fun st d c hq => RE.of (pe_one (pwE a)) (h _ _ _ hq)
theorem re_and (ha : RE X a fa) (hb : RE X (.BoolOp .And (b :: rest) pos) fb) : RE X (.BoolOp .And (a :: b :: rest) pos) (fAndV fa fb) := .mk fun st d c h => by
  obtain ⟨⟨x, c1⟩, h1, h⟩ := bind_some h
  simp only at h
  split at h
  · rename_i _ k
    refine RE.of (pe_and (pwE a) (pwE _)) fun hs ps σ H R Q q => ha _ _ _ h1 hs ps σ H R _ fun v H2 s2 R2 d2 => ⟨_, dp_bool d2, ?_⟩
    cases k with
    | true =>
      rw [if_pos rfl] at h ⊢
      exact hb _ _ _ h hs ps σ H2 R2 _ fun w H3 s3 R3 d3 => q w H3 (s2.trans s3) R3 d3
    | false =>
      rw [if_neg (by decide)] at h ⊢
      cases h
      exact q _ H2 s2 R2 (.bl _)
  · cases h
theorem re_or (ha : RE X a fa) (hb : RE X (.BoolOp .Or (b :: rest) pos) fb) : RE X (.BoolOp .Or (a :: b :: rest) pos) (fOrV fa fb) := .mk fun st d c h => by
  obtain ⟨⟨x, c1⟩, h1, h⟩ := bind_some h
  simp only at h
  split at h
  · rename_i _ k
    refine RE.of (pe_or (pwE a) (pwE _)) fun hs ps σ H R Q q => ha _ _ _ h1 hs ps σ H R _ fun v H2 s2 R2 d2 => ⟨_, dp_bool d2, ?_⟩
    cases k with
    | true =>
      rw [if_pos rfl] at h ⊢
      cases h
      exact q _ H2 s2 R2 (.bl _)
    | false =>
      rw [if_neg (by decide)] at h ⊢
      exact hb _ _ _ h hs ps σ H2 R2 _ fun w H3 s3 R3 d3 => q w H3 (s2.trans s3) R3 d3
  · cases h
theorem re_not (ha : RE X a fa) : RE X (.UnaryOp .Not a pos) (fNotV fa) := .mk fun st d c h => by
  obtain ⟨⟨x, c1⟩, h1, h⟩ := bind_some h
  simp only at h
  split at h
  · rename_i _ k
    cases h
    exact RE.of (pe_not (pwE a)) fun hs ps σ H R Q q => ha _ _ _ h1 hs ps σ H R _ fun v H2 s2 R2 d2 => ⟨_, dp_bool d2, q _ H2 s2 R2 (.bl _)⟩
  · cases h
theorem re_if {cc : Expr} (hc : RT X cc f) (ha : RE X a fa) (hb : RE X b fb) : RE X (.IfExp cc a b pos) (fIf f fa fb) := .mk fun st d c h => by
  obtain ⟨⟨x, c1⟩, h1, h⟩ := bind_some h
  refine RE.of (pe_ifExp (pwT cc) (pwE a) (pwE b)) fun hs ps σ H R Q q => hc _ _ _ h1 hs ps σ H R _ fun H2 s2 R2 => ?_
  simp only at h
  cases x with
  | true =>
    rw [if_pos rfl] at h ⊢
    exact ha _ _ _ h hs ps σ H2 R2 _ fun w H3 s3 R3 d3 => q w H3 (s2.trans s3) R3 d3
  | false =>
    rw [if_neg (by decide)] at h ⊢
    exact hb _ _ _ h hs ps σ H2 R2 _ fun w H3 s3 R3 d3 => q w H3 (s2.trans s3) R3 d3
end
end DL


set_option Elab.async false
set_option linter.all false
set_option maxRecDepth 100000
set_option maxHeartbeats 4000000
namespace DL
open PySem PySem.Spec L2
open PyProof.Rows hiding St

/-! ### operators on data -/
section
variable {X : Cx}
theorem OpR.or {f : Value → Value → Sem Value} {r r' : R2} (h : OpR X f r) (h' : OpR X f r') : OpR X f (fun x y H Q => r x y H Q ∨ r' x y H Q) := by
  intro pins s σ H x y v u Q I rx ry q
  rcases q with q | q
  · exact h pins s σ H x y v u Q I rx ry q
  · exact h' pins s σ H x y v u Q I rx ry q
/-- + of two lists that are read -/
def rCatS (K : PySem.W.Frag) : R2 := fun x y H Q => ∃ l b xs zs, x = .ref l ∧ y = .ref b ∧ SqL K H l xs ∧ SqL K H b zs ∧ xs.length + zs.length ≤ sizeLine ∧ ∀ p, H p = none → Q (.ref p) (upd H p (.lst (xs ++ zs)))
theorem op_catS : OpR X (binaryOp .Add) (rCatS X.K) := by
  intro pins s σ H x y v u Q I rx ry h
  obtain ⟨l, b, xs, zs, rfl, rfl, hH, hB, hz, q⟩ := h
  cases rx
  cases ry
  obtain ⟨its, r, ⟨⟨cls, dd, data, sl⟩, n1, e1, c1, d1, k1⟩, z⟩ := I.list hH
  obtain ⟨its2, r2, ⟨⟨cls2, dd2, data2, sl2⟩, n2, e2, c2, d2, k2⟩, z2⟩ := I.list hB
  simp only at c1 d1 k1 c2 d2 k2
  subst c1 d1 k1 c2 d2 k2
  have h1 := r.length
  have h2 := r2.length
  have ea : its.toArray ++ its2.toArray = (its ++ its2).toArray := by simp
  refine concat_meets ⟨_, e1, rfl⟩ ⟨_, e2, rfl⟩ noFill_list_add seq_list_add PySem.F.slot_list_add PySem.F.entry_list_add (PySem.F.args_list_add_2 _ _) (list_addW l b its.toArray its2.toArray n1 n2 none none sl sl2 (by simp only [List.size_toArray]; omega)) ⟨e1, e2, ?_⟩
  rw [ea]
  exact ⟨.ref _, _, I.lnew (t' := s.toks) (r.append r2) (by rw [List.length_append]; omega), rfl, q _ I.fresh⟩
end
abbrev LIM : Nat := 100000
def mulOk (i j : Int) : Bool := decide (i.natAbs.log2 + j.natAbs.log2 < 1000000)
def divOk (i j : Int) : Bool := decide (0 < j ∧ j.natAbs.log2 < 9000)
def powOk (i j : Int) : Bool := decide (0 ≤ j ∧ j ≤ 1000000 ∧ i.natAbs < 2 ^ 64)
def gAdd : PyData → PyData → Option PyData
  | .int i, .int j => some (.int (i + j))
  | _, _ => none
def gCat : PyData → PyData → Option PyData
  | .list xs, .list ys => if xs.length + ys.length ≤ LIM then some (.list (xs ++ ys)) else none
  | _, _ => none
def gSub : PyData → PyData → Option PyData
  | .int i, .int j => some (.int (i - j))
  | _, _ => none
def gMul : PyData → PyData → Option PyData
  | .int i, .int j => if mulOk i j = true then some (.int (i * j)) else none
  | _, _ => none
def gDiv : PyData → PyData → Option PyData
  | .int i, .int j => if divOk i j = true then some (.int (i / j)) else none
  | _, _ => none
def gMod : PyData → PyData → Option PyData
  | .int i, .int j => if 0 < j then some (.int (i % j)) else none
  | _, _ => none
def gPow : PyData → PyData → Option PyData
  | .int i, .int j => if powOk i j = true then some (.int (i ^ j.toNat)) else none
  | _, _ => none
def gNeg : PyData → Option PyData
  | .int i => some (.int (-i))
  | _ => none
def gCmp (p : Int → Int → Bool) : PyData → PyData → Option PyData
  | .int i, .int j => some (.bool (p i j))
  | _, _ => none
def gEq (x y : PyData) : Option PyData := if SeqAt.shaped x = true ∧ SeqAt.shaped y = true then some (.bool (PyData.eqv x y)) else none
def gNe (x y : PyData) : Option PyData := if SeqAt.shaped x = true ∧ SeqAt.shaped y = true then some (.bool (!PyData.eqv x y)) else none
def isNone : PyData → Bool
  | .none => true
  | _ => false
def gIsN (x y : PyData) : Option PyData := if isNone y = true then some (.bool (isNone x)) else none
def gNotN (x y : PyData) : Option PyData := if isNone y = true then some (.bool (!isNone x)) else none
section
variable {X : Cx} {K : PySem.W.Frag} {a b e : Expr} {pos : Pos} {fa fb : FE} {H : Hp}
theorem rd_int {C : Int → Int → Prop} {f : Int → Int → V} {i j : Int} {z : PyData} (hc : C i j) (hz : ∀ H, Dp K H (f i j) z) : RD K (rI C f) (.int i) (.int j) z := fun hs H v w _ h1 h2 Q q =>
  ⟨i, j, dp_int h1, dp_int h2, hc, q _ H (Step.refl H) (hz _)⟩
theorem rd_int0 {f : Int → Int → V} {i j : Int} {z : PyData} (hz : ∀ H, Dp K H (f i j) z) : RD K (rI0 f) (.int i) (.int j) z := fun hs H v w _ h1 h2 Q q =>
  ⟨i, j, dp_int h1, dp_int h2, q _ H (Step.refl H) (hz _)⟩
theorem dp_list {v : V} {ds : List PyData} (h : Dp K H v (.list ds)) : ∃ p xs, v = .ref p ∧ SqL K H p xs ∧ DpAll K H xs ds := by
  cases h with
  | lst a b => exact ⟨_, _, rfl, a, b⟩
theorem dp_tuple {v : V} {ds : List PyData} (h : Dp K H v (.tuple ds)) : ∃ p xs, v = .ref p ∧ SqT K H p xs ∧ DpAll K H xs ds := by
  cases h with
  | tup a b => exact ⟨_, _, rfl, a, b⟩
theorem dp_non {v : V} (h : Dp K H v .none) : v = .non := by cases h; rfl
theorem dp_str {v : V} {z : Str} (h : Dp K H v (.str z)) : v = .str z := by cases h; rfl
theorem lim_ok {n : Nat} (h : n ≤ LIM) : n ≤ sizeLine := Nat.le_trans h (by decide)
theorem re_add (ha : RE X a fa) (hb : RE X b fb) : RE X (.BinOp a .Add b pos) (fOp gAdd fa fb) := re_op op_add (fun x y z h => by
  unfold gAdd at h
  split at h <;> cases h
  exact rd_int0 fun _ => .int _) ha hb
theorem re_sub (ha : RE X a fa) (hb : RE X b fb) : RE X (.BinOp a .Sub b pos) (fOp gSub fa fb) := re_op op_sub (fun x y z h => by
  unfold gSub at h
  split at h <;> cases h
  exact rd_int0 fun _ => .int _) ha hb
theorem re_mul (ha : RE X a fa) (hb : RE X b fb) : RE X (.BinOp a .Mult b pos) (fOp gMul fa fb) := re_op op_mulW (fun x y z h => by
  unfold gMul at h
  split at h
  · split at h <;> cases h
    rename_i hm
    exact rd_int (by first | simpa [mulOk, CMulW] using hm | simpa [divOk, CDivW] using hm | simpa [powOk, CPow] using hm) fun _ => .int _
  · cases h) ha hb
theorem re_div (ha : RE X a fa) (hb : RE X b fb) : RE X (.BinOp a .FloorDiv b pos) (fOp gDiv fa fb) := re_op op_fdivW (fun x y z h => by
  unfold gDiv at h
  split at h
  · split at h <;> cases h
    rename_i hm
    exact rd_int (by first | simpa [mulOk, CMulW] using hm | simpa [divOk, CDivW] using hm | simpa [powOk, CPow] using hm) fun _ => .int _
  · cases h) ha hb
theorem re_mod (ha : RE X a fa) (hb : RE X b fb) : RE X (.BinOp a .Mod b pos) (fOp gMod fa fb) := re_op op_mod (fun x y z h => by
  unfold gMod at h
  split at h
  · split at h <;> cases h
    rename_i hm
    exact rd_int hm fun _ => .int _
  · cases h) ha hb
theorem re_pow (ha : RE X a fa) (hb : RE X b fb) : RE X (.BinOp a .Pow b pos) (fOp gPow fa fb) := re_op op_pow (fun x y z h => by
  unfold gPow at h
  split at h
  · split at h <;> cases h
    rename_i hm
    exact rd_int (by first | simpa [mulOk, CMulW] using hm | simpa [divOk, CDivW] using hm | simpa [powOk, CPow] using hm) fun _ => .int _
  · cases h) ha hb
theorem re_neg (ha : RE X a fa) : RE X (.UnaryOp .USub a pos) (fUn gNeg fa) := re_un un_neg (fun x z h => by
  unfold gNeg at h
  split at h <;> cases h
  exact fun hs H v _ h1 Q q => ⟨_, dp_int h1, q _ H (Step.refl H) (.int _)⟩) ha
theorem re_cat (ha : RE X a fa) (hb : RE X b fb) : RE X (.BinOp a .Add b pos) (fOp gCat fa fb) := re_op op_catS (fun x y z h => by
  unfold gCat at h
  split at h
  · split at h <;> cases h
    rename_i xs ys hl
    intro hs H v w ht h1 h2 Q q
    obtain ⟨p, vs, rfl, hp, da⟩ := dp_list h1
    obtain ⟨p2, ws, rfl, hp2, db⟩ := dp_list h2
    refine ⟨p, p2, vs, ws, rfl, rfl, sqL_mono hid_sub hp, sqL_mono hid_sub hp2, lim_ok (by rw [da.len, db.len]; exact hl), fun t ht' => ?_⟩
    have s3 : Step [] H (upd H t (.lst (vs ++ ws))) := Step.new ht'
    have hph : t ∉ hs := fun m => ht t m ht'
    exact q _ _ s3 (.lst (.inl (.inl (by rw [hid_out hph]; exact upd_same))) ((da.app db).up (s3.hd0 (by simp))))
  · cases h) ha hb
theorem rd_cmp {f : Int → Int → Bool} {x y z : PyData} (h : gCmp f x y = some z) : RD K (rI0 fun i j => .bl (f i j)) x y z := by
  unfold gCmp at h
  split at h <;> cases h
  exact rd_int0 fun _ => .bl _
theorem re_lt (ha : RE X a fa) (hb : RE X b fb) : RE X (.Compare a [.Lt] [b] pos) (fOp (gCmp fun i j => decide (i < j)) fa fb) := re_cmp op_lt (fun _ _ _ h => rd_cmp h) ha hb (nomark _)
theorem re_le (ha : RE X a fa) (hb : RE X b fb) : RE X (.Compare a [.LtE] [b] pos) (fOp (gCmp fun i j => decide (i ≤ j)) fa fb) := re_cmp op_le (fun _ _ _ h => rd_cmp h) ha hb (nomark _)
theorem re_gt (ha : RE X a fa) (hb : RE X b fb) : RE X (.Compare a [.Gt] [b] pos) (fOp (gCmp fun i j => decide (j < i)) fa fb) := re_cmp op_gt (fun _ _ _ h => rd_cmp h) ha hb (nomark _)
theorem re_ge (ha : RE X a fa) (hb : RE X b fb) : RE X (.Compare a [.GtE] [b] pos) (fOp (gCmp fun i j => decide (j ≤ i)) fa fb) := re_cmp op_ge (fun _ _ _ h => rd_cmp h) ha hb (nomark _)
theorem re_eq (hu : X.A.units + 64 < cLine) (ha : RE X a fa) (hb : RE X b fb) : RE X (.Compare a [.Eq] [b] pos) (fOp gEq fa fb) := re_cmp (op_eqD hu) (fun x y z h => by
  unfold gEq at h
  split at h <;> cases h
  rename_i hs
  exact fun _ H v w _ h1 h2 Q q => ⟨x, y, h1.up hid_sub, h2.up hid_sub, hs.1, hs.2, q _ H (Step.refl H) (.bl _)⟩) ha hb (nomark _)
theorem re_ne (hu : X.A.units + 64 < cLine) (ha : RE X a fa) (hb : RE X b fb) : RE X (.Compare a [.NotEq] [b] pos) (fOp gNe fa fb) := re_cmp (op_neD hu) (fun x y z h => by
  unfold gNe at h
  split at h <;> cases h
  rename_i hs
  exact fun _ H v w _ h1 h2 Q q => ⟨x, y, h1.up hid_sub, h2.up hid_sub, hs.1, hs.2, q _ H (Step.refl H) (.bl _)⟩) ha hb (nomark _)
theorem isNone_dp {v : V} {x : PyData} (h : Dp K H v x) : decide (v = .non) = isNone x := by cases h <;> rfl
theorem isNone_eq {y : PyData} (h : isNone y = true) : y = .none := by cases y <;> first | rfl | cases h
theorem re_isN (ha : RE X a fa) (hb : RE X b fb) (hm : behindInMarks .Is b = false := by exact nomark _) : RE X (.Compare a [.Is] [b] pos) (fOp gIsN fa fb) := re_cmp op_isN (fun x y z h => by
  unfold gIsN at h
  split at h <;> cases h
  rename_i hs
  cases isNone_eq hs
  exact fun _ H v w _ h1 h2 Q q => ⟨dp_non h2, q _ H (Step.refl H) (by rw [isNone_dp h1]; exact .bl _)⟩) ha hb hm
theorem re_notN (ha : RE X a fa) (hb : RE X b fb) (hm : behindInMarks .IsNot b = false := by exact nomark _) : RE X (.Compare a [.IsNot] [b] pos) (fOp gNotN fa fb) := re_cmp op_notN (fun x y z h => by
  unfold gNotN at h
  split at h <;> cases h
  rename_i hs
  cases isNone_eq hs
  exact fun _ H v w _ h1 h2 Q q => ⟨dp_non h2, q _ H (Step.refl H) (by rw [isNone_dp h1]; exact .bl _)⟩) ha hb hm

/-! ### subscripts -/
def gIx : PyData → PyData → Option PyData
  | .list xs, .int i => atI xs i
  | .tuple xs, .int i => atI xs i
  | _, _ => none
theorem atI_dp {vs : List V} {ds : List PyData} {i : Int} {d : PyData} (h : DpAll K H vs ds) (e : atI ds i = some d) : ∃ v, atI vs i = some v ∧ Dp K H v d := by
  unfold atI at e ⊢
  rw [h.len]
  obtain ⟨j, e1, e2⟩ := Option.bind_eq_some_iff.mp e
  obtain ⟨v, h1, h2⟩ := h.get e2
  exact ⟨v, by rw [e1]; exact h1, h2⟩
theorem rd_ix {x y z : PyData} (h3 : gIx x y = some z) : RD K (rIx K) x y z := by
  unfold gIx at h3
  split at h3
  · intro hs H v w _ d1 d2 Q q
    obtain ⟨p, vs, rfl, hp, da⟩ := dp_list d1
    cases dp_int d2
    obtain ⟨u, e1, e2⟩ := atI_dp da h3
    exact .inl ⟨p, vs, _, u, rfl, rfl, sqL_mono hid_sub hp, e1, q _ H (Step.refl H) e2⟩
  · intro hs H v w _ d1 d2 Q q
    obtain ⟨p, vs, rfl, hp, da⟩ := dp_tuple d1
    cases dp_int d2
    obtain ⟨u, e1, e2⟩ := atI_dp da h3
    exact .inr (.inl ⟨p, vs, _, u, rfl, rfl, sqT_mono hid_sub hp, e1, q _ H (Step.refl H) e2⟩)
  · cases h3
theorem re_ix (ha : RE X a fa) (hb : RE X b fb) (hs : PlainIx b := by exact fun _ _ => rfl) : RE X (.Subscript a b pos) (fOp gIx fa fb) := .mk fun st d c h => by
  obtain ⟨⟨x, c1⟩, h1, h⟩ := bind_some h
  obtain ⟨⟨y, c2⟩, h2, h⟩ := bind_some h
  obtain ⟨z, h3, e⟩ := map_some h
  cases e
  exact RE.of (pe_ix ix_seq (pwE a) (pwE b) hs) (ed_op (ha _ _ _ h1) (hb _ _ _ h2) (rd_ix h3))
/-- x[k], x a list of one's own -/
def fCix (i : Nat) (b : FE) : FE := fun st => (b st).bind fun q => match st.ds[i]? with
  | some (some (.cel k)) => match q.2[k]?, q.1 with
    | some xs, .int j => (atI xs j).map fun z => (z, q.2)
    | _, _ => none
  | _ => none
theorem re_cix {i : Nat} {x : Str} {p0 : Pos} (hN : X.N[i]? = some x) (hv : Vis X.env.scope x) (hb : RE X b fb) (hd : (x == ("__debug__" : Str)) = false := by decide) (hcd : (x == ("__classdict__" : Str)) = false := by decide)
    (hs : PlainIx b := by exact fun _ _ => rfl) : RE X (.Subscript (.Name x p0) b pos) (fCix i fb) := .mk fun st d c h => by
  obtain ⟨⟨y, c2⟩, h2, h⟩ := bind_some h
  simp only at h
  split at h
  · rename_i k e0
    split at h
    · rename_i xs j e1
      obtain ⟨z, e2, e3⟩ := map_some h
      cases e3
      refine RE.of (pe_ix ix_seq (pe_var hN hv hd hcd) (pwE b) hs) fun hs ps σ H R Q q => ?_
      obtain ⟨v, h1, p, hp, rfl⟩ := R.slot i _ e0
      refine ⟨_, h1, hb _ _ _ h2 hs ps σ H R _ fun w H2 s2 R2 d2 => ?_⟩
      cases dp_int d2
      obtain ⟨vs, q1, q2⟩ := R2.hr.cel k p xs hp e1
      obtain ⟨u, e4, e5⟩ := atI_dp q2 e2
      exact .inl ⟨p, vs, _, u, rfl, rfl, .inl (.inl q1), e4, q u H2 s2 R2 e5⟩
    · cases h
  · cases h
/-! slices -/
def fPart (a : FE) : Sta → Option (Option Int × Cs) := fun st => (a st).bind fun p => match p.1 with
  | .int i => some (some i, p.2)
  | _ => none
def fNoPart : Sta → Option (Option Int × Cs) := fun st => some (none, st.cs)
def EDO (K : PySem.W.Frag) (to : TO) (st : Sta) (o : Option Int) (cs' : Cs) : Prop :=
  ∀ hs ps σ H, Rel K hs ps σ H st → ∀ Q : Option Int → Hp → Prop, (∀ H2, Step ps H H2 → Rel K hs ps σ H2 ⟨st.ds, cs'⟩ → Q o H2) → to σ H Q
structure RO (X : Cx) (e : Option Expr) (f : Sta → Option (Option Int × Cs)) : Prop where
  h : ∃ to, PO X e to ∧ ∀ st o c, f st = some (o, c) → EDO X.K to st o c
theorem ro_none : RO X none fNoPart := ⟨_, po_none, fun st o c h => by
  cases h
  exact fun hs ps σ H R Q q => q H (Step.refl H) R⟩
theorem ro_some (ha : RE X a fa) : RO X (some a) (fPart fa) := ⟨_, po_some (pwE a), fun st o c h => by
  obtain ⟨⟨x, c1⟩, h1, h⟩ := bind_some h
  simp only at h
  split at h
  · cases h
    exact fun hs ps σ H R Q q => ha _ _ _ h1 hs ps σ H R _ fun v H2 s2 R2 d2 => ⟨_, dp_int d2, q H2 s2 R2⟩
  · cases h⟩
def cutD (xs : List PyData) (lo hi : Option Int) : List PyData := (xs.drop (HT.sIx xs.length 0 lo)).take (HT.sIx xs.length xs.length hi - HT.sIx xs.length 0 lo)
def fSlL (a : FE) (l u : Sta → Option (Option Int × Cs)) : FL := fun st => (a st).bind fun p => (l ⟨st.ds, p.2⟩).bind fun q => (u ⟨st.ds, q.2⟩).bind fun r => match p.1 with
  | .list xs => some (cutD xs q.1 r.1, r.2)
  | _ => none
theorem fresh_back {H H' : Hp} {p : Addr} {hs ps : List Addr} {cs : Cs} (s : Step ps H H') (R : HR K hs ps H' cs) (h : H' p = none) : H p = none := by
  cases hq : H p with
  | none => rfl
  | some o =>
    by_cases m : p ∈ ps
    · exact absurd h (R.trk p (R.sub p m))
    · rw [s p o m hq] at h; cases h
theorem fresh_hid {H : Hp} {p : Addr} {hs : List Addr} (hp : H p = none) : ∀ a ∈ p :: hs, a ∉ hs → H a = none := fun a m n => by
  rcases List.mem_cons.mp m with e | m
  · rw [e]; exact hp
  · exact absurd m n
/-- a list is laid -/
theorem lay_list {hs ps : List Addr} {σ : St} {H H2 : Hp} {st : Sta} {p : Addr} {vs : List V} {ds : List PyData} (s2 : Step ps H H2) (R2 : Rel K hs ps σ H2 st) (hp : H2 p = none) (dd : DpAll K (hid hs H2) vs ds) :
    H p = none ∧ Step ps H (upd H2 p (.lst vs)) ∧ Rel K (p :: hs) ps σ (upd H2 p (.lst vs)) st ∧ (upd H2 p (.lst vs)) p = some (.lst vs) ∧ DpAll K (hid (p :: hs) (upd H2 p (.lst vs))) vs ds := by
  have s3 : Step [] H2 (upd H2 p (.lst vs)) := Step.new hp
  exact ⟨fresh_back s2 R2.hr hp, s2.trans (s3.mono (by simp)), R2.more s3 hp (by rw [upd_same]; simp), upd_same, dd.up ((s3.mono (qs := []) (by simp)).hd (by simp) (fresh_hid hp))⟩
theorem rl_sl {lo hi : Option Expr} {fl fu : Sta → Option (Option Int × Cs)} {p2 : Pos} (ha : RE X a fa) (hl : RO X lo fl) (hu : RO X hi fu) : RL X (.Subscript a (.Slice lo hi none p2) pos) (fSlL fa fl fu) := .mk fun st d c h => by
  obtain ⟨⟨x, c1⟩, h1, h⟩ := bind_some h
  obtain ⟨⟨y, c2⟩, h2, h⟩ := bind_some h
  obtain ⟨⟨z, c3⟩, h3, h⟩ := bind_some h
  obtain ⟨tl, pl, kl⟩ := hl
  obtain ⟨tu, pu, ku⟩ := hu
  simp only at h
  split at h
  · cases h
    refine RL.of (pe_slice sl_list (pwE a) pl pu) fun hs ps σ H R Q q => ha _ _ _ h1 hs ps σ H R _ fun v H2 s2 R2 d2 => kl _ _ _ h2 hs ps σ H2 R2 _ fun H3 s3 R3 => ku _ _ _ h3 hs ps σ H3 R3 _ fun H4 s4 R4 => ?_
    obtain ⟨p, vs, rfl, hp, da⟩ := dp_list d2
    have sb := (s3.trans s4).hd0 R2.hr.sub
    refine ⟨p, vs, rfl, sqL_mono hid_sub (sqL_mono sb hp), fun t ht => ?_⟩
    have da4 := da.up sb
    obtain ⟨k1, k2, k3, k4, k5⟩ := lay_list (vs := cutV vs y z) (ds := cutD _ y z) ((s2.trans s3).trans s4) R4 ht (by
      unfold cutV cutD
      rw [da4.len]
      exact (da4.dr _).tk _)
    exact q t _ _ k1 k2 k3 k4 k5
  · cases h
end
end DL


set_option Elab.async false
set_option linter.all false
set_option maxRecDepth 100000
set_option maxHeartbeats 4000000
namespace DL
open PySem PySem.Spec L2
open PyProof.Rows hiding St

/-! ### built-ins -/
def RCD (K : PySem.W.Frag) (r : List V → Hp → VK → Prop) (xs : List PyData) (z : PyData) : Prop := ∀ (hs : List Addr) (H : Hp) (vs : List V), (∀ a ∈ hs, H a ≠ none) → DpAll K (hid hs H) vs xs →
  ∀ Q : VK, (∀ u H', Step [] H H' → Dp K (hid hs H') u z → Q u H') → r vs H Q
def fBi (g : List PyData → Option PyData) (a : FA) : FE := fun st => (a st).bind fun p => (datsOf p.1).bind fun ds => (g ds).map fun z => (z, p.2)
section
variable {X : Cx} {K : PySem.W.Frag} {a b e : Expr} {es : List Expr} {p pos : Pos} {fa : FA} {fe : FE} {r : List V → Hp → VK → Prop} {g : List PyData → Option PyData} {x : Str} {nm T : String}
theorem ed_bi {st : Sta} {z : PyData} {c : Cs} {ta : TA} (h : fBi g fa st = some (z, c)) (hr : ∀ xs z, g xs = some z → RCD K r xs z) (ha : ∀ st d c, fa st = some (d, c) → EDA K ta st d c) : ED K (tCB r ta) st z c := by
  obtain ⟨⟨xs, c1⟩, h1, h⟩ := bind_some h
  obtain ⟨ds, h2, h⟩ := bind_some h
  obtain ⟨y, h3, e⟩ := map_some h
  cases e
  refine fun hs ps σ H R Q q => ha _ _ _ h1 hs ps σ H R _ fun vs H2 s2 R2 p2 => ?_
  rw [datsOf_dat (show datsOf xs = some ds from h2)] at p2
  exact hr _ _ h3 hs H2 vs R2.hr.trk (paired_dat p2) Q fun u H3 s3 d3 => q u H3 (s2.trans (s3.mono (by simp))) (R2.step s3) d3
theorem re_bi (hc : CallR X (.builtin nm) r) (hr : ∀ xs z, g xs = some z → RCD X.K r xs z) (hg : Gl X x) (hm : X.mg x = none) (hv : bootBuiltins x = some (.builtin nm)) (ha : RA X (e :: es) fa) (hn : x ≠ "__name__" := by decide) (hdb : (x == ("__debug__" : Str)) = false := by decide)
    (he : starEach (e :: es) X.env = (false, eval e X.env) :: starEach es X.env := by with_reducible first | exact sn_name | exact sn_const | exact sn_tup | exact sn_list | exact sn_bin | exact sn_un | exact sn_bool | exact sn_cmp | exact sn_call | exact sn_sub | exact sn_if | exact sn_attr | exact sn_lc) (hpl : (backTo pos (starEach es X.env)).any (·.1) = false := by rfl) : RE X (.Call (.Name x p) (e :: es) [] pos) (fBi g fa) := .mk fun st d c h =>
  RE.of (pe_callB hc hg hm hv (pwA (e :: es)) hn hdb he hpl) (ed_bi h hr ha)
theorem re_biT (hc : CallR X (.type T) r) (hr : ∀ xs z, g xs = some z → RCD X.K r xs z) (hg : Gl X x) (hm : X.mg x = none) (hv : bootBuiltins x = some (.type T)) (ha : RA X (e :: es) fa) (hn : x ≠ "__name__" := by decide) (hdb : (x == ("__debug__" : Str)) = false := by decide)
    (he : starEach (e :: es) X.env = (false, eval e X.env) :: starEach es X.env := by with_reducible first | exact sn_name | exact sn_const | exact sn_tup | exact sn_list | exact sn_bin | exact sn_un | exact sn_bool | exact sn_cmp | exact sn_call | exact sn_sub | exact sn_if | exact sn_attr | exact sn_lc) (hpl : (backTo pos (starEach es X.env)).any (·.1) = false := by rfl) : RE X (.Call (.Name x p) (e :: es) [] pos) (fBi g fa) := .mk fun st d c h =>
  RE.of (pe_callTy hc hg hm hv (pwA (e :: es)) hn hdb he hpl) (ed_bi h hr ha)
theorem dpa1 {H : Hp} {vs : List V} {d : PyData} (h : DpAll K H vs [d]) : ∃ v, vs = [v] ∧ Dp K H v d := by
  cases h with
  | cons a t => cases t; exact ⟨_, rfl, a⟩
theorem dpa2 {H : Hp} {vs : List V} {d d' : PyData} (h : DpAll K H vs [d, d']) : ∃ v w, vs = [v, w] ∧ Dp K H v d ∧ Dp K H w d' := by
  cases h with
  | cons a t =>
    obtain ⟨w, rfl, h2⟩ := dpa1 t
    exact ⟨_, _, rfl, a, h2⟩
/-! len -/
def gLen : List PyData → Option PyData
  | [.list xs] => some (.int xs.length)
  | [.tuple xs] => some (.int xs.length)
  | _ => none
theorem re_len (hg : Gl X "len") (hm : X.mg "len" = none) (ha : RA X [a] fa) (he : starEach [a] X.env = (false, eval a X.env) :: starEach [] X.env := by with_reducible first | exact sn_name | exact sn_const | exact sn_tup | exact sn_list | exact sn_bin | exact sn_un | exact sn_bool | exact sn_cmp | exact sn_call | exact sn_sub | exact sn_if | exact sn_attr | exact sn_lc) : RE X (.Call (.Name "len" p) [a] [] pos) (fBi gLen fa) :=
  re_bi call_len (fun xs z h => by
    unfold gLen at h
    split at h <;> cases h
    · intro hs H vs _ d Q q
      obtain ⟨v, rfl, d1⟩ := dpa1 d
      obtain ⟨p, ws, rfl, hp, da⟩ := dp_list d1
      exact ⟨_, ws.length, rfl, .inl ⟨ws, sqL_mono hid_sub hp, rfl⟩, q _ H (Step.refl H) (by rw [da.len]; exact .int _)⟩
    · intro hs H vs _ d Q q
      obtain ⟨v, rfl, d1⟩ := dpa1 d
      obtain ⟨p, ws, rfl, hp, da⟩ := dp_tuple d1
      exact ⟨_, ws.length, rfl, .inr ⟨ws, sqT_mono hid_sub hp, rfl⟩, q _ H (Step.refl H) (by rw [da.len]; exact .int _)⟩) hg hm PySem.boot_len ha (he := he)
/-! all, any, sum -/
def boolsOf : List PyData → Option (List Bool)
  | [] => some []
  | .bool b :: r => (boolsOf r).map (b :: ·)
  | _ => none
theorem bools_dp {H : Hp} : ∀ {ds : List PyData} {bs : List Bool} {vs : List V}, boolsOf ds = some bs → DpAll K H vs ds → vs = bs.map V.bl
  | [], bs, vs, h, d => by
    cases d
    have h' := Option.some.inj h
    subst h'; rfl
  | d0 :: r, bs, vs, h, d => by
    cases d with
    | cons a t =>
      cases d0 <;> first | (exfalso; cases h; done) | skip
      rename_i b0
      obtain ⟨l, h1, rfl⟩ := map_some (show (boolsOf r).map (b0 :: ·) = some bs from h)
      rw [bools_dp h1 t, dp_bool a]; rfl
def intsOf : List PyData → Option (List Int)
  | [] => some []
  | .int b :: r => (intsOf r).map (b :: ·)
  | _ => none
theorem ints_dp {H : Hp} : ∀ {ds : List PyData} {bs : List Int} {vs : List V}, intsOf ds = some bs → DpAll K H vs ds → vs = bs.map V.int
  | [], bs, vs, h, d => by
    cases d
    have h' := Option.some.inj h
    subst h'; rfl
  | d0 :: r, bs, vs, h, d => by
    cases d with
    | cons a t =>
      cases d0 <;> first | (exfalso; cases h; done) | skip
      rename_i b0
      obtain ⟨l, h1, rfl⟩ := map_some (show (intsOf r).map (b0 :: ·) = some bs from h)
      rw [ints_dp h1 t, dp_int a]; rfl
def gAll : List PyData → Option PyData
  | [.list xs] => (boolsOf xs).map fun bs => .bool (bs.all id)
  | _ => none
def gAny : List PyData → Option PyData
  | [.list xs] => (boolsOf xs).map fun bs => .bool (bs.any id)
  | _ => none
theorem re_all (hc : X.calm = true) (hg : Gl X "all") (hm : X.mg "all" = none) (ha : RA X [a] fa) (he : starEach [a] X.env = (false, eval a X.env) :: starEach [] X.env := by with_reducible first | exact sn_name | exact sn_const | exact sn_tup | exact sn_list | exact sn_bin | exact sn_un | exact sn_bool | exact sn_cmp | exact sn_call | exact sn_sub | exact sn_if | exact sn_attr | exact sn_lc) : RE X (.Call (.Name "all" p) [a] [] pos) (fBi gAll fa) :=
  re_bi (cr_all hc) (fun xs z h => by
    unfold gAll at h
    split at h
    · obtain ⟨bs, h1, rfl⟩ := map_some h
      intro hs H vs _ d Q q
      obtain ⟨v, rfl, d1⟩ := dpa1 d
      obtain ⟨p, ws, rfl, hp, da⟩ := dp_list d1
      rw [bools_dp h1 da] at hp
      exact ⟨p, bs, rfl, sqL_mono hid_sub hp, q _ H (Step.refl H) (.bl _)⟩
    · cases h) hg hm (by decide +kernel) ha (he := he)
theorem re_any (hc : X.calm = true) (hg : Gl X "any") (hm : X.mg "any" = none) (ha : RA X [a] fa) (he : starEach [a] X.env = (false, eval a X.env) :: starEach [] X.env := by with_reducible first | exact sn_name | exact sn_const | exact sn_tup | exact sn_list | exact sn_bin | exact sn_un | exact sn_bool | exact sn_cmp | exact sn_call | exact sn_sub | exact sn_if | exact sn_attr | exact sn_lc) : RE X (.Call (.Name "any" p) [a] [] pos) (fBi gAny fa) :=
  re_bi (cr_any hc) (fun xs z h => by
    unfold gAny at h
    split at h
    · obtain ⟨bs, h1, rfl⟩ := map_some h
      intro hs H vs _ d Q q
      obtain ⟨v, rfl, d1⟩ := dpa1 d
      obtain ⟨p, ws, rfl, hp, da⟩ := dp_list d1
      rw [bools_dp h1 da] at hp
      exact ⟨p, bs, rfl, sqL_mono hid_sub hp, q _ H (Step.refl H) (.bl _)⟩
    · cases h) hg hm (by decide +kernel) ha (he := he)
/-! int, abs, max, min -/
def gInt : List PyData → Option PyData
  | [.int i] => some (.int i)
  | [.bool b] => some (.int (if b then 1 else 0))
  | _ => none
def gAbs : List PyData → Option PyData
  | [.int i] => some (.int (if i < 0 then -i else i))
  | _ => none
def gMax : List PyData → Option PyData
  | [.int i, .int j] => some (.int (if j > i then j else i))
  | _ => none
def gMin : List PyData → Option PyData
  | [.int i, .int j] => some (.int (if j < i then j else i))
  | _ => none
theorem re_intc (hg : Gl X "int") (hm : X.mg "int" = none) (ha : RA X [a] fa) (he : starEach [a] X.env = (false, eval a X.env) :: starEach [] X.env := by with_reducible first | exact sn_name | exact sn_const | exact sn_tup | exact sn_list | exact sn_bin | exact sn_un | exact sn_bool | exact sn_cmp | exact sn_call | exact sn_sub | exact sn_if | exact sn_attr | exact sn_lc) : RE X (.Call (.Name "int" p) [a] [] pos) (fBi gInt fa) :=
  re_biT call_int1 (fun xs z h => by
    unfold gInt at h
    split at h <;> cases h
    · intro hs H vs _ d Q q
      obtain ⟨v, rfl, d1⟩ := dpa1 d
      cases dp_int d1
      exact .inl ⟨_, rfl, q _ H (Step.refl H) (.int _)⟩
    · intro hs H vs _ d Q q
      obtain ⟨v, rfl, d1⟩ := dpa1 d
      cases dp_bool d1
      exact .inr ⟨_, rfl, q _ H (Step.refl H) (.int _)⟩) hg hm (by decide +kernel) ha (he := he)
theorem re_abs (hg : Gl X "abs") (hm : X.mg "abs" = none) (ha : RA X [a] fa) (he : starEach [a] X.env = (false, eval a X.env) :: starEach [] X.env := by with_reducible first | exact sn_name | exact sn_const | exact sn_tup | exact sn_list | exact sn_bin | exact sn_un | exact sn_bool | exact sn_cmp | exact sn_call | exact sn_sub | exact sn_if | exact sn_attr | exact sn_lc) : RE X (.Call (.Name "abs" p) [a] [] pos) (fBi gAbs fa) :=
  re_bi call_abs (fun xs z h => by
    unfold gAbs at h
    split at h <;> cases h
    intro hs H vs _ d Q q
    obtain ⟨v, rfl, d1⟩ := dpa1 d
    cases dp_int d1
    exact ⟨_, rfl, q _ H (Step.refl H) (.int _)⟩) hg hm (by decide +kernel) ha (he := he)
theorem re_max (hc : X.calm = true) (hg : Gl X "max") (hm : X.mg "max" = none) (ha : RA X [a, b] fa) (he : starEach [a, b] X.env = (false, eval a X.env) :: starEach [b] X.env := by with_reducible first | exact sn_name | exact sn_const | exact sn_tup | exact sn_list | exact sn_bin | exact sn_un | exact sn_bool | exact sn_cmp | exact sn_call | exact sn_sub | exact sn_if | exact sn_attr | exact sn_lc) (hpl : (backTo pos (starEach [b] X.env)).any (·.1) = false := by rfl) : RE X (.Call (.Name "max" p) [a, b] [] pos) (fBi gMax fa) :=
  re_bi (call_max2 hc) (fun xs z h => by
    unfold gMax at h
    split at h <;> cases h
    intro hs H vs _ d Q q
    obtain ⟨v, w, rfl, d1, d2⟩ := dpa2 d
    cases dp_int d1
    cases dp_int d2
    exact ⟨_, _, rfl, q _ H (Step.refl H) (.int _)⟩) hg hm (by decide +kernel) ha (he := he) (hpl := hpl)
theorem re_min (hc : X.calm = true) (hg : Gl X "min") (hm : X.mg "min" = none) (ha : RA X [a, b] fa) (he : starEach [a, b] X.env = (false, eval a X.env) :: starEach [b] X.env := by with_reducible first | exact sn_name | exact sn_const | exact sn_tup | exact sn_list | exact sn_bin | exact sn_un | exact sn_bool | exact sn_cmp | exact sn_call | exact sn_sub | exact sn_if | exact sn_attr | exact sn_lc) (hpl : (backTo pos (starEach [b] X.env)).any (·.1) = false := by rfl) : RE X (.Call (.Name "min" p) [a, b] [] pos) (fBi gMin fa) :=
  re_bi (call_min2 hc) (fun xs z h => by
    unfold gMin at h
    split at h <;> cases h
    intro hs H vs _ d Q q
    obtain ⟨v, w, rfl, d1, d2⟩ := dpa2 d
    cases dp_int d1
    cases dp_int d2
    exact ⟨_, _, rfl, q _ H (Step.refl H) (.int _)⟩) hg hm (by decide +kernel) ha (he := he) (hpl := hpl)
/-! gcd -/
def gGcd : List PyData → Option PyData
  | [.int i, .int j] => some (.int ((Nat.gcd i.natAbs j.natAbs : Nat) : Int))
  | _ => none
theorem re_gcd (hg : Gl X x) (hm : X.mg x = some (.builtin "math.gcd")) (ha : RA X [a, b] fa) (hdb : (x == ("__debug__" : Str)) = false := by decide) (he : starEach [a, b] X.env = (false, eval a X.env) :: starEach [b] X.env := by with_reducible first | exact sn_name | exact sn_const | exact sn_tup | exact sn_list | exact sn_bin | exact sn_un | exact sn_bool | exact sn_cmp | exact sn_call | exact sn_sub | exact sn_if | exact sn_attr | exact sn_lc) (hpl : (backTo pos (starEach [b] X.env)).any (·.1) = false := by rfl) : RE X (.Call (.Name x p) [a, b] [] pos) (fBi gGcd fa) := .mk fun st d c h =>
  RE.of (pe_callBfun cr_gcd hg hm (pwA [a, b]) hdb he hpl) (ed_bi h (fun xs z h => by
    unfold gGcd at h
    split at h <;> cases h
    intro hs H vs _ d Q q
    obtain ⟨v, w, rfl, d1, d2⟩ := dpa2 d
    cases dp_int d1
    cases dp_int d2
    exact ⟨_, _, rfl, q _ H (Step.refl H) (.int _)⟩) ha)
/-! divmod -/
def divmodOk (i j : Int) : Bool := decide (0 < j) && !Builtin.divisionGoesByPylong i j
def gDivmod : List PyData → Option PyData
  | [.int i, .int j] => if divmodOk i j = true then some (.tuple [.int (i / j), .int (i % j)]) else none
  | _ => none
theorem re_divmod (hg : Gl X "divmod") (hm : X.mg "divmod" = none) (ha : RA X [a, b] fa) (he : starEach [a, b] X.env = (false, eval a X.env) :: starEach [b] X.env := by with_reducible first | exact sn_name | exact sn_const | exact sn_tup | exact sn_list | exact sn_bin | exact sn_un | exact sn_bool | exact sn_cmp | exact sn_call | exact sn_sub | exact sn_if | exact sn_attr | exact sn_lc) (hpl : (backTo pos (starEach [b] X.env)).any (·.1) = false := by rfl) : RE X (.Call (.Name "divmod" p) [a, b] [] pos) (fBi gDivmod fa) :=
  re_bi call_divmodW (fun xs z h => by
    unfold gDivmod at h
    split at h
    · split at h <;> cases h
      rename_i hok
      intro hs H vs ht d Q q
      obtain ⟨v, w, rfl, d1, d2⟩ := dpa2 d
      cases dp_int d1
      cases dp_int d2
      unfold divmodOk at hok
      rw [Bool.and_eq_true] at hok
      refine ⟨_, _, rfl, ⟨of_decide_eq_true hok.1, by simpa using hok.2⟩, fun t ht' => ?_⟩
      have hph : t ∉ hs := fun m => ht t m ht'
      exact q _ _ (Step.new ht') (.tup (.inl (.inl (by rw [hid_out hph]; exact upd_same))) (.cons (.int _) (.cons (.int _) .nil)))
    · cases h) hg hm (by decide +kernel) ha (he := he) (hpl := hpl)
/-! tuple(..), list(..) -/
def gTuple : List PyData → Option PyData
  | [.list xs] => some (.tuple xs)
  | [.tuple xs] => some (.tuple xs)
  | _ => none
theorem re_tuple (hg : Gl X "tuple") (hm : X.mg "tuple" = none) (ha : RA X [a] fa) (he : starEach [a] X.env = (false, eval a X.env) :: starEach [] X.env := by with_reducible first | exact sn_name | exact sn_const | exact sn_tup | exact sn_list | exact sn_bin | exact sn_un | exact sn_bool | exact sn_cmp | exact sn_call | exact sn_sub | exact sn_if | exact sn_attr | exact sn_lc) : RE X (.Call (.Name "tuple" p) [a] [] pos) (fBi gTuple fa) :=
  re_biT call_tuple_of (fun xs z h => by
    unfold gTuple at h
    split at h <;> cases h
    · intro hs H vs ht d Q q
      obtain ⟨v, rfl, d1⟩ := dpa1 d
      obtain ⟨p, ws, rfl, hp, da⟩ := dp_list d1
      refine ⟨p, ws, rfl, .inl ⟨sqL_mono hid_sub hp, fun t ht' => ?_⟩⟩
      have hph : t ∉ hs := fun m => ht t m ht'
      have s3 : Step [] H (upd H t (.tup ws)) := Step.new ht'
      exact q _ _ s3 (.tup (.inl (.inl (by rw [hid_out hph]; exact upd_same))) (da.up (s3.hd0 (by simp))))
    · intro hs H vs _ d Q q
      obtain ⟨v, rfl, d1⟩ := dpa1 d
      obtain ⟨p, ws, rfl, hp, da⟩ := dp_tuple d1
      exact ⟨p, ws, rfl, .inr ⟨sqT_mono hid_sub hp, q _ H (Step.refl H) (.tup hp da)⟩⟩) hg hm (by decide +kernel) ha (he := he)
def fList (a : FE) : FL := fun st => (a st).bind fun p => match p.1 with
  | .list xs => some (xs, p.2)
  | .tuple xs => some (xs, p.2)
  | _ => none
theorem rl_list (hg : Gl X "list") (hm : X.mg "list" = none) (ha : RE X a fe) (he : starEach [a] X.env = (false, eval a X.env) :: starEach [] X.env := by with_reducible first | exact sn_name | exact sn_const | exact sn_tup | exact sn_list | exact sn_bin | exact sn_un | exact sn_bool | exact sn_cmp | exact sn_call | exact sn_sub | exact sn_if | exact sn_attr | exact sn_lc) : RL X (.Call (.Name "list" p) [a] [] pos) (fList fe) := .mk fun st d c h => by
  obtain ⟨⟨y, c1⟩, h1, h⟩ := bind_some h
  refine RL.of (pe_callTy call_list_of hg hm (by decide +kernel) (pa_cons (pwE a) pa_nil he) (he := he)) fun hs ps σ H R Q q => ha _ _ _ h1 hs ps σ H R _ fun v H2 s2 R2 d2 => ?_
  simp only at h
  split at h
  · cases h
    obtain ⟨p, ws, rfl, hp, da⟩ := dp_list d2
    refine ⟨p, ws, rfl, .inl (sqL_mono hid_sub hp), fun t ht => ?_⟩
    obtain ⟨k1, k2, k3, k4, k5⟩ := lay_list s2 R2 ht da
    exact q t _ _ k1 k2 k3 k4 k5
  · cases h
    obtain ⟨p, ws, rfl, hp, da⟩ := dp_tuple d2
    refine ⟨p, ws, rfl, .inr (sqT_mono hid_sub hp), fun t ht => ?_⟩
    obtain ⟨k1, k2, k3, k4, k5⟩ := lay_list s2 R2 ht da
    exact q t _ _ k1 k2 k3 k4 k5
  · cases h
/-! type(x) is T, isinstance(x, T) -/
def tyOf : PyData → String
  | .none => "NoneType"
  | .bool _ => "bool"
  | .int _ => "int"
  | .str _ => "str"
  | .list _ => "list"
  | .tuple _ => "tuple"
  | .dict _ => "dict"
theorem rl_typeD {pins : List (Addr × Obj)} {s : Shared} {σ : St} {H : Hp} {v : V} {u : Value} {d : PyData} {Q : VK} (I : L2.Inv X pins σ H s) (r : RelV v u) (hd : Dp X.K H v d) (q : Q (.ty (tyOf d)) H) :
    wpAny (model X.prog X.w) X.A (call (.type "type") [u]) (EP X pins σ Q) X.xe s := by
  have fin : EP X pins σ Q (.type (tyOf d)) s := ⟨.ty (tyOf d), H, I, rfl, q⟩
  cases hd with
  | non => cases (show u = Value.none from r); exact call_type_of (Tx := "NoneType") rfl (by decide +kernel) fin
  | bl y => cases (show u = Value.bool y from r); exact call_type_of (Tx := "bool") rfl (by decide +kernel) fin
  | int i => obtain ⟨t, rfl⟩ := (show ∃ t, u = Value.int i t from r); exact call_type_of (Tx := "int") rfl (by decide +kernel) fin
  | str y => obtain ⟨t, rfl⟩ := (show ∃ t, u = Value.str y t from r); exact call_type_of (Tx := "str") rfl (by decide +kernel) fin
  | lst a b =>
    cases (show u = Value.ref _ from r)
    obtain ⟨its, rv, ⟨o, n, e, c, _, _⟩, _⟩ := I.list a
    exact call_type_of (Tx := "list") ⟨o, e, c⟩ (by decide +kernel) fin
  | tup a b =>
    cases (show u = Value.ref _ from r)
    obtain ⟨its, rv, ⟨o, e, c, _⟩, _⟩ := I.tuple a
    exact call_type_of (Tx := "tuple") ⟨o, e, c⟩ (by decide +kernel) fin
def gTyIs (T : String) (x : PyData) : Option PyData := some (.bool (decide (tyOf x = T)))
def rTyD (K : PySem.W.Frag) : List V → Hp → VK → Prop := fun xs H Q => ∃ v d, xs = [v] ∧ Dp K H v d ∧ Q (.ty (tyOf d)) H
theorem call_typeD : CallR X (.type "type") (rTyD X.K) := by
  intro pins s σ H xs us Q I r h
  obtain ⟨v, d, rfl, hd, q⟩ := h
  obtain ⟨u, rfl, rx⟩ := vals1 r
  exact rl_typeD I rx hd q
theorem dp_ty {H : Hp} {v : V} {d : PyData} (h : Dp K H v d) {d' : PyData} (h' : Dp K H v d') : True := trivial
theorem re_tyIs {y : Str} {T : String} {p1 p2 p3 : Pos} (hg : Gl X "type") (hm : X.mg "type" = none) (hgT : Gl X y) (hmT : X.mg y = none) (hvT : bootBuiltins y = some (.type T)) (ha : RE X a fe) (he : starEach [a] X.env = (false, eval a X.env) :: starEach [] X.env := by with_reducible first | exact sn_name | exact sn_const | exact sn_tup | exact sn_list | exact sn_bin | exact sn_un | exact sn_bool | exact sn_cmp | exact sn_call | exact sn_sub | exact sn_if | exact sn_attr | exact sn_lc)
    (hnT : y ≠ "__name__" := by decide) (hdT : (y == ("__debug__" : Str)) = false := by decide) :
    RE X (.Compare (.Call (.Name "type" p1) [a] [] p2) [.Is] [.Name y p3] pos) (fUn (gTyIs T) fe) := .mk fun st d c h => by
  obtain ⟨⟨z, c1⟩, h1, h⟩ := bind_some h
  obtain ⟨w, h2, e⟩ := map_some h
  cases e
  cases h2
  refine RE.of (pe_cmpR op_isTyB (pe_callTy call_typeD hg hm (by decide +kernel) (pa_cons (pwE a) pa_nil he) (he := he)) (pe_bltn (v := .ty T) hgT hmT hvT rfl hnT hdT) (nomark _)) fun hs ps σ H R Q q => ha _ _ _ h1 hs ps σ H R _ fun v H2 s2 R2 d2 => ?_
  exact ⟨v, z, rfl, d2.up hid_sub, _, _, rfl, rfl, q _ H2 s2 R2 (.bl _)⟩
def gIsi (T : String) (x : PyData) : Option PyData := (kitB (tyOf x) T).map .bool
theorem dp_tyX {H : Hp} {v : V} {d : PyData} (h : Dp K H v d) : TyX K H v (.type (tyOf d)) := by
  cases h with
  | non => exact .base .non
  | bl y => exact .base (.bl y)
  | int i => exact .base (.int i)
  | str y => exact .base (.str y)
  | lst a b =>
    rcases a with (a | ⟨o, a⟩) | ⟨o, its, n, h1, h2, _⟩
    · exact .base (.lst a)
    · exact .base (.frz a)
    · exact .kList h1 h2
  | tup a b =>
    rcases a with (a | ⟨o, a⟩) | ⟨o, its, n, h1, h2, _⟩
    · exact .base (.tup a)
    · exact .fTuple a
    · exact .kTuple h1 h2
theorem re_isi {y : Str} {T : String} {p1 p3 : Pos} (hg : Gl X "isinstance") (hm : X.mg "isinstance" = none) (hgT : Gl X y) (hmT : X.mg y = none) (hvT : bootBuiltins y = some (.type T)) (ha : RE X a fe)
    (he : starEach [a, .Name y p3] X.env = (false, eval a X.env) :: starEach [.Name y p3] X.env := by with_reducible first | exact sn_name | exact sn_const | exact sn_tup | exact sn_list | exact sn_bin | exact sn_un | exact sn_bool | exact sn_cmp | exact sn_call | exact sn_sub | exact sn_if | exact sn_attr | exact sn_lc) (he2 : starEach [.Name y p3] X.env = (false, eval (.Name y p3) X.env) :: starEach [] X.env := by rfl) (hpl : (backTo pos (starEach [.Name y p3] X.env)).any (·.1) = false := by rfl) (hnT : y ≠ "__name__" := by decide) (hdT : (y == ("__debug__" : Str)) = false := by decide) :
    RE X (.Call (.Name "isinstance" p1) [a, .Name y p3] [] pos) (fUn (gIsi T) fe) := .mk fun st d c h => by
  obtain ⟨⟨z, c1⟩, h1, h⟩ := bind_some h
  obtain ⟨w, h2, e⟩ := map_some h
  cases e
  obtain ⟨b, h3, rfl⟩ := map_some h2
  refine RE.of (pe_callB call_isi hg hm (by decide +kernel) (pa_cons (pwE a) (pa_cons (pe_bltn (v := .ty T) hgT hmT hvT rfl hnT hdT) pa_nil he2) he) (he := he) (hpl := hpl)) fun hs ps σ H R Q q => ha _ _ _ h1 hs ps σ H R _ fun v H2 s2 R2 d2 => ?_
  exact ⟨v, .ty T, _, _, b, rfl, .ty T, dp_tyX (d2.up hid_sub), kit_ty h3, q _ H2 s2 R2 (.bl _)⟩
/-! repr -/
def shownOk (d : PyData) : Bool := d.showable && !d.hasDict && decide (d.shown.length ≤ sizeLine) && decide (d.depth ≤ 60)
def gRepr : List PyData → Option PyData
  | [d] => if shownOk d = true then some (.str d.shown) else none
  | _ => none
def rRepr (K : PySem.W.Frag) : List V → Hp → VK → Prop := fun xs H Q => ∃ v d, xs = [v] ∧ Dp K H v d ∧ shownOk d = true ∧ Q (.str d.shown) H
theorem call_reprD (hgd : X.A.guards = some []) (hu : X.A.units + 64 < cLine) : CallR X (.builtin "repr") (rRepr X.K) := by
  intro pins s σ H xs us Q I r h
  obtain ⟨v, d, rfl, hd, hok, q⟩ := h
  obtain ⟨u, rfl, rx⟩ := vals1 r
  unfold shownOk at hok
  simp only [Bool.and_eq_true, Bool.not_eq_true', decide_eq_true_eq] at hok
  obtain ⟨⟨⟨h1, h2⟩, h3⟩, h4⟩ := hok
  obtain ⟨as, hr⟩ := Dp.reads I d v u hd rx
  cases hd with
  | non => cases (show u = Value.none from rx); exact PySem.P.repr_of_none ⟨.str (PyData.shown .none), H, I.tok _, ⟨_, rfl⟩, q⟩
  | bl y => cases (show u = Value.bool y from rx); exact PySem.P.repr_of_bool ⟨.str (PyData.shown (.bool y)), H, I.tok _, ⟨_, rfl⟩, q⟩
  | int i => obtain ⟨t, rfl⟩ := (show ∃ t, u = Value.int i t from rx); exact PySem.P.repr_of_int (of_decide_eq_true h1) ⟨.str (PyData.shown (.int i)), H, I.tok _, ⟨_, rfl⟩, q⟩
  | str y => obtain ⟨t, rfl⟩ := (show ∃ t, u = Value.str y t from rx); exact PySem.P.repr_of_str ⟨.str (PyData.shown (.str y)), H, I.tok _, ⟨_, rfl⟩, q⟩ h3
  | lst a b =>
    cases (show u = Value.ref _ from rx)
    exact repr_of_reads' hr h1 (PyData.noDict_hsm h2) hgd (by omega) (fun _ _ e => e) (fun h' t tk hk => ⟨.str _, H, I.kept hk, ⟨_, rfl⟩, q⟩) h3
  | tup a b =>
    cases (show u = Value.ref _ from rx)
    exact repr_of_reads' hr h1 (PyData.noDict_hsm h2) hgd (by omega) (fun _ _ e => e) (fun h' t tk hk => ⟨.str _, H, I.kept hk, ⟨_, rfl⟩, q⟩) h3
theorem re_repr (hgd : X.A.guards = some []) (hu : X.A.units + 64 < cLine) (hg : Gl X "repr") (hm : X.mg "repr" = none) (ha : RA X [a] fa) (he : starEach [a] X.env = (false, eval a X.env) :: starEach [] X.env := by with_reducible first | exact sn_name | exact sn_const | exact sn_tup | exact sn_list | exact sn_bin | exact sn_un | exact sn_bool | exact sn_cmp | exact sn_call | exact sn_sub | exact sn_if | exact sn_attr | exact sn_lc) : RE X (.Call (.Name "repr" p) [a] [] pos) (fBi gRepr fa) :=
  re_bi (call_reprD hgd hu) (fun xs z h => by
    unfold gRepr at h
    split at h
    · split at h <;> cases h
      rename_i hok
      intro hs H vs _ d Q q
      obtain ⟨v, rfl, d1⟩ := dpa1 d
      exact ⟨v, _, rfl, d1.up hid_sub, hok, q _ H (Step.refl H) (.str _)⟩
    · cases h) hg hm (by decide +kernel) ha (he := he)
end
end DL


set_option Elab.async false
set_option linter.all false
set_option maxRecDepth 100000
set_option maxHeartbeats 4000000
namespace DL
open PySem PySem.Spec L2
open PyProof.Rows hiding St

/-! ### targets -/
def Only (js : List Nat) (σ σ' : St) : Prop := σ'.length = σ.length ∧ ∀ i, i ∉ js → σ'[i]? = σ[i]?
theorem Only.refl {js : List Nat} (σ : St) : Only js σ σ := ⟨rfl, fun _ _ => rfl⟩
theorem Only.trans {js : List Nat} {a b c : St} (h : Only js a b) (k : Only js b c) : Only js a c := ⟨k.1.trans h.1, fun i n => (k.2 i n).trans (h.2 i n)⟩
theorem Only.mono {js ks : List Nat} {a b : St} (h : Only js a b) (k : ∀ i ∈ js, i ∈ ks) : Only ks a b := ⟨h.1, fun i n => h.2 i fun m => n (k i m)⟩
abbrev FG := Sta → PyData → Option Sta
/-- a target that stores into slots js -/
def EG (K : PySem.W.Frag) (t : TG) (js : List Nat) (g : FG) : Prop := ∀ (hs ps : List Addr) (σ : St) (H : Hp) (st st' : Sta) (v : V) (x : PyData), Rel K hs ps σ H st → Dp K (hid hs H) v x → g st x = some st' →
  ∀ Q : St → Hp → Prop, (∀ σ', Rel K hs ps σ' H st' → Only js σ σ' → Q σ' H) → t v σ H Q
structure RG (X : Cx) (tg : Expr) (t : TG) (js : List Nat) (g : FG) : Prop where
  pg : PG X tg t
  eg : EG X.K t js g
def EGs (K : PySem.W.Frag) (t : TGs) (js : List Nat) (g : Sta → List PyData → Option Sta) : Prop := ∀ (hs ps : List Addr) (σ : St) (H : Hp) (st st' : Sta) (vs : List V) (xs : List PyData), Rel K hs ps σ H st → DpAll K (hid hs H) vs xs → g st xs = some st' →
  ∀ Q : St → Hp → Prop, (∀ σ', Rel K hs ps σ' H st' → Only js σ σ' → Q σ' H) → t vs σ H Q
structure RGs (X : Cx) (tg : List Expr) (t : TGs) (js : List Nat) (g : Sta → List PyData → Option Sta) : Prop where
  pg : PGs X tg t
  eg : EGs X.K t js g
def setD (st : Sta) (i : Nat) (x : SV) : Sta := ⟨st.ds.set i (some x), st.cs⟩
def aName (i : Nat) : FG := fun st x => some (setD st i (.dat x))
def aNil : Sta → List PyData → Option Sta
  | st, [] => some st
  | _, _ => none
def aCons (g : FG) (r : Sta → List PyData → Option Sta) : Sta → List PyData → Option Sta
  | st, x :: xs => (g st x).bind fun st1 => r st1 xs
  | _, [] => none
def aTup (n : Nat) (r : Sta → List PyData → Option Sta) : FG
  | st, .tuple xs => if xs.length = n then r st xs else none
  | _, _ => none
section
variable {K : PySem.W.Frag} {hs ps : List Addr} {σ : St} {H : Hp} {st : Sta}
theorem Rel.set (R : Rel K hs ps σ H st) (i : Nat) {v : V} {x : SV} (h : RelS K hs ps H v x) : Rel K hs ps (σ.set i (some v)) H (setD st i x) := by
  refine ⟨R.hr, by unfold setD; simp [R.len], fun j y e => ?_⟩
  unfold setD at e
  by_cases hj : i = j
  · subst hj
    have hl : i < st.ds.length := by
      by_cases hl : i < st.ds.length
      · exact hl
      · rw [List.getElem?_eq_none (by simpa using hl)] at e; cases e
    rw [List.getElem?_set_self hl] at e
    cases e
    exact ⟨v, by rw [List.getElem?_set_self (by rw [R.len]; exact hl)], h⟩
  · rw [List.getElem?_set_ne hj] at e
    obtain ⟨w, h1, h2⟩ := R.slot j y e
    exact ⟨w, by rw [List.getElem?_set_ne hj]; exact h1, h2⟩
theorem only_set (i : Nat) (v : V) {js : List Nat} (h : i ∈ js) : Only js σ (σ.set i (some v)) := ⟨by simp, fun j n => by
  rw [List.getElem?_set_ne (fun e : i = j => n (e ▸ h))]⟩
end
section
variable {X : Cx} {e : Expr} {es : List Expr} {pos : Pos}
theorem rg_name {i : Nat} {x : Str} (hN : X.N.Nodup) (hi : X.N[i]? = some x) (hx : Loc X.env.scope x) (hf : X.fn x = true ∨ X.env.scope.names.lookup x = some .local := by first | exact .inl rfl | exact .inr rfl | assumption) : RG X (.Name x pos) (gName i) [i] (aName i) :=
  ⟨pg_name hN hi hx hf, fun hs ps σ H st st' v x R d e Q q => by
    cases e
    exact q _ (R.set i (x := .dat x) d) (only_set i v (by simp))⟩
theorem rgs_nil : RGs X [] gNil [] aNil := ⟨pgs_nil, fun hs ps σ H st st' vs xs R d e Q q => by
  cases xs with
  | nil =>
    cases d
    cases e
    exact ⟨rfl, q _ R (Only.refl σ)⟩
  | cons _ _ => cases e⟩
theorem rgs_cons {t : TG} {u : TGs} {js ks : List Nat} {g : FG} {r : Sta → List PyData → Option Sta} (h1 : RG X e t js g) (h2 : RGs X es u ks r) (hs : (assignEach (e :: es) X.env).map (·.2) = assign e X.env :: (assignEach es X.env).map (·.2) := by rfl) : RGs X (e :: es) (gCons t u) (js ++ ks) (aCons g r) :=
  ⟨pgs_cons h1.pg h2.pg hs, fun hs ps σ H st st' vs xs R d e Q q => by
    cases xs with
    | nil => cases e
    | cons x xs =>
      cases d with
      | cons d1 d2 =>
        obtain ⟨st1, e1, e2⟩ := bind_some (show (g st x).bind (fun st1 => r st1 xs) = some st' from e)
        exact ⟨_, _, rfl, h1.eg hs ps σ H st st1 _ x R d1 e1 _ fun σ1 R1 o1 => h2.eg hs ps σ1 H st1 st' _ xs R1 d2 e2 _ fun σ2 R2 o2 => q σ2 R2 ((o1.mono (by simp; intro i h; exact .inl h)).trans (o2.mono (by simp; intro i h; exact .inr h)))⟩⟩
theorem rg_tup {k n : Nat} {t : TGs} {js : List Nat} {r : Sta → List PyData → Option Sta} (hc : X.calm = true) (h : RGs X es t js r) (hn : (assignEach es X.env).length = n := by rfl) (hst : (assignEach es X.env).findIdx? (·.1) = none := by rfl) : RG X (.Tuple es k pos) (gTup X.K n t) js (aTup n r) :=
  ⟨pg_tup hc h.pg hn hst, fun hs ps σ H st st' v x R d e Q q => by
    unfold aTup at e
    split at e
    · split at e
      · rename_i hl
        obtain ⟨p, ws, rfl, hp, da⟩ := dp_tuple d
        exact ⟨p, ws, rfl, sqT_mono hid_sub hp, by rw [da.len]; exact hl, h.eg hs ps σ H _ st' ws _ R da e Q q⟩
      · cases e
    · cases e⟩
end

/-! ### what is walked -/
/-- the items xs, at each turn -/
def YD (K : PySem.W.Frag) (hs : List Addr) (H2 : Hp) (xs : List PyData) : Nat → Hp → V → Hp → Prop := fun i H3 x H' => Step [] H3 H' ∧ ∃ d, xs[i]? = some d ∧ ∀ hs' : List Addr, (∀ a ∈ hs', a ∉ hs → H2 a = none) → (∀ a ∈ hs', H3 a ≠ none) → Dp K (hid hs' H') x d
def GD (hs : List Addr) (H2 : Hp) : Hp → Prop := fun H3 => ∀ a o, a ∉ hs → H2 a = some o → H3 a = some o
def EDI (K : PySem.W.Frag) (ti : TI) (st : Sta) (xs : List PyData) (cs' : Cs) : Prop :=
  ∀ hs ps σ H, Rel K hs ps σ H st → ∀ R : It → Hp → Prop, (∀ J H2, Step ps H H2 → Rel K hs ps σ H2 ⟨st.ds, cs'⟩ → Walk J xs.length (GD hs H2) (YD K hs H2 xs) → R J H2) → ti σ H R
structure RI (X : Cx) (tg iter : Expr) (f : FL) : Prop where
  h : ∀ st xs c, f st = some (xs, c) → EDI X.K (wI X tg iter) st xs c
instance (X : Cx) (tg iter : Expr) (f : FL) : CoeFun (RI X tg iter f) (fun _ => ∀ st xs c, f st = some (xs, c) → EDI X.K (wI X tg iter) st xs c) := ⟨fun r => r.h⟩
section
variable {X : Cx} {tg e a b : Expr} {st : Sta} {c : Cs} {fe : FE} {fl : FL} {fa : FA} {p pos : Pos}
theorem RI.of {t : TI} {xs : List PyData} (p : PI X tg e t) (k : EDI X.K t st xs c) : EDI X.K (wI X tg e) st xs c := fun hs ps σ H R Q q pins s I => p.run pins s σ H Q I (k hs ps σ H R Q q)
theorem GD.sub {hs hs' : List Addr} {H2 H3 : Hp} (g : GD hs H2 H3) (h : ∀ a ∈ hs', a ∉ hs → H2 a = none) : Sub (hid hs H2) (hid hs' H3) := fun a o e => by
  obtain ⟨n, q⟩ := hid_some e
  rw [hid_out fun m => by rw [h a m n] at q; cases q]
  exact g a o n q
theorem sqL_gd {K : PySem.W.Frag} {hs : List Addr} {H2 H3 : Hp} {p : Addr} {xs : List V} (g : GD hs H2 H3) (h : SqL K (hid hs H2) p xs) : SqL K H3 p xs := sqL_mono hid_sub (sqL_mono (g.sub (hs' := hs) fun _ m n => absurd m n) h)
theorem sqT_gd {K : PySem.W.Frag} {hs : List Addr} {H2 H3 : Hp} {p : Addr} {xs : List V} (g : GD hs H2 H3) (h : SqT K (hid hs H2) p xs) : SqT K H3 p xs := sqT_mono hid_sub (sqT_mono (g.sub (hs' := hs) fun _ m n => absurd m n) h)
theorem walk_dL {K : PySem.W.Frag} {hs : List Addr} {H2 : Hp} {p : Addr} {ws : List V} {ds : List PyData} (hp : SqL K (hid hs H2) p ws) (da : DpAll K (hid hs H2) ws ds) : Walk (Itl K p) ds.length (GD hs H2) (YD K hs H2 ds) := by
  rw [← da.len]
  refine (walk_list (K := K) (a := p) (xs := ws)).mono (fun H3 g => sqL_gd g hp) fun i H3 x H' _ g y => ?_
  obtain ⟨rfl, y⟩ := y
  obtain ⟨d, h1, h2⟩ := da.getV y
  exact ⟨Step.refl _, d, h1, fun hs' h3 _ => h2.up (g.sub h3)⟩
theorem walk_dT {K : PySem.W.Frag} {hs : List Addr} {H2 : Hp} {p : Addr} {ws : List V} {ds : List PyData} (hp : SqT K (hid hs H2) p ws) (da : DpAll K (hid hs H2) ws ds) : Walk (Itt K p) ds.length (GD hs H2) (YD K hs H2 ds) := by
  rw [← da.len]
  refine (walk_tup (K := K) (a := p) (xs := ws)).mono (fun H3 g => sqT_gd g hp) fun i H3 x H' _ g y => ?_
  obtain ⟨rfl, y⟩ := y
  obtain ⟨d, h1, h2⟩ := da.getV y
  exact ⟨Step.refl _, d, h1, fun hs' h3 _ => h2.up (g.sub h3)⟩
/-- over a list; over a tuple -/
def fItL (a : FE) : FL := fun st => (a st).bind fun q => match q.1 with
  | .list xs => some (xs, q.2)
  | _ => none
def fItT (a : FE) : FL := fun st => (a st).bind fun q => match q.1 with
  | .tuple xs => some (xs, q.2)
  | _ => none
theorem ri_list (ha : RE X a fe) : RI X tg a (fItL fe) := .mk fun st xs c h => by
  obtain ⟨⟨y, c1⟩, h1, h⟩ := bind_some h
  simp only at h
  split at h <;> cases h
  exact RI.of (pi_list (pwE a)) fun hs ps σ H R Q q => ha _ _ _ h1 hs ps σ H R _ fun v H2 s2 R2 d2 => by
    obtain ⟨p, ws, rfl, hp, da⟩ := dp_list d2
    exact ⟨p, rfl, ⟨ws, sqL_mono hid_sub hp⟩, q _ H2 s2 R2 (walk_dL hp da)⟩
theorem ri_tup (ha : RE X a fe) : RI X tg a (fItT fe) := .mk fun st xs c h => by
  obtain ⟨⟨y, c1⟩, h1, h⟩ := bind_some h
  simp only at h
  split at h <;> cases h
  exact RI.of (pi_tup (pwE a)) fun hs ps σ H R Q q => ha _ _ _ h1 hs ps σ H R _ fun v H2 s2 R2 d2 => by
    obtain ⟨p, ws, rfl, hp, da⟩ := dp_tuple d2
    exact ⟨p, rfl, ⟨ws, sqT_mono hid_sub hp⟩, q _ H2 s2 R2 (walk_dT hp da)⟩
/-- over either -/
def fIt (a : FE) : FL := fun st => (a st).bind fun q => match q.1 with
  | .list xs => some (xs, q.2)
  | .tuple xs => some (xs, q.2)
  | _ => none
theorem ri_seq (ha : RE X a fe) : RI X tg a (fIt fe) := .mk fun st xs c h => by
  obtain ⟨⟨y, c1⟩, h1, h2⟩ := bind_some h
  cases y with
  | list ys => exact ri_list ha st xs c (by unfold fItL; rw [h1]; exact h2)
  | tuple ys => exact ri_tup ha st xs c (by unfold fItT; rw [h1]; exact h2)
  | _ => cases h2
def rangeD (lo : Int) (n : Nat) : List PyData := (List.range n).map fun i => .int (lo + (i : Nat))
def rngOk (i : Int) : Bool := decide (-(2 ^ 62) ≤ i ∧ i < 2 ^ 62)
theorem walk_dR {K : PySem.W.Frag} {hs : List Addr} {H2 : Hp} {lo : Int} {n : Nat} : Walk (Itr lo n) (rangeD lo n).length (GD hs H2) (YD K hs H2 (rangeD lo n)) := by
  have e : (rangeD lo n).length = n := by simp [rangeD]
  rw [e]
  refine (walk_range (lo := lo) (n := n)).mono (fun _ _ => trivial) fun i H3 x H' hi g y => ?_
  obtain ⟨rfl, rfl⟩ := y
  exact ⟨Step.refl _, .int (lo + i), by simp [rangeD, List.getElem?_map, List.getElem?_range hi], fun _ _ _ => .int _⟩
def fRng1 (a : FA) : FL := fun st => (a st).bind fun q => match q.1 with
  | [.dat (.int j)] => if rngOk j = true then some (rangeD 0 j.toNat, q.2) else none
  | _ => none
theorem ri_range1 (hg : Gl X "range") (hm : X.mg "range" = none) (ha : RA X [a] fa) (hs : starEach [a] X.env = [(false, eval a X.env)] := by rfl) : RI X tg (.Call (.Name "range" p) [a] [] pos) (fRng1 fa) := .mk fun st xs c h => by
  obtain ⟨⟨y, c1⟩, h1, h⟩ := bind_some h
  simp only at h
  split at h
  · split at h <;> cases h
    rename_i hok
    have hk := of_decide_eq_true (show decide _ = true from hok)
    exact RI.of (pi_range1 hg hm (pwA [a]) hs) fun hs ps σ H R Q q => ha _ _ _ h1 hs ps σ H R _ fun vs H2 s2 R2 p2 => by
      obtain ⟨v, rfl, d⟩ := dpa1 (paired_dat (ds := [_]) p2)
      cases dp_int d
      exact ⟨_, rfl, hk.1, hk.2, q _ H2 s2 R2 walk_dR⟩
  · cases h
def fRng2 (a : FA) : FL := fun st => (a st).bind fun q => match q.1 with
  | [.dat (.int i), .dat (.int j)] => if rngOk i = true ∧ rngOk j = true then some (rangeD i (j - i).toNat, q.2) else none
  | _ => none
theorem ri_range2 (hg : Gl X "range") (hm : X.mg "range" = none) (ha : RA X [a, b] fa) (hs : starEach [a, b] X.env = [(false, eval a X.env), (false, eval b X.env)] := by rfl) (hs2 : starEach [b] X.env = [(false, eval b X.env)] := by rfl) : RI X tg (.Call (.Name "range" p) [a, b] [] pos) (fRng2 fa) := .mk fun st xs c h => by
  obtain ⟨⟨y, c1⟩, h1, h⟩ := bind_some h
  simp only at h
  split at h
  · split at h <;> cases h
    rename_i hok
    have hk := of_decide_eq_true (show decide _ = true from hok.1)
    have hk2 := of_decide_eq_true (show decide _ = true from hok.2)
    exact RI.of (pi_range2 hg hm (pwA [a, b]) hs hs2) fun hs ps σ H R Q q => ha _ _ _ h1 hs ps σ H R _ fun vs H2 s2 R2 p2 => by
      obtain ⟨v, w, rfl, d, d2⟩ := dpa2 (paired_dat (ds := [_, _]) p2)
      cases dp_int d
      cases dp_int d2
      exact ⟨_, _, rfl, ⟨hk.1, hk.2, hk2.1, hk2.2⟩, q _ H2 s2 R2 walk_dR⟩
  · cases h
end

/-! ### list comprehensions -/
theorem wipe_get {σ : St} {i : Nat} {vs : List Nat} (h : i ∉ vs) : (wipe σ vs)[i]? = σ[i]? := by
  induction vs with
  | nil => rfl
  | cons v vs ih =>
    unfold wipe
    rw [List.getElem?_set_ne (fun e => h (by rw [e]; exact List.mem_cons_self)), ih fun m => h (List.mem_cons_of_mem _ m)]
theorem wipe_in {σ : St} {i : Nat} {vs : List Nat} (h : i ∈ vs) (hl : i < σ.length) : (wipe σ vs)[i]? = some none := by
  induction vs with
  | nil => cases h
  | cons v vs ih =>
    unfold wipe
    by_cases e : v = i
    · subst e
      rw [List.getElem?_set_self (by rw [wipe_length]; exact hl)]
    · rw [List.getElem?_set_ne e]
      exact ih (by rcases List.mem_cons.mp h with q | q; exact absurd q.symm e; exact q)
theorem wipe_only {σ σ2 : St} {vs js : List Nat} (o : Only js (wipe σ vs) σ2) (h : ∀ j ∈ js, j ∈ vs) : wipe σ2 vs = wipe σ vs := by
  apply List.ext_getElem?
  intro i
  have hl : σ2.length = σ.length := by rw [o.1, wipe_length]
  by_cases m : i ∈ vs
  · by_cases hi : i < σ.length
    · rw [wipe_in m hi, wipe_in m (by rw [hl]; exact hi)]
    · rw [List.getElem?_eq_none (by rw [wipe_length, hl]; omega), List.getElem?_eq_none (by rw [wipe_length]; omega)]
  · rw [wipe_get m, o.2 i fun z => m (h i z), wipe_get m]
def wipeD (ds : Slots) : List Nat → Slots
  | [] => ds
  | v :: vs => (wipeD ds vs).set v none
theorem wipeD_length (ds : Slots) : ∀ vs : List Nat, (wipeD ds vs).length = ds.length
  | [] => rfl
  | v :: vs => by unfold wipeD; rw [List.length_set, wipeD_length ds vs]
theorem wipeD_some {ds : Slots} {i : Nat} {x : SV} : ∀ {vs : List Nat}, (wipeD ds vs)[i]? = some (some x) → ds[i]? = some (some x) ∧ i ∉ vs
  | [], h => ⟨h, by simp⟩
  | v :: vs, h => by
    unfold wipeD at h
    by_cases hi : v = i
    · subst hi
      by_cases hv : v < (wipeD ds vs).length
      · rw [List.getElem?_set_self hv] at h; cases h
      · rw [List.getElem?_eq_none (by simpa using hv)] at h; cases h
    · rw [List.getElem?_set_ne hi] at h
      obtain ⟨h1, h2⟩ := wipeD_some h
      exact ⟨h1, by simp only [List.mem_cons, not_or]; exact ⟨fun e => hi e.symm, h2⟩⟩
theorem Rel.wipe {K : PySem.W.Frag} {hs ps : List Addr} {σ : St} {H : Hp} {st : Sta} (R : Rel K hs ps σ H st) (vs : List Nat) : Rel K hs ps (wipe σ vs) H ⟨wipeD st.ds vs, st.cs⟩ :=
  ⟨R.hr, by rw [wipe_length, R.len]; exact (wipeD_length _ _).symm, fun i x e => by
    obtain ⟨h1, h2⟩ := wipeD_some e
    obtain ⟨v, h3, h4⟩ := R.slot i x h1
    exact ⟨v, by rw [wipe_get h2]; exact h3, h4⟩⟩
/-- the turns: what is made so far, the cells -/
def lcGo (g : FG) (t : FT) (el : FE) (ds : Slots) : List PyData → Cs → Option (List PyData × Cs)
  | [], c => some ([], c)
  | x :: xs, c => (g ⟨ds, c⟩ x).bind fun st1 => (t st1).bind fun q => if q.1 = true then (el ⟨st1.ds, q.2⟩).bind fun y => (lcGo g t el ds xs y.2).map fun r => (y.1 :: r.1, r.2) else lcGo g t el ds xs q.2
def fLc (it : FL) (g : FG) (t : FT) (el : FE) (vs : List Nat) : FL := fun st => (it st).bind fun p => if p.1.length ≤ LIM then lcGo g t el (wipeD st.ds vs) p.1 p.2 else none
def fYes : FT := fun st => some (true, st.cs)
def lE (X : Cx) (scope : Scope) (e : Expr) : TE := fun σ H Q => ∀ (s : Shared) (H0 : Hp) (C : Addr) (cl : List (Str × Addr)) (fp : List Addr), wE (X.blk s H0 scope (compEnvC scope cl C X.env) fp) e σ H Q
def lT (X : Cx) (scope : Scope) (ifs : List Expr) : TT := fun σ H Q => ∀ (s : Shared) (H0 : Hp) (C : Addr) (cl : List (Str × Addr)) (fp : List Addr) (pins : List (Addr × Obj)) (s1 : Shared), L2.Inv (X.blk s H0 scope (compEnvC scope cl C X.env) fp) pins σ H s1 →
  wpAny (model X.prog X.w) X.A (forIn ifs true fun c r => if r = true then do let ok ← PySem.isTrue c (compEnvC scope cl C X.env) (eval c (compEnvC scope cl C X.env)); pure (ForInStep.yield ok) else pure (ForInStep.yield r)) (TP (X.blk s H0 scope (compEnvC scope cl C X.env) fp) pins σ Q) (fun _ _ => False) s1
/-- the tests of a clause -/
structure RTs (X : Cx) (ifs : List Expr) (f : FT) : Prop where
  h : ∃ t, PTs X ifs t ∧ ∀ st d c, f st = some (d, c) → EDT X.K t st d c
theorem rts_nil {X : Cx} : RTs X [] fYes := ⟨_, pts_nil, fun st d c h => by
  cases h
  exact fun hs ps σ H R Q q => q H (Step.refl H) R⟩
theorem rts_one {X : Cx} {e : Expr} {f : FT} (h : RT X e f) : RTs X [e] f := ⟨_, pts_one (pwT e), h⟩
section
variable {X : Cx} {elt tg iter : Expr} {ifs : List Expr} {scope : Scope} {own : List (Str × Nat)} {pos : Pos} {g : TG} {it : FL} {fg : FG} {ft : FT} {fe : FE} {js : List Nat}
theorem ptL (ht : ∀ (s : Shared) (H : Hp) (C : Addr) (cl : List (Str × Addr)) (fp : List Addr), RTs (X.blk s H scope (compEnvC scope cl C X.env) fp) ifs ft) : ∀ (s : Shared) (H : Hp) (C : Addr) (cl : List (Str × Addr)) (fp : List Addr), PTs (X.blk s H scope (compEnvC scope cl C X.env) fp) ifs (lT X scope ifs) := fun s H C cl fp => ⟨fun pins s1 σ H1 Q I k => k s H C cl fp pins s1 I⟩
theorem peL : ∀ (s : Shared) (H : Hp) (C : Addr) (cl : List (Str × Addr)) (fp : List Addr), PE (X.blk s H scope (compEnvC scope cl C X.env) fp) elt (lE X scope elt) := fun s H C cl fp => ⟨fun pins s1 σ H1 Q I k => k s H C cl fp pins s1 I⟩
theorem edl_lc (s0 : Shared) (hi : RI X tg iter it)
    (hg : ∀ (s : Shared) (H : Hp) (C : Addr) (cl : List (Str × Addr)) (fp : List Addr), RG (X.blk s H scope (compEnvC scope cl C X.env) fp) tg g js fg) (ht : ∀ (s : Shared) (H : Hp) (C : Addr) (cl : List (Str × Addr)) (fp : List Addr), RTs (X.blk s H scope (compEnvC scope cl C X.env) fp) ifs ft)
    (he : ∀ (s : Shared) (H : Hp) (C : Addr) (cl : List (Str × Addr)) (fp : List Addr), RE (X.blk s H scope (compEnvC scope cl C X.env) fp) elt fe) (hj : ∀ j ∈ js, j ∈ own.map (·.2)) {st : Sta} {d : List PyData} {c : Cs} (h : fLc it fg ft fe (own.map (·.2)) st = some (d, c)) :
    EDL X.K (tLc (wI X tg iter) g (lT X scope ifs) (lE X scope elt) (own.map (·.2))) st d c := by
  obtain ⟨⟨xs, c1⟩, h1, h⟩ := bind_some h
  simp only at h
  split at h
  · rename_i hlim
    have kt : ∀ st d c, ft st = some (d, c) → EDT X.K (lT X scope ifs) st d c := fun st d c e hs ps σ H R Q q s H0 C cl fp pins s1 I => by
      obtain ⟨t, k1, k2⟩ := ht s H0 C cl fp
      exact k1.run pins s1 σ H Q I (k2 _ _ _ e hs ps σ H R Q q)
    have ke : ∀ st d c, fe st = some (d, c) → ED X.K (lE X scope elt) st d c := fun st d c e hs ps σ H R Q q s H0 C cl fp => he s H0 C cl fp _ _ _ e hs ps σ H R Q q
    have kg : EG X.K g js fg := (hg s0 (fun _ => none) 0 [] []).eg
    refine fun hs ps σ H R Q q => hi _ _ _ h1 hs ps σ H R _ fun J H2 s2 R2 W => fun D hD => ?_
    -- one turn after another: what is still to come gives the rest of d
    have sD : Step [] H2 (upd H2 D (.lst [])) := Step.new hD
    have nD : D ∉ hs := fun m => R2.hr.trk D m hD
    have fr : ∀ a ∈ D :: hs, a ∉ hs → H2 a = none := fresh_hid hD
    have hD0 : H D = none := DL.fresh_back s2 R2.hr hD
    refine lc_it W (fun i H3 => ∃ (acc : List V) (d1 d2 : List PyData) (ci : Cs), i ≤ xs.length ∧ H3 D = some (.lst acc) ∧ DpAll X.K (hid (D :: hs) H3) acc d1 ∧ d1.length ≤ i ∧ d = d1 ++ d2 ∧ lcGo fg ft fe (wipeD st.ds (own.map (·.2))) (xs.drop i) ci = some (d2, c) ∧ GD (D :: ps) H2 H3 ∧ Rel X.K (D :: hs) ps σ H3 ⟨st.ds, ci⟩) ?_ ?_ ?_ ?_
    · exact ⟨[], [], d, c1, Nat.zero_le _, upd_same, .nil, Nat.zero_le _, rfl, h, fun a o n e => by rw [upd_ne (fun z => n (by simp [z]))]; exact e, R2.more sD hD (by rw [upd_same]; simp)⟩
    · rintro i H3 _ ⟨acc, d1, d2, ci, _, _, _, _, _, _, g3, R3⟩
      exact fun a o n e => g3 a o (fun z => by
        rcases List.mem_cons.mp z with z | z
        · rw [z, hD] at e; cases e
        · exact n (R2.hr.sub a z)) e
    · rintro i x H3 H4 hi' ⟨acc, d1, d2, ci, hile, e3, da, hl, ed, go, g3, R3⟩ ⟨s4, dx, ex, kx⟩
      have edr : xs.drop i = dx :: xs.drop (i + 1) := by
        have hlt : i < xs.length := hi'
        rw [List.drop_eq_getElem_cons hlt]
        rw [List.getElem?_eq_getElem hlt] at ex
        cases ex; rfl
      rw [edr] at go
      obtain ⟨st1, go1, go⟩ := bind_some go
      obtain ⟨⟨b, c2⟩, go2, go⟩ := bind_some go
      have R4 : Rel X.K (D :: hs) ps σ H4 ⟨st.ds, ci⟩ := R3.step s4
      have dx' : Dp X.K (hid (D :: hs) H4) x dx := kx _ fr R3.hr.trk
      refine kg (D :: hs) ps _ H4 ⟨wipeD st.ds (own.map (·.2)), ci⟩ st1 x dx (R4.wipe _) dx' go1 _ (fun σ2 R5 o5 => ?_)
      refine ⟨wipe_only o5 hj, ?_⟩
      refine kt _ _ _ go2 (D :: hs) ps σ2 H4 R5 _ fun H5 s5 R6 => ?_
      -- the cells may have changed; the new list has not
      have nps : D ∉ ps := fun m => nD (R.hr.sub D m)
      have e5 : H5 D = some (.lst acc) := s5 D _ nps (s4 D _ (by simp) e3)
      have da5 : DpAll X.K (hid (D :: hs) H5) acc d1 := da.up (((s4.mono (qs := ps) (by simp)).trans s5).hd0 R3.hr.sub)
      have g5 : GD (D :: ps) H2 H5 := fun a o n e => s5 a o (fun z => n (List.mem_cons_of_mem _ z)) (s4 a o (by simp) (g3 a o n e))
      have R5' : Rel X.K (D :: hs) ps σ H5 ⟨st.ds, c2⟩ := R4.slots (s5.hd0 R3.hr.sub) R6.hr
      cases b with
      | false =>
        rw [if_neg (by simp)] at go ⊢
        exact ⟨acc, d1, d2, c2, hi', e5, da5, by omega, ed, go, g5, R5'⟩
      | true =>
        rw [if_pos rfl] at go ⊢
        obtain ⟨⟨y, c3⟩, go3, go⟩ := bind_some go
        obtain ⟨⟨r, c4⟩, go4, er⟩ := map_some go
        cases er
        refine ke _ _ _ go3 (D :: hs) ps σ2 H5 R6 _ fun v H6 s6 R7 d7 => ?_
        have e6 : H6 D = some (.lst acc) := s6 D _ nps e5
        have hal : acc.length ≤ i := by rw [da.len]; exact hl
        refine ⟨acc, e6, Nat.lt_of_lt_of_le (Nat.lt_of_le_of_lt hal (Nat.lt_of_lt_of_le hi' hlim)) (by decide), ?_⟩
        have sB : Sub (hid (D :: hs) H6) (hid (D :: hs) (upd H6 D (.lst (acc ++ [v])))) := fun a o e => by
          obtain ⟨n, k⟩ := hid_some e
          rw [hid_out n, upd_ne (fun z => n (by simp [z]))]; exact k
        have R6' : Rel X.K (D :: hs) ps σ H6 ⟨st.ds, c3⟩ := R5'.slots (s6.hd0 R3.hr.sub) R7.hr
        refine ⟨acc ++ [v], d1 ++ [y], r, c3, hi', upd_same, ((da5.up (s6.hd0 R3.hr.sub)).app (.cons d7 .nil)).up sB, by simp; exact hl, by rw [ed]; simp, go4, fun a o n e => ?_, R6'.slots sB ⟨R6'.hr.sub, R6'.hr.nd, R6'.hr.len, fun a m => ?_, fun j p zs k1 k2 => ?_⟩⟩
        · rw [upd_ne (fun z => n (by simp [z]))]
          exact s6 a o (fun z => n (List.mem_cons_of_mem _ z)) (g5 a o n e)
        · by_cases ha : a = D
          · rw [ha, upd_same]; simp
          · rw [upd_ne ha]; exact R6'.hr.trk a m
        · obtain ⟨vs, q1, q2⟩ := R6'.hr.cel j p zs k1 k2
          have hpD : p ≠ D := fun z => nps (z ▸ List.mem_of_getElem? k1)
          exact ⟨vs, by rw [upd_ne hpD]; exact q1, q2.up sB⟩
    · rintro H3 ⟨acc, d1, d2, ci, _, e3, da, _, ed, go, g3, R3⟩
      rw [List.drop_eq_nil_of_le (Nat.le_refl _)] at go
      cases go
      rw [List.append_nil] at ed
      subst ed
      exact q D acc H3 hD0 (fun a o n e => g3 a o (fun z => by
        rcases List.mem_cons.mp z with z | z
        · rw [z, hD0] at e; cases e
        · exact n z) (s2 a o n e)) R3 e3 da
  · cases h
theorem rl_lc (hc : X.calm = true) (hN : X.N.Nodup) (hi : RI X tg iter it) (ok : BlkOk X.N X.env.scope scope own)
    (hg : ∀ (s : Shared) (H : Hp) (C : Addr) (cl : List (Str × Addr)) (fp : List Addr), RG (X.blk s H scope (compEnvC scope cl C X.env) fp) tg g js fg) (ht : ∀ (s : Shared) (H : Hp) (C : Addr) (cl : List (Str × Addr)) (fp : List Addr), RTs (X.blk s H scope (compEnvC scope cl C X.env) fp) ifs ft)
    (he : ∀ (s : Shared) (H : Hp) (C : Addr) (cl : List (Str × Addr)) (fp : List Addr), RE (X.blk s H scope (compEnvC scope cl C X.env) fp) elt fe) (hj : ∀ j ∈ js, j ∈ own.map (·.2)) (hs : ∀ x, foldedSetIterable iter X.env x = pure x := by intro _; rfl) :
    RL X (.ListComp elt [⟨tg, iter, ifs, 0⟩] scope pos) (fLc it fg ft fe (own.map (·.2))) := .mk fun st d c h =>
  fun hs' ps σ H R Q q pins s I => RL.of (pe_lc hc hN (pwI tg iter) ok (fun s H C cl fp => (hg s H C cl fp).pg) (ptL ht) peL hs) (edl_lc s hi hg ht he hj h) hs' ps σ H R Q q pins s I
end
end DL


set_option Elab.async false
set_option linter.all false
set_option maxRecDepth 100000
set_option maxHeartbeats 4000000
namespace DL
open PySem PySem.Spec L2
open PyProof.Rows hiding St

/-! ### statements -/
inductive RV where
  | dat (d : PyData) | new (xs : List PyData)
inductive Out where
  | nx (st : Sta) | rt (r : RV) (cs : Cs) | bk (st : Sta) | ct (st : Sta)
abbrev FS := Sta → Option Out
/-- since the entry of the def -/
structure Lv (hs0 ps0 : List Addr) (H0 : Hp) (hs ps : List Addr) (H : Hp) : Prop where
  pre : ∃ l, ps = ps0 ++ l
  nps : ∀ a ∈ ps, a ∉ ps0 → H0 a = none
  nhs : ∀ a ∈ hs, a ∉ hs0 → H0 a = none
  hss : ∀ a ∈ hs0, a ∈ hs
  stp : Step ps0 H0 H
theorem Lv.step {hs0 ps0 hs ps : List Addr} {H0 H H' : Hp} (L : Lv hs0 ps0 H0 hs ps H) (s : Step ps H H') : Lv hs0 ps0 H0 hs ps H' :=
  ⟨L.pre, L.nps, L.nhs, L.hss, fun a o n e => s a o (fun m => by rw [L.nps a m n] at e; cases e) (L.stp a o n e)⟩
section
variable (K : PySem.W.Frag) (n0 : Nat)
def Post (hs0 ps0 : List Addr) (H0 : Hp) (D : Ends) : Out → Prop
  | .nx st => ∀ hs ps σ H, Lv hs0 ps0 H0 hs ps H → Rel K hs ps σ H st → D.nx σ H
  | .bk st => ∀ hs ps σ H, Lv hs0 ps0 H0 hs ps H → Rel K hs ps σ H st → D.bk σ H
  | .ct st => ∀ hs ps σ H, Lv hs0 ps0 H0 hs ps H → Rel K hs ps σ H st → D.ct σ H
  | .rt (.dat d) cs => ∀ hs ps v H, Lv hs0 ps0 H0 hs ps H → HR K hs ps H cs → Dp K (hid hs H) v d → D.rt v H
  | .rt (.new xs) cs => ∀ hs ps p vs H, Lv hs0 ps0 H0 hs ps H → p ∈ hs → H0 p = none → HR K hs ps H cs → H p = some (.lst vs) → DpAll K (hid hs H) vs xs → D.rt (.ref p) H
def SD (ts : TS) (st : Sta) (o : Out) : Prop := ∀ hs0 ps0 H0, ps0.length ≤ n0 → (∀ p ∈ hs0, H0 p ≠ none) → ∀ hs ps σ H, Lv hs0 ps0 H0 hs ps H → Rel K hs ps σ H st → ∀ D : Ends, Post K hs0 ps0 H0 D o → ts D σ H
end
structure RS (X : Cx) (n0 : Nat) (s : Stmt) (f : FS) : Prop where
  h : ∀ st o, f st = some o → SD X.K n0 (wS X s) st o
instance (X : Cx) (n0 : Nat) (s : Stmt) (f : FS) : CoeFun (RS X n0 s f) (fun _ => ∀ st o, f st = some o → SD X.K n0 (wS X s) st o) := ⟨fun r => r.h⟩
structure RSs (X : Cx) (n0 : Nat) (ss : List Stmt) (f : FS) : Prop where
  h : ∀ st o, f st = some o → SD X.K n0 (wSs X ss) st o
instance (X : Cx) (n0 : Nat) (ss : List Stmt) (f : FS) : CoeFun (RSs X n0 ss f) (fun _ => ∀ st o, f st = some o → SD X.K n0 (wSs X ss) st o) := ⟨fun r => r.h⟩
section
variable {X : Cx} {n0 : Nat} {s : Stmt} {ss : List Stmt} {st : Sta} {o : Out}
theorem RS.of {t : TS} (p : PS X s t) (k : SD X.K n0 t st o) : SD X.K n0 (wS X s) st o := fun hs0 ps0 H0 h1 h2 hs ps σ H L R D q pins s I => p.run pins s σ H D I (k hs0 ps0 H0 h1 h2 hs ps σ H L R D q)
theorem RSs.of {t : TS} (p : PSs X ss t) (k : SD X.K n0 t st o) : SD X.K n0 (wSs X ss) st o := fun hs0 ps0 H0 h1 h2 hs ps σ H L R D q pins s I => p.run pins s σ H D I (k hs0 ps0 H0 h1 h2 hs ps σ H L R D q)
end
def fSkip : FS := fun st => some (.nx st)
def fSeq (a b : FS) : FS := fun st => (a st).bind fun
  | .nx st1 => b st1
  | o => some o
def fNever : FS := fun _ => none
def fRet (e : FE) : FS := fun st => (e st).map fun p => .rt (.dat p.1) p.2
def fRetL (e : FL) : FS := fun st => (e st).map fun p => .rt (.new p.1) p.2
def fRetN : FS := fun st => some (.rt (.dat .none) st.cs)
def fSet (i : Nat) (e : FE) : FS := fun st => (e st).map fun p => .nx ⟨st.ds.set i (some (.dat p.1)), p.2⟩
def fAsg (g : FG) (e : FE) : FS := fun st => (e st).bind fun p => (g ⟨st.ds, p.2⟩ p.1).map .nx
def fNew (i : Nat) (e : FL) : FS := fun st => (e st).map fun p => .nx ⟨st.ds.set i (some (.cel p.2.length)), p.2 ++ [p.1]⟩
def noCel (k : Nat) : Slots → Bool
  | [] => true
  | some (.cel j) :: r => decide (j ≠ k) && noCel k r
  | _ :: r => noCel k r
def fFrz (n0 i : Nat) (b : FS) : FS := fun st => match st.ds[i]? with
  | some (some (.cel k)) => if n0 ≤ k ∧ k + 1 = st.cs.length then (st.cs[k]?).bind fun xs => if noCel k (st.ds.set i (some (.dat (.list xs)))) = true then b ⟨st.ds.set i (some (.dat (.list xs))), st.cs.dropLast⟩ else none else none
  | _ => none
theorem take_some {α : Type} {l : List α} {n i : Nat} {x : α} (h : (l.take n)[i]? = some x) : l[i]? = some x := by
  rw [List.getElem?_take] at h
  split at h
  · exact h
  · cases h
theorem noCel_ok {k : Nat} : ∀ {ds : Slots} {i j : Nat}, noCel k ds = true → ds[i]? = some (some (.cel j)) → j ≠ k
  | [], _, _, _, e => by cases e
  | some (.cel a) :: r, 0, j, h, e => by
    have h' : (decide (a ≠ k) && noCel k r) = true := h
    rw [Bool.and_eq_true] at h'
    have e' : a = j := by simpa using e
    rw [← e']; exact of_decide_eq_true h'.1
  | some (.cel a) :: r, i + 1, j, h, e => by
    have h' : (decide (a ≠ k) && noCel k r) = true := h
    rw [Bool.and_eq_true] at h'
    exact noCel_ok (i := i) h'.2 (by simpa using e)
  | some (.dat _) :: r, 0, j, h, e => by simp at e
  | some (.fn _) :: r, 0, j, h, e => by simp at e
  | none :: r, 0, j, h, e => by simp at e
  | some (.dat _) :: r, i + 1, j, h, e => noCel_ok (ds := r) (i := i) h (by simpa using e)
  | some (.fn _) :: r, i + 1, j, h, e => noCel_ok (ds := r) (i := i) h (by simpa using e)
  | none :: r, i + 1, j, h, e => noCel_ok (ds := r) (i := i) h (by simpa using e)
def fIfS (t : FT) (a b : FS) : FS := fun st => (t st).bind fun p => if p.1 = true then a ⟨st.ds, p.2⟩ else b ⟨st.ds, p.2⟩
def fDrop (e : FE) : FS := fun st => (e st).map fun p => .nx ⟨st.ds, p.2⟩
def fPar (i j : Nat) (a : FA) : FS := fun st => (a st).bind fun p => match p.1 with
  | [.dat x, .dat y] => some (.nx ⟨(st.ds.set i (some (.dat x))).set j (some (.dat y)), p.2⟩)
  | _ => none
/-- x[k] = e, x a list of one's own: e, then k -/
def fSetc (i : Nat) (k e : FE) : FS := fun st => (e st).bind fun p => (k ⟨st.ds, p.2⟩).bind fun q => match st.ds[i]?, q.1 with
  | some (some (.cel c)), .int j => (q.2[c]?).bind fun xs => (ixN xs.length j).map fun m => .nx ⟨st.ds, q.2.set c (xs.set m p.1)⟩
  | _, _ => none
/-- x[k], y = e -/
def fSetc2 (i : Nat) (k : FE) (j : Nat) (e : FE) : FS := fun st => (e st).bind fun p => match p.1 with
  | .tuple [a, b] => (k ⟨st.ds, p.2⟩).bind fun q => match st.ds[i]?, q.1 with
    | some (some (.cel c)), .int m => (q.2[c]?).bind fun xs => (ixN xs.length m).map fun m => .nx ⟨st.ds.set j (some (.dat b)), q.2.set c (xs.set m a)⟩
    | _, _ => none
  | _ => none
def forGo (g : FG) (b : FS) : List PyData → Sta → Option Out
  | [], st => some (.nx st)
  | x :: xs, st => (g st x).bind fun st1 => (b st1).bind fun
    | .nx st2 => forGo g b xs st2
    | .ct st2 => forGo g b xs st2
    | .bk st2 => some (.nx st2)
    | .rt r c => some (.rt r c)
def fFor (it : FL) (g : FG) (b : FS) : FS := fun st => (it st).bind fun p => forGo g b p.1 ⟨st.ds, p.2⟩
def whileGo (t : FT) (b : FS) : Nat → Sta → Option Out
  | 0, _ => none
  | n + 1, st => (t st).bind fun p => if p.1 = true then (b ⟨st.ds, p.2⟩).bind fun
      | .nx st2 => whileGo t b n st2
      | .ct st2 => whileGo t b n st2
      | .bk st2 => some (.nx st2)
      | .rt r c => some (.rt r c)
    else some (.nx ⟨st.ds, p.2⟩)
def FUEL : Nat := 2 ^ 10000
def fWhile (t : FT) (b : FS) : FS := whileGo t b FUEL
section
variable {K : PySem.W.Frag} {hs ps hs0 ps0 : List Addr} {σ : St} {H H0 H2 : Hp} {st : Sta} {cs : Cs}
/-- a list of one's own is stored into -/
theorem Rel.put (R : Rel K hs ps σ H st) {c m : Nat} {p : Addr} {xs : List PyData} {vs : List V} {v : V} {d : PyData} (hp : ps[c]? = some p) (hx : st.cs[c]? = some xs) (hv : H p = some (.lst vs)) (da : DpAll K (hid hs H) vs xs) (dv : Dp K (hid hs H) v d) :
    Step ps H (upd H p (.lst (vs.set m v))) ∧ Rel K hs ps σ (upd H p (.lst (vs.set m v))) ⟨st.ds, st.cs.set c (xs.set m d)⟩ := by
  have hin := R.hr.sub p (List.mem_of_getElem? hp)
  have sb : Sub (hid hs H) (hid hs (upd H p (.lst (vs.set m v)))) := fun a o e => by
    obtain ⟨n, k⟩ := hid_some e
    rw [hid_out n, upd_ne (fun z => n (by rw [z]; exact hin))]; exact k
  refine ⟨fun a o n e => by rw [upd_ne (fun z => n (by rw [z]; exact List.mem_of_getElem? hp))]; exact e, R.slots sb ⟨R.hr.sub, R.hr.nd, by simp [R.hr.len], fun a ma => ?_, fun i q ys k1 k2 => ?_⟩⟩
  · by_cases e : a = p
    · rw [e, upd_same]; simp
    · rw [upd_ne e]; exact R.hr.trk a ma
  · by_cases e : c = i
    · subst e
      rw [hp] at k1
      cases k1
      have hl : c < st.cs.length := by
        by_cases hl : c < st.cs.length
        · exact hl
        · rw [List.getElem?_eq_none (by omega)] at hx; cases hx
      rw [List.getElem?_set_self hl] at k2
      cases k2
      exact ⟨_, upd_same, (da.set' m dv).up sb⟩
    · rw [List.getElem?_set_ne e] at k2
      obtain ⟨ws, q1, q2⟩ := R.hr.cel i q ys k1 k2
      have hne : q ≠ p := fun z => by
        subst z
        have h1 : c < ps.length := by
          by_cases hl : c < ps.length
          · exact hl
          · rw [List.getElem?_eq_none (by omega)] at hp; cases hp
        have h2 : i < ps.length := by
          by_cases hl : i < ps.length
          · exact hl
          · rw [List.getElem?_eq_none (by omega)] at k1; cases k1
        exact e ((List.getElem_inj R.hr.nd).mp (by
          rw [List.getElem?_eq_getElem h1] at hp
          rw [List.getElem?_eq_getElem h2] at k1
          rw [Option.some.inj hp, Option.some.inj k1]))
      exact ⟨ws, by rw [upd_ne hne]; exact q1, q2.up sb⟩
/-- a new list of one's own -/
theorem Rel.own (L : Lv hs0 ps0 H0 hs ps H) {p : Addr} {vs : List V} {xs : List PyData} (i : Nat) (hp : H p = none) (s : Step ps H H2) (R2 : Rel K (p :: hs) ps σ H2 ⟨st.ds, cs⟩) (e : H2 p = some (.lst vs)) (da : DpAll K (hid (p :: hs) H2) vs xs) (R : Rel K hs ps σ H st) :
    Lv hs0 ps0 H0 (p :: hs) (ps ++ [p]) H2 ∧ Rel K (p :: hs) (ps ++ [p]) (σ.set i (some (.ref p))) H2 ⟨st.ds.set i (some (.cel cs.length)), cs ++ [xs]⟩ := by
  have hp0 : H0 p = none := by
    cases q : H0 p with
    | none => rfl
    | some o =>
      by_cases m : p ∈ ps0
      · obtain ⟨l, el⟩ := L.pre
        exact absurd hp (R.hr.trk p (R.hr.sub p (by rw [el]; exact List.mem_append_left _ m)))
      · rw [L.stp p o m q] at hp; cases hp
  have npp : p ∉ ps := fun m => R.hr.trk p (R.hr.sub p m) hp
  obtain ⟨l, el⟩ := L.pre
  have L2 := L.step s
  refine ⟨⟨⟨l ++ [p], by rw [el]; simp⟩, fun a m n => ?_, fun a m n => ?_, fun a m => List.mem_cons_of_mem _ (L.hss a m), L2.stp⟩, ?_⟩
  · rcases List.mem_append.mp m with m | m
    · exact L.nps a m n
    · rw [List.mem_singleton.mp m]; exact hp0
  · rcases List.mem_cons.mp m with m | m
    · rw [m]; exact hp0
    · exact L.nhs a m n
  · have HR2 : HR K (p :: hs) (ps ++ [p]) H2 (cs ++ [xs]) := by
      refine ⟨fun a m => ?_, ?_, by simp [R2.hr.len], R2.hr.trk, fun j q ys k1 k2 => ?_⟩
      · rcases List.mem_append.mp m with m | m
        · exact R2.hr.sub a m
        · rw [List.mem_singleton.mp m]; exact List.mem_cons_self
      · rw [List.nodup_append]
        exact ⟨R2.hr.nd, by simp, fun a ma b mb => by rw [List.mem_singleton.mp mb]; exact fun z => npp (z ▸ ma)⟩
      · by_cases hj : j < ps.length
        · rw [List.getElem?_append_left hj] at k1
          rw [List.getElem?_append_left (by rw [← R2.hr.len]; exact hj)] at k2
          exact R2.hr.cel j q ys k1 k2
        · rw [List.getElem?_append_right (by omega)] at k1
          rw [List.getElem?_append_right (by rw [← R2.hr.len]; omega)] at k2
          have hj2 : j = ps.length := by
            by_cases z : j - ps.length = 0
            · omega
            · rw [List.getElem?_eq_none (by simp; omega)] at k1; cases k1
          subst hj2
          rw [Nat.sub_self] at k1
          rw [← R2.hr.len, Nat.sub_self] at k2
          cases k1
          cases k2
          exact ⟨vs, e, da⟩
    have R3 : Rel K (p :: hs) (ps ++ [p]) σ H2 ⟨st.ds, cs ++ [xs]⟩ := ⟨HR2, R2.len, fun j x ex => by
      obtain ⟨v, h1, h2⟩ := R2.slot j x ex
      refine ⟨v, h1, ?_⟩
      cases x with
      | dat d => exact h2
      | fn y => exact h2
      | cel c =>
        obtain ⟨q, h3, h4⟩ := h2
        refine ⟨q, ?_, h4⟩
        rw [List.getElem?_append_left (by
          by_cases hl : c < ps.length
          · exact hl
          · rw [List.getElem?_eq_none (by omega)] at h3; cases h3)]
        exact h3⟩
    exact R3.set i (x := .cel cs.length) ⟨p, by rw [← R2.hr.len]; simp, rfl⟩
end
section
variable {X : Cx} {n0 : Nat} {s : Stmt} {ss : List Stmt} {e a b : Expr} {pos : Pos} {f g : FS} {fe fk : FE} {fl : FL} {ft : FT} {fa : FA}
theorem rss_nil : RSs X n0 [] fSkip := .mk fun st o h => by
  cases h
  exact RSs.of pss_nil fun hs0 ps0 H0 _ _ hs ps σ H L R D q => q hs ps σ H L R
theorem rss_cons (h1 : RS X n0 s f) (h2 : RSs X n0 ss g) : RSs X n0 (s :: ss) (fSeq f g) := .mk fun st o h => by
  obtain ⟨o1, e1, h⟩ := bind_some h
  refine RSs.of (pss_cons (pwS s) (pwSs ss)) fun hs0 ps0 H0 i1 i2 hs ps σ H L R D q => h1 _ _ e1 hs0 ps0 H0 i1 i2 hs ps σ H L R _ ?_
  cases o1 with
  | nx st1 => exact fun hs' ps' σ' H' L' R' => h2 _ _ h hs0 ps0 H0 i1 i2 hs' ps' σ' H' L' R' D q
  | bk st1 => cases h; exact q
  | ct st1 => cases h; exact q
  | rt r c =>
    cases h
    cases r <;> exact q
theorem rss_one (h1 : RS X n0 s f) : RSs X n0 [s] f := .mk fun st o h => RSs.of (pss_one (pwS s)) (h1 st o h)
/-- from here on a list of one's own is plain data -/
theorem rss_frz {i : Nat} (h1 : RSs X n0 ss f) : RSs X n0 ss (fFrz n0 i f) := .mk fun st o h => by
  unfold fFrz at h
  split at h
  · rename_i k e0
    split at h
    · rename_i hk
      obtain ⟨xs, ex, h⟩ := bind_some h
      split at h
      case isFalse => cases h
      rename_i hno
      intro hs0 ps0 H0 i1 i2 hs ps σ H L R D q
      obtain ⟨v, hv, p, hp, rfl⟩ := R.slot i _ e0
      obtain ⟨vs, q1, q2⟩ := R.hr.cel k p xs hp ex
      obtain ⟨l, el⟩ := L.pre
      have hlen := R.hr.len
      have hpl : ps = ps.dropLast ++ [p] := by
        have hne : ps ≠ [] := fun z => by rw [z] at hp; simp at hp
        have hlast : ps.getLast hne = p := by
          rw [List.getLast_eq_getElem]
          have hk2 : k < ps.length := by omega
          rw [List.getElem?_eq_getElem hk2] at hp
          have ek : ps.length - 1 = k := by omega
          simp only [ek]
          exact Option.some.inj hp
        rw [← hlast]
        exact (List.dropLast_concat_getLast hne).symm
      have npd : p ∉ ps.dropLast := fun m => by
        have nd := R.hr.nd
        rw [hpl, List.nodup_append] at nd
        exact nd.2.2 p m p (by simp) rfl
      have hp0 : p ∉ ps0 := fun m => by
        have hl0 : ps0.length ≤ ps.dropLast.length := by rw [List.length_dropLast]; omega
        have e2 : ps0 = ps.dropLast.take ps0.length := by
          have : ps.dropLast.take ps0.length = ps.take ps0.length := by
            rw [List.dropLast_eq_take, List.take_take, Nat.min_eq_left (by rw [List.length_dropLast] at hl0; exact hl0)]
          rw [this, el, List.take_left]
        rw [e2] at m
        exact npd (List.mem_of_mem_take m)
      let hs' := hs.filter (fun a => decide (a ≠ p))
      have hsub : ∀ a ∈ hs', a ∈ hs := fun a m => (List.mem_filter.mp m).1
      have hnp : p ∉ hs' := fun m => by simpa using (List.mem_filter.mp m).2
      have sb : Sub (hid hs H) (hid hs' H) := fun a o e => by
        obtain ⟨n, k⟩ := hid_some e
        rw [hid_out fun m => n (hsub a m)]; exact k
      have hps : ∀ a ∈ ps.dropLast, a ∈ hs' := fun a m => List.mem_filter.mpr ⟨R.hr.sub a (List.dropLast_subset _ m), by simpa using fun z : a = p => npd (z ▸ m)⟩
      have L' : Lv hs0 ps0 H0 hs' ps.dropLast H := by
        refine ⟨⟨l.dropLast, ?_⟩, fun a m n => L.nps a (List.dropLast_subset _ m) n, fun a m n => L.nhs a (hsub a m) n, fun a m => List.mem_filter.mpr ⟨L.hss a m, ?_⟩, L.stp⟩
        · have hl : l ≠ [] := fun z => by
            rw [z, List.append_nil] at el
            exact hp0 (by rw [← el]; exact List.mem_of_getElem? hp)
          rw [el, List.dropLast_append_of_ne_nil hl]
        · have h0 : H0 p = none := L.nps p (List.mem_of_getElem? hp) hp0
          simpa using fun z : a = p => i2 a m (by rw [z]; exact h0)
      have ndl : ps.dropLast.Nodup := R.hr.nd.sublist (List.dropLast_sublist _)
      have getd : ∀ {c : Nat} {q : Addr}, c ≠ k → ps[c]? = some q → ps.dropLast[c]? = some q := fun {c q} hc e => by
        have hl : c < ps.length := by
          by_cases hl : c < ps.length
          · exact hl
          · rw [List.getElem?_eq_none (by omega)] at e; cases e
        rw [List.dropLast_eq_take, List.getElem?_take_of_lt (by omega)]
        exact e
      have R' : Rel X.K hs' ps.dropLast σ H ⟨st.ds.set i (some (.dat (.list xs))), st.cs.dropLast⟩ := by
        refine ⟨⟨hps, ndl, by simp [hlen], fun a m => R.hr.trk a (hsub a m), fun j q ys k1 k2 => ?_⟩, by simp [R.len], fun j x ej => ?_⟩
        · have k1' : ps[j]? = some q := by
            rw [List.dropLast_eq_take] at k1
            exact take_some k1
          have k2' : st.cs[j]? = some ys := by
            rw [List.dropLast_eq_take] at k2
            exact take_some k2
          obtain ⟨ws, q3, q4⟩ := R.hr.cel j q ys k1' k2'
          exact ⟨ws, q3, q4.up sb⟩
        · by_cases hj : i = j
          · subst hj
            have hl : i < st.ds.length := by
              by_cases hl : i < st.ds.length
              · exact hl
              · rw [List.getElem?_eq_none (by omega)] at e0; cases e0
            rw [List.getElem?_set_self hl] at ej
            cases ej
            exact ⟨_, hv, .lst (.inl (.inl (by rw [hid_out hnp]; exact q1))) (q2.up sb)⟩
          · have ej' := ej
            rw [List.getElem?_set_ne hj] at ej
            obtain ⟨w, w1, w2⟩ := R.slot j x ej
            refine ⟨w, w1, ?_⟩
            cases x with
            | dat d => exact Dp.up w2 sb
            | fn y => exact w2
            | cel c =>
              obtain ⟨q, w3, w4⟩ := w2
              exact ⟨q, getd (noCel_ok hno ej') w3, w4⟩
      exact h1 _ _ h hs0 ps0 H0 i1 i2 hs' ps.dropLast σ H L' R' D q
    · cases h
  · cases h
theorem rs_never : RS X n0 s fNever := .mk fun st o h => by cases h
theorem rss_never : RSs X n0 ss fNever := .mk fun st o h => by cases h
theorem rs_pass : RS X n0 (.Pass pos) fSkip := .mk fun st o h => by
  cases h
  exact RS.of ps_pass fun hs0 ps0 H0 _ _ hs ps σ H L R D q => q hs ps σ H L R
theorem rs_break : RS X n0 (.Break pos) (fun st => some (.bk st)) := .mk fun st o h => by
  cases h
  exact RS.of ps_break fun hs0 ps0 H0 _ _ hs ps σ H L R D q => q hs ps σ H L R
theorem rs_cont : RS X n0 (.Continue pos) (fun st => some (.ct st)) := .mk fun st o h => by
  cases h
  exact RS.of ps_continue fun hs0 ps0 H0 _ _ hs ps σ H L R D q => q hs ps σ H L R
theorem rs_ret (h : RE X e fe) : RS X n0 (.Return (some e) pos) (fRet fe) := .mk fun st o hq => by
  obtain ⟨⟨d, c⟩, h1, rfl⟩ := map_some hq
  exact RS.of (ps_ret (pwE e)) fun hs0 ps0 H0 _ _ hs ps σ H L R D q => h _ _ _ h1 hs ps σ H R _ fun v H2 s2 R2 d2 => q hs ps v H2 (L.step s2) R2.hr d2
theorem rs_retN : RS X n0 (.Return none pos) fRetN := .mk fun st o h => by
  cases h
  exact RS.of ps_retN fun hs0 ps0 H0 _ _ hs ps σ H L R D q => q hs ps _ H L R.hr .non
theorem rs_retL (h : RL X e fl) : RS X n0 (.Return (some e) pos) (fRetL fl) := .mk fun st o hq => by
  obtain ⟨⟨d, c⟩, h1, rfl⟩ := map_some hq
  exact RS.of (ps_ret (pwE e)) fun hs0 ps0 H0 i1 i2 hs ps σ H L R D q => h _ _ _ h1 hs ps σ H R _ fun p vs H2 hp s2 R2 e2 d2 => by
    obtain ⟨L2, R3⟩ := Rel.own L 0 hp s2 R2 e2 d2 R
    exact q (p :: hs) ps p vs H2 ⟨L.pre, L.nps, L2.nhs, L2.hss, L2.stp⟩ List.mem_cons_self (L2.nhs p List.mem_cons_self fun m => R.hr.trk p (L.hss p m) hp) R2.hr e2 d2
theorem rs_asg {tg : Expr} {t : TG} {js : List Nat} {fg : FG} (h : RE X e fe) (hg : RG X tg t js fg) (hs : swapsWithSole [tg] e pos.line X.env = pure false := by rfl) (hw : swappedStores [tg] e X.env = pure none := by rfl)
    (h1 : (assignEach [tg] X.env).map (·.2) = [assign tg X.env] := by rfl) : RS X n0 (.Assign [tg] e pos) (fAsg fg fe) := .mk fun st o hq => by
  obtain ⟨⟨d, c⟩, e1, hq⟩ := bind_some hq
  obtain ⟨st1, e2, rfl⟩ := map_some hq
  exact RS.of (ps_asg (pwE e) hg.pg hs hw h1) fun hs0 ps0 H0 i1 i2 hs ps σ H L R D q => h _ _ _ e1 hs ps σ H R _ fun v H2 s2 R2 d2 => hg.eg hs ps σ H2 _ _ v d R2 d2 e2 _ fun σ' R3 _ => q hs ps σ' H2 (L.step s2) R3
theorem rs_set {i : Nat} {x : Str} {pos' : Pos} (hN : X.N.Nodup) (hi : X.N[i]? = some x) (hx : Loc X.env.scope x) (h : RE X e fe) (hs : swapsWith e (some (.Name x pos')) pos.line X.env = pure false := by rfl) (hf : X.fn x = true ∨ X.env.scope.names.lookup x = some .local := by first | exact .inl rfl | exact .inr rfl | assumption) :
    RS X n0 (.Assign [.Name x pos'] e pos) (fSet i fe) := .mk fun st o hq => by
  obtain ⟨⟨d, c⟩, e1, rfl⟩ := map_some hq
  exact RS.of (ps_set hN hi hx (pwE e) hs hf) fun hs0 ps0 H0 i1 i2 hs ps σ H L R D q => h _ _ _ e1 hs ps σ H R _ fun v H2 s2 R2 d2 => q hs ps _ H2 (L.step s2) (R2.set i (x := .dat d) d2)
/-- x = a new list, a list of one's own -/
theorem rs_new {i : Nat} {x : Str} {pos' : Pos} (hN : X.N.Nodup) (hi : X.N[i]? = some x) (hx : Loc X.env.scope x) (h : RL X e fl) (hs : swapsWith e (some (.Name x pos')) pos.line X.env = pure false := by rfl) (hf : X.fn x = true ∨ X.env.scope.names.lookup x = some .local := by first | exact .inl rfl | exact .inr rfl | assumption) :
    RS X n0 (.Assign [.Name x pos'] e pos) (fNew i fl) := .mk fun st o hq => by
  obtain ⟨⟨d, c⟩, e1, rfl⟩ := map_some hq
  exact RS.of (ps_set hN hi hx (pwE e) hs hf) fun hs0 ps0 H0 i1 i2 hs ps σ H L R D q => h _ _ _ e1 hs ps σ H R _ fun p vs H2 hp s2 R2 e2 d2 => by
    obtain ⟨L2, R3⟩ := Rel.own L i hp s2 R2 e2 d2 R
    exact q _ _ _ H2 L2 R3
theorem rs_if {cc : Expr} {u v : List Stmt} (hc : RT X cc ft) (h1 : RSs X n0 u f) (h2 : RSs X n0 v g) : RS X n0 (.If cc u v pos) (fIfS ft f g) := .mk fun st o hq => by
  obtain ⟨⟨b, c⟩, e1, hq⟩ := bind_some hq
  refine RS.of (ps_if (pwT cc) (pwSs u) (pwSs v)) fun hs0 ps0 H0 i1 i2 hs ps σ H L R D q => hc _ _ _ e1 hs ps σ H R _ fun H2 s2 R2 => ?_
  cases b with
  | true =>
    rw [if_pos rfl] at hq ⊢
    exact h1 _ _ hq hs0 ps0 H0 i1 i2 hs ps σ H2 (L.step s2) R2 D q
  | false =>
    rw [if_neg (by simp)] at hq ⊢
    exact h2 _ _ hq hs0 ps0 H0 i1 i2 hs ps σ H2 (L.step s2) R2 D q
theorem rs_drop (h : RE X e fe) (hs : swapsWith e none pos.line X.env = pure false := by rfl) : RS X n0 (.Expr e pos) (fDrop fe) := .mk fun st o hq => by
  obtain ⟨⟨d, c⟩, e1, rfl⟩ := map_some hq
  exact RS.of (ps_expr (pwE e) hs) fun hs0 ps0 H0 i1 i2 hs ps σ H L R D q => h _ _ _ e1 hs ps σ H R _ fun v H2 s2 R2 d2 => q hs ps σ H2 (L.step s2) R2
theorem rs_par {i j : Nat} {x y : Str} {px py pt : Pos} {kt k2 pt2} (hc : X.calm = true) (hN : X.N.Nodup) (hi : X.N[i]? = some x) (hj : X.N[j]? = some y) (hij : i ≠ j) (hx : X.env.scope.names.lookup x = some .local) (hy : X.env.scope.names.lookup y = some .local) (ha : RA X [a, b] fa)
    {P : PS X (.Assign [.Tuple [.Name x px, .Name y py] kt pt] (.Tuple [a, b] k2 pt2) pos) (tPar i j (wA X [a, b]))} : RS X n0 (.Assign [.Tuple [.Name x px, .Name y py] kt pt] (.Tuple [a, b] k2 pt2) pos) (fPar i j fa) := .mk fun st o hq => by
  obtain ⟨⟨xs, c⟩, e1, hq⟩ := bind_some hq
  simp only at hq
  split at hq
  · cases hq
    refine RS.of P fun hs0 ps0 H0 i1 i2 hs ps σ H L R D q => ha _ _ _ e1 hs ps σ H R _ fun vs H2 s2 R2 p2 => ?_
    obtain ⟨v, w, rfl, d1, d2⟩ := dpa2 (paired_dat (ds := [_, _]) p2)
    exact ⟨v, w, rfl, q hs ps _ H2 (L.step s2) ((R2.set i (x := .dat _) d1).set j (x := .dat _) d2)⟩
  · cases hq
theorem rs_setc {i : Nat} {x : Str} {k : Expr} {p1 p2 : Pos} (hN : X.N[i]? = some x) (hv : Vis X.env.scope x) (hk : RE X k fk) (h : RE X e fe) (hd : (x == ("__debug__" : Str)) = false := by decide) (hcd : (x == ("__classdict__" : Str)) = false := by decide)
    (ha : ∀ v, assign (.Subscript (.Name x p1) k p2) X.env v = (do
      let ov ← holding [v] (eval (.Name x p1) X.env)
      let iv ← holding [v, ov] (eval k X.env)
      standAt p2
      holding [v, ov, iv] (setItem ov iv v)
      release [v, ov, iv] []) := by intro _; rfl) (hs : swapsWithSole [.Subscript (.Name x p1) k p2] e pos.line X.env = pure false := by rfl) (hw : swappedStores [.Subscript (.Name x p1) k p2] e X.env = pure none := by rfl)
    (h1 : (assignEach [.Subscript (.Name x p1) k p2] X.env).map (·.2) = [assign (.Subscript (.Name x p1) k p2) X.env] := by rfl) : RS X n0 (.Assign [.Subscript (.Name x p1) k p2] e pos) (fSetc i fk fe) := .mk fun st o hq => by
  obtain ⟨⟨d, c⟩, e1, hq⟩ := bind_some hq
  obtain ⟨⟨m, c2⟩, e2, hq⟩ := bind_some hq
  simp only at hq
  split at hq
  · rename_i c0 j es
    obtain ⟨xs, ex, hq⟩ := bind_some hq
    obtain ⟨m, em, rfl⟩ := map_some hq
    refine RS.of (ps_asg (pwE e) (pg_sub (pe_var hN hv hd hcd) (pwE k) set_list ha) hs hw h1) fun hs0 ps0 H0 i1 i2 hs ps σ H L R D q => h _ _ _ e1 hs ps σ H R _ fun v H2 s2 R2 d2 => ?_
    obtain ⟨w, w1, p, w2, rfl⟩ := R2.slot i _ es
    refine ⟨_, w1, hk _ _ _ e2 hs ps σ H2 R2 _ fun u H3 s3 R3 d3 => ?_⟩
    cases dp_int d3
    obtain ⟨vs, q1, q2⟩ := R3.hr.cel c0 p xs w2 ex
    have dv := d2.up (s3.hd0 R2.hr.sub)
    obtain ⟨s4, R4⟩ := R3.put (m := m) w2 ex q1 q2 dv
    exact ⟨p, vs, j, m, rfl, rfl, q1, by rw [q2.len]; exact em, q hs ps σ _ (((L.step s2).step s3).step s4) R4⟩
  · cases hq
theorem rs_setc2 {i j : Nat} {x y : Str} {k : Expr} {p1 p2 p3 p4 : Pos} {kt} (hc : X.calm = true) (hNd : X.N.Nodup) (hN : X.N[i]? = some x) (hv : Vis X.env.scope x) (hj : X.N[j]? = some y) (hy : Loc X.env.scope y) (hij : i ≠ j) (hk : RE X k fk) (h : RE X e fe) (hd : (x == ("__debug__" : Str)) = false := by decide) (hcd : (x == ("__classdict__" : Str)) = false := by decide)
    (ha : ∀ v, assign (.Subscript (.Name x p1) k p2) X.env v = (do
      let ov ← holding [v] (eval (.Name x p1) X.env)
      let iv ← holding [v, ov] (eval k X.env)
      standAt p2
      holding [v, ov, iv] (setItem ov iv v)
      release [v, ov, iv] []) := by intro _; rfl) (hf : X.fn y = true ∨ X.env.scope.names.lookup y = some .local := by first | exact .inl rfl | exact .inr rfl | assumption)
    {P : ∀ t : TE, PE X e t → PS X (.Assign [.Tuple [.Subscript (.Name x p1) k p2, .Name y p3] kt p4] e pos) (tAsg t (gTup X.K 2 (gCons (L2.gSub (tVar i) (wE X k) rSetL) (gCons (gName j) gNil))))} :
    RS X n0 (.Assign [.Tuple [.Subscript (.Name x p1) k p2, .Name y p3] kt p4] e pos) (fSetc2 i fk j fe) := .mk fun st o hq => by
  obtain ⟨⟨d, c⟩, e1, hq⟩ := bind_some hq
  simp only at hq
  split at hq
  · rename_i a0 b0
    obtain ⟨⟨m, c2⟩, e2, hq⟩ := bind_some hq
    simp only at hq
    split at hq
    · rename_i c0 m0 es
      obtain ⟨xs, ex, hq⟩ := bind_some hq
      obtain ⟨m, em, rfl⟩ := map_some hq
      refine RS.of (P _ (pwE e)) fun hs0 ps0 H0 i1 i2 hs ps σ H L R D q => h _ _ _ e1 hs ps σ H R _ fun v H2 s2 R2 d2 => ?_
      obtain ⟨tp, ws, rfl, ht, da⟩ := dp_tuple d2
      obtain ⟨va, vb, rfl, da1, da2⟩ := dpa2 da
      refine ⟨tp, _, rfl, sqT_mono hid_sub ht, rfl, va, [vb], rfl, ?_⟩
      obtain ⟨w, w1, p, w2, rfl⟩ := R2.slot i _ es
      refine ⟨_, w1, hk _ _ _ e2 hs ps σ H2 R2 _ fun u H3 s3 R3 d3 => ?_⟩
      cases dp_int d3
      obtain ⟨vs, q1, q2⟩ := R3.hr.cel c0 p xs w2 ex
      have sb := s3.hd0 R2.hr.sub
      obtain ⟨s4, R4⟩ := R3.put (m := m) w2 ex q1 q2 (da1.up sb)
      refine ⟨p, vs, m0, m, rfl, rfl, q1, by rw [q2.len]; exact em, vb, [], rfl, rfl, ?_⟩
      exact q hs ps _ _ (((L.step s2).step s3).step s4) (R4.set j (x := .dat b0) ((da2.up sb).up (s4.hd0 R3.hr.sub)))
    · cases hq
  · cases hq
/-! loops -/
theorem lv_trans {hs0 ps0 hs ps hs' ps' : List Addr} {H0 H2 H' : Hp} (L : Lv hs0 ps0 H0 hs ps H2) (M : Lv hs ps H2 hs' ps' H') (sub : ∀ p ∈ ps, p ∈ hs) : Lv hs0 ps0 H0 hs' ps' H' := by
  have back : ∀ a, a ∉ ps0 → H2 a = none → H0 a = none := fun a n e => by
    cases q : H0 a with
    | none => rfl
    | some o => rw [L.stp a o n q] at e; cases e
  obtain ⟨l, el⟩ := L.pre
  obtain ⟨l', el'⟩ := M.pre
  refine ⟨⟨l ++ l', by rw [el', el]; simp⟩, fun a m n => ?_, fun a m n => ?_, fun a m => M.hss a (L.hss a m), fun a o n e => ?_⟩
  · by_cases h : a ∈ ps
    · exact L.nps a h n
    · exact back a n (M.nps a m h)
  · by_cases h : a ∈ hs
    · exact L.nhs a h n
    · exact back a (fun h0 => h (sub a (by rw [el]; exact List.mem_append_left _ h0))) (M.nhs a m h)
  · refine M.stp a o (fun m => ?_) (L.stp a o n e)
    rw [L.nps a m n] at e; cases e
theorem lv_refl {hs ps : List Addr} {H : Hp} : Lv hs ps H hs ps H := ⟨⟨[], by simp⟩, fun _ m n => absurd m n, fun _ m n => absurd m n, fun _ m => m, Step.refl _⟩
/-- what is wanted, from a later base -/
theorem post_back {K : PySem.W.Frag} {hs0 ps0 hs ps : List Addr} {H0 H2 : Hp} {D : Ends} {r : RV} {c : Cs} (L : Lv hs0 ps0 H0 hs ps H2) (sub : ∀ p ∈ ps, p ∈ hs) (trk : ∀ a ∈ hs, H2 a ≠ none) (q : Post K hs0 ps0 H0 D (.rt r c)) (D' : Ends) (e : D'.rt = D.rt) : Post K hs ps H2 D' (.rt r c) := by
  cases r with
  | dat d => exact fun hs' ps' v H M R d => by rw [e]; exact q hs' ps' v H (lv_trans L M sub) R d
  | new xs =>
    exact fun hs' ps' p vs H M m n R e' d => by
      rw [e]
      refine q hs' ps' p vs H (lv_trans L M sub) m ?_ R e' d
      cases h : H0 p with
      | none => rfl
      | some o =>
        by_cases h2 : p ∈ ps0
        · obtain ⟨l, el⟩ := L.pre
          exact absurd n (trk p (sub p (by rw [el]; exact List.mem_append_left _ h2)))
        · rw [L.stp p o h2 h] at n; cases n
theorem lv_gd {hs ps hs' ps' : List Addr} {H2 H' : Hp} (M : Lv hs ps H2 hs' ps' H') (sub : ∀ p ∈ ps, p ∈ hs) : GD hs H2 H' := fun a o n e => M.stp a o (fun m => n (sub a m)) e
theorem rs_for {tg iter : Expr} {body : List Stmt} {t : TG} {js : List Nat} {fg : FG} {it : FL} (hp : PassesOwn (model X.prog X.w) X.A X.env X.xe) (hc : X.calm = true) (hi : RI X tg iter it) (hg : RG X tg t js fg) (hb : ∀ n, RSs X n body f)
    (hs : ∀ x, foldedSetIterable iter X.env x = pure x := by intro _; rfl) : RS X n0 (.For tg iter body [] pos) (fFor it fg f) := .mk fun st o hq => by
  obtain ⟨⟨xs, c⟩, e1, hq⟩ := bind_some hq
  refine RS.of (ps_for hp hc (pwI tg iter) hg.pg (pwSs body) hs) fun hs0 ps0 H0 i1 i2 hs ps σ H L R D q => hi _ _ _ e1 hs ps σ H R _ fun J H2 s2 R2 W => ?_
  have L2 := L.step s2
  have sub := R2.hr.sub
  have trk := R2.hr.trk
  refine ⟨fun i m σ3 H3 => m = xs.length - i ∧ i ≤ xs.length ∧ ∃ hs3 ps3 st3, Lv hs ps H2 hs3 ps3 H3 ∧ Rel X.K hs3 ps3 σ3 H3 st3 ∧ forGo fg f (xs.drop i) st3 = some o, ⟨xs.length, by simp, Nat.zero_le _, hs, ps, _, lv_refl, R2, hq⟩, ?_⟩
  rintro i m σ3 H3 ⟨rfl, hi', hs3, ps3, st3, M3, R3, go⟩
  have g3 := lv_gd M3 sub
  by_cases hlt : i < xs.length
  · refine .inr ⟨W.goes i H3 hlt g3, fun σ4 H4 => ∃ hs3 ps3 st3, Lv hs ps H2 hs3 ps3 H4 ∧ Rel X.K hs3 ps3 σ4 H4 st3 ∧ forGo fg f (xs.drop (i + 1)) st3 = some o, fun σ4 H4 h4 => ⟨xs.length - (i + 1), by omega, rfl, hlt, h4⟩, fun x H4 y4 => ?_⟩
    obtain ⟨s4, dx, ex, kx⟩ := W.yields i H3 x H4 hlt g3 y4
    have edr : xs.drop i = dx :: xs.drop (i + 1) := by
      rw [List.drop_eq_getElem_cons hlt]
      rw [List.getElem?_eq_getElem hlt] at ex
      cases ex; rfl
    rw [edr] at go
    obtain ⟨st1, go1, go⟩ := bind_some go
    obtain ⟨o1, go2, go⟩ := bind_some go
    have R4 := R3.step s4
    have M4 := M3.step (s4.mono (qs := ps3) (by simp))
    refine hg.eg hs3 ps3 σ3 H4 st3 st1 x dx R4 (kx hs3 M3.nhs R3.hr.trk) go1 _ fun σ5 R5 _ => ?_
    refine hb ps.length _ _ go2 hs ps H2 (Nat.le_refl _) trk hs3 ps3 σ5 H4 M4 R5 _ ?_
    cases o1 with
    | nx st2 => exact fun hs' ps' σ' H' M' R' => ⟨hs', ps', st2, M', R', go⟩
    | ct st2 => exact fun hs' ps' σ' H' M' R' => ⟨hs', ps', st2, M', R', go⟩
    | bk st2 =>
      cases go
      exact fun hs' ps' σ' H' M' R' => q hs' ps' σ' H' (lv_trans L2 M' sub) R'
    | rt r c =>
      cases go
      exact post_back L2 sub trk q _ rfl
  · have ei : i = xs.length := by omega
    subst ei
    rw [List.drop_eq_nil_of_le (Nat.le_refl _)] at go
    cases go
    exact .inl ⟨W.stops H3 g3, q hs3 ps3 σ3 H3 (lv_trans L2 M3 sub) R3⟩
theorem rs_while {cc : Expr} {body : List Stmt} (hp : PassesOwn (model X.prog X.w) X.A X.env X.xe) (hc : RT X cc ft) (hb : ∀ n, RSs X n body f) : RS X n0 (.While cc body [] pos) (fWhile ft f) := .mk fun st o hq => by
  refine RS.of (ps_while hp (pwT cc) (pwSs body)) fun hs0 ps0 H0 i1 i2 hs ps σ H L R D q => ?_
  have sub := R.hr.sub
  have trk := R.hr.trk
  refine ⟨fun m σ3 H3 => ∃ hs3 ps3 st3, Lv hs ps H hs3 ps3 H3 ∧ Rel X.K hs3 ps3 σ3 H3 st3 ∧ whileGo ft f m st3 = some o, ⟨FUEL, hs, ps, st, lv_refl, R, hq⟩, ?_⟩
  rintro m σ3 H3 ⟨hs3, ps3, st3, M3, R3, go⟩
  cases m with
  | zero => cases go
  | succ n =>
    obtain ⟨⟨b, c⟩, go1, go⟩ := bind_some (show (ft st3).bind _ = some o from go)
    refine hc _ _ _ go1 hs3 ps3 σ3 H3 R3 _ fun H4 s4 R4 => ?_
    have M4 := M3.step s4
    cases b with
    | false =>
      rw [if_neg (by simp)] at go ⊢
      cases go
      exact q hs3 ps3 σ3 H4 (lv_trans L M4 sub) R4
    | true =>
      rw [if_pos rfl] at go ⊢
      obtain ⟨o1, go2, go⟩ := bind_some go
      refine ⟨fun σ4 H4 => ∃ hs3 ps3 st3, Lv hs ps H hs3 ps3 H4 ∧ Rel X.K hs3 ps3 σ4 H4 st3 ∧ whileGo ft f n st3 = some o, fun σ4 H4 h4 => ⟨n, Nat.lt_succ_self n, h4⟩, ?_⟩
      refine hb ps.length _ _ go2 hs ps H (Nat.le_refl _) trk hs3 ps3 σ3 H4 M4 R4 _ ?_
      cases o1 with
      | nx st2 => exact fun hs' ps' σ' H' M' R' => ⟨hs', ps', st2, M', R', go⟩
      | ct st2 => exact fun hs' ps' σ' H' M' R' => ⟨hs', ps', st2, M', R', go⟩
      | bk st2 =>
        cases go
        exact fun hs' ps' σ' H' M' R' => q hs' ps' σ' H' (lv_trans L M' sub) R'
      | rt r c =>
        cases go
        exact post_back L sub trk q _ rfl
/-! x = [..] on one line -/
section
variable {elt tg iter : Expr} {ifs : List Expr} {scope : Scope} {own : List (Str × Nat)} {spos : Pos} {t : TG} {it : FL} {fg : FG} {js : List Nat}
theorem rs_setLc {i : Nat} {y : Str} {py : Pos} (hc : X.calm = true) (hN : X.N.Nodup) (hy : X.N[i]? = some y) (hyl : X.env.scope.names.lookup y = some .local)
    (hsw : swapsWith (.ListComp elt [⟨tg, iter, ifs, 0⟩] scope pos) (some (.Name y py)) spos.line X.env = pure true) (hi : RI X tg iter it) (ok : BlkOk X.N X.env.scope scope own)
    (hg : ∀ (s : Shared) (H : Hp) (C : Addr) (cl : List (Str × Addr)) (fp : List Addr), RG (X.blk s H scope (compEnvC scope cl C X.env) fp) tg t js fg) (ht : ∀ (s : Shared) (H : Hp) (C : Addr) (cl : List (Str × Addr)) (fp : List Addr), RTs (X.blk s H scope (compEnvC scope cl C X.env) fp) ifs ft)
    (he : ∀ (s : Shared) (H : Hp) (C : Addr) (cl : List (Str × Addr)) (fp : List Addr), RE (X.blk s H scope (compEnvC scope cl C X.env) fp) elt fe) (hj : ∀ j ∈ js, j ∈ own.map (·.2)) (hs : ∀ x, foldedSetIterable iter X.env x = pure x := by intro _; rfl) :
    RS X n0 (.Assign [.Name y py] (.ListComp elt [⟨tg, iter, ifs, 0⟩] scope pos) spos) (fSet i (fOfL (fLc it fg ft fe (own.map (·.2))))) := .mk fun st o hq => by
  obtain ⟨⟨d, c⟩, e1, rfl⟩ := map_some hq
  obtain ⟨⟨xs, c1⟩, e2, e3⟩ := map_some e1
  cases e3
  intro hs0 ps0 H0 i1 i2 hs' ps σ H L R D q pins s I
  exact RS.of (o := .nx ⟨st.ds.set i (some (.dat (.list xs))), _⟩) (ps_setLc hc hN hy hyl hsw (pwI tg iter) ok (fun s H C cl fp => (hg s H C cl fp).pg) (ptL ht) peL hs) (fun hs0 ps0 H0 i1 i2 hs ps σ H L R D q => (edl_lc s hi hg ht he hj e2).ed hs ps σ H R _ fun v H2 s2 R2 d2 => q hs ps _ H2 (L.step s2) (R2.set i (x := .dat (.list xs)) d2)) hs0 ps0 H0 i1 i2 hs' ps σ H L R D q pins s I
theorem rs_newLc {i : Nat} {y : Str} {py : Pos} (hc : X.calm = true) (hN : X.N.Nodup) (hy : X.N[i]? = some y) (hyl : X.env.scope.names.lookup y = some .local)
    (hsw : swapsWith (.ListComp elt [⟨tg, iter, ifs, 0⟩] scope pos) (some (.Name y py)) spos.line X.env = pure true) (hi : RI X tg iter it) (ok : BlkOk X.N X.env.scope scope own)
    (hg : ∀ (s : Shared) (H : Hp) (C : Addr) (cl : List (Str × Addr)) (fp : List Addr), RG (X.blk s H scope (compEnvC scope cl C X.env) fp) tg t js fg) (ht : ∀ (s : Shared) (H : Hp) (C : Addr) (cl : List (Str × Addr)) (fp : List Addr), RTs (X.blk s H scope (compEnvC scope cl C X.env) fp) ifs ft)
    (he : ∀ (s : Shared) (H : Hp) (C : Addr) (cl : List (Str × Addr)) (fp : List Addr), RE (X.blk s H scope (compEnvC scope cl C X.env) fp) elt fe) (hj : ∀ j ∈ js, j ∈ own.map (·.2)) (hs : ∀ x, foldedSetIterable iter X.env x = pure x := by intro _; rfl) :
    RS X n0 (.Assign [.Name y py] (.ListComp elt [⟨tg, iter, ifs, 0⟩] scope pos) spos) (fNew i (fLc it fg ft fe (own.map (·.2)))) := .mk fun st o hq => by
  obtain ⟨⟨d, c⟩, e1, rfl⟩ := map_some hq
  intro hs0 ps0 H0 i1 i2 hs' ps σ H L R D q pins s I
  exact RS.of (o := .nx ⟨st.ds.set i (some (.cel c.length)), c ++ [d]⟩) (ps_setLc hc hN hy hyl hsw (pwI tg iter) ok (fun s H C cl fp => (hg s H C cl fp).pg) (ptL ht) peL hs) (fun hs0 ps0 H0 i1 i2 hs ps σ H L R D q => (edl_lc s hi hg ht he hj e1) hs ps σ H R _ fun p vs H2 hp s2 R2 e2 d2 => by
    obtain ⟨L2, R3⟩ := Rel.own L i hp s2 R2 e2 d2 R
    exact q _ _ _ H2 L2 R3) hs0 ps0 H0 i1 i2 hs' ps σ H L R D q pins s I
end
end
end DL


set_option Elab.async false
set_option linter.all false
set_option maxRecDepth 100000
set_option maxHeartbeats 4000000
namespace DL
open PySem PySem.Spec L2
open PyProof.Rows hiding St

/-! ### defs -/
abbrev FnS := List SV → Cs → Option (RV × Cs)
def RetOk (K : PySem.W.Frag) (hs ps : List Addr) (H : Hp) (c : Cs) (r : RV) (Q : VK) : Prop :=
  match r with
  | .dat d => ∀ v H2, Step ps H H2 → HR K hs ps H2 c → Dp K (hid hs H2) v d → Q v H2
  | .new l => ∀ p vs H2, H p = none → Step ps H H2 → HR K (p :: hs) ps H2 c → H2 p = some (.lst vs) → DpAll K (hid (p :: hs) H2) vs l → Q (.ref p) H2
/-- the def at f computes F, by at most level k -/
structure FnG (P : Program) (w : World) (K : PySem.W.Frag) (mg : Str → Option Value) (base : Heap) (k : Nat) (f : Addr) (fd : FuncData) (ns : List Str) (F : FnS) : Prop where
  len : ∀ xs cs r c, F xs cs = some (r, c) → xs.length = ns.length
  run : ∀ (A : Around) (outer : List Env) (s : Shared) (H : Hp) (args : Args) (us : List Value) (vs : List V) (hs ps : List Addr) (cs c : Cs) (xs : List SV) (r : RV) (Q : VK), A.guards = some [] → Room k A → Env0 P w K mg base A outer s H → BindsTo s fd args (ns.zip us) → Vals vs us →
    HR K hs ps H cs → Paired (RelS K hs ps H) vs xs → F xs cs = some (r, c) → RetOk K hs ps H c r Q → codeAny (model P w) A (.call (.ref f) args) (CR CX0 outer P w H s Q E0) s
theorem FnG.mono {P : Program} {w : World} {K : PySem.W.Frag} {mg : Str → Option Value} {base : Heap} {j k : Nat} {f : Addr} {fd : FuncData} {ns : List Str} {F : FnS} (h : FnG P w K mg base j f fd ns F) (hj : j ≤ k) : FnG P w K mg base k f fd ns F :=
  ⟨h.len, fun A outer s H args us vs hs ps cs c xs r Q g hr => h.run A outer s H args us vs hs ps cs c xs r Q g (hr.mono hj)⟩
/-- what a body computes -/
def mkF (np N n0 : Nat) (body : FS) : FnS := fun xs cs => if xs.length = np ∧ cs.length = n0 then
    match body ⟨xs.map some ++ List.replicate (N - np) none, cs⟩ with
    | some (.rt r c) => some (r, c.take n0)
    | some (.nx st) => some (.dat .none, st.cs.take n0)
    | _ => none
  else none
theorem HR.take {K : PySem.W.Frag} {hs hs' ps l : List Addr} {H : Hp} {c : Cs} (R : HR K hs' (ps ++ l) H c) (h : ∀ a ∈ hs, a ∈ hs') (hp : ∀ p ∈ ps, p ∈ hs) : HR K hs ps H (c.take ps.length) := by
  have sb : Sub (hid hs' H) (hid hs H) := fun a o e => by
    obtain ⟨n, k⟩ := hid_some e
    rw [hid_out fun m => n (h a m)]; exact k
  have hl := R.len
  rw [List.length_append] at hl
  refine ⟨hp, (List.nodup_append.mp R.nd).1, by rw [List.length_take]; omega, fun a m => R.trk a (h a m), fun i p xs h1 h2 => ?_⟩
  have hi : i < ps.length := by
    by_cases hi : i < ps.length
    · exact hi
    · rw [List.getElem?_eq_none (by omega)] at h1; cases h1
  obtain ⟨vs, q1, q2⟩ := R.cel i p xs (by rw [List.getElem?_append_left hi]; exact h1) (take_some h2)
  exact ⟨vs, q1, q2.up sb⟩
theorem rel_start {K : PySem.W.Frag} {hs ps : List Addr} {H : Hp} {cs : Cs} {N : List Str} : ∀ {vs : List V} {xs : List SV}, HR K hs ps H cs → Paired (RelS K hs ps H) vs xs → Rel K hs ps (L2.start N vs) H ⟨xs.map some ++ List.replicate (N.length - xs.length) none, cs⟩ := fun {vs xs} h p => by
  have hl : vs.length = xs.length := Paired.length p
  refine ⟨h, ?_, fun i x e => ?_⟩
  · unfold L2.start
    simp [hl]
  · by_cases hi : i < xs.length
    · rw [List.getElem?_append_left (by simpa using hi), List.getElem?_map] at e
      obtain ⟨y, e1, e2⟩ := Option.map_eq_some_iff.mp e
      cases e2
      have go : ∀ {vs : List V} {xs : List SV} {i : Nat}, Paired (RelS K hs ps H) vs xs → xs[i]? = some x → ∃ v, vs[i]? = some v ∧ RelS K hs ps H v x := by
        intro vs xs i p
        induction p generalizing i with
        | nil => intro e; cases e
        | cons a t ih =>
          intro e
          cases i with
          | zero => cases e; exact ⟨_, rfl, a⟩
          | succ n => exact ih e
      obtain ⟨v, h1, h2⟩ := go p e1
      refine ⟨v, ?_, h2⟩
      unfold L2.start
      rw [List.getElem?_append_left (by simp [hl]; exact hi), List.getElem?_map, h1]; rfl
    · rw [List.getElem?_append_right (by simpa using hi), List.getElem?_replicate] at e
      split at e <;> cases e
section
variable {P : Program} {w : World} {K : PySem.W.Frag} {mg : Str → Option Value} {base : Heap} {n0 : Nat}
theorem fng_of {x : Str} {st : Stmt} {f : Addr} {fd : FuncData} {N ns : List Str} {k : Nat} {body : FS} (F : Fun K x x st f fd) (S : FnScope N ns (defScope st))
    (hb : ∀ (cdv : Value) (A : Around) (outer : List Env) (s : Shared) (H : Hp) (E : XK), A.guards = some [] → Room k (A.deeper (envOfC x (defScope st) s.heap.objs.size f cdv)) → RSs (cxOf CX0 P w K mg base N x (defScope st) f cdv A outer s H E).nox n0 (defBody st) body) :
    FnG P w K mg base (k + 1) f fd ns (mkF ns.length N.length n0 body) := by
  obtain ⟨oc, od, kV, doc, pm, an, cdv, ct, osl, rfl, lk, hcd⟩ := F.ex
  refine ⟨fun xs cs r c h => ?_, fun A outer s H args us vs hs ps cs c xs r Q hg hr e0 hbind hv hR hP hF hQ => ?_⟩
  · unfold mkF at h
    split at h
    · rename_i hl; exact hl.1
    · cases h
  unfold mkF at hF
  split at hF
  case isFalse => cases hF
  rename_i hl
  have hvl : vs.length = ns.length := by rw [Paired.length hP]; exact hl.1
  have hpl : ps.length = n0 := by rw [hR.len]; exact hl.2
  have kx : K.In s.heap :=
    e0.mod.kin.keeps fun b o e => (e0.bs b o e).1
  have lim : s.heap.NoLimit :=
    e0.mod.nolimit.keeps fun b o e => (e0.bs b o e).1
  refine codeAny_call_function hr.depth (kx _ _ lk)
    rfl S.co S.gen rfl (PySem.W.codeRec_of kx hcd) (hbind _ _ _ _ ?_)
  refine wpAny_newFunctionEnv_cells S.kind (fun y hy => ?_) fun env he s1 inC => ?_
  · rcases S.par y.1 (List.of_mem_zip (a := y.1) (b := y.2) hy).1 with q | q
    · exact .inl q
    · exact .inr ⟨q, PySem.W.cellsFrom_some _ _ _ (.inl q)⟩
  subst he
  refine ⟨lim.keeps inC.toInCall.keep, codeAny_func ?_⟩
  have I := inv_start (CX := CX0) (mg := mg) (base := base) (E := E0) S hr.hd e0 hvl hv inC
  -- the body, then the way out
  have fin : ∀ {σ' : St} {H' : Hp} {v : V} {u : Value} {s' : Shared}, L2.Inv (cxOf CX0 P w K mg base N x (defScope st) f cdv A outer s H E0) [] σ' H' s' → RelV v u → Q v H' → CE outer P w H s Q u s' :=
    fun {σ' H' v u s'} J rv q => ⟨v, H', J.os, J.bare, J.base, J.hok, rv, q⟩
  have R0 : Rel K hs ps (L2.start N vs) H ⟨xs.map some ++ List.replicate (N.length - ns.length) none, cs⟩ := by
    have := rel_start (N := N) hR hP
    rw [hl.1] at this
    exact this
  have go : ∃ o, body ⟨xs.map some ++ List.replicate (N.length - ns.length) none, cs⟩ = some o ∧ Post K hs ps H { nx := fun _ H' => Q .non H', rt := Q } o := by
    split at hF
    · rename_i r' c' eb
      cases hF
      refine ⟨_, eb, ?_⟩
      cases r with
      | dat d =>
        intro hs' ps' v H' L R d'
        obtain ⟨l, el⟩ := L.pre
        subst el
        rw [← hpl] at hQ
        exact hQ v H' L.stp (R.take L.hss hR.sub) (d'.up (fun a o e => by
          obtain ⟨n, q⟩ := hid_some e
          rw [hid_out fun m => n (L.hss a m)]; exact q))
      | new l0 =>
        intro hs' ps' p vs' H' L m n R e' d'
        obtain ⟨l, el⟩ := L.pre
        subst el
        rw [← hpl] at hQ
        have hsub : ∀ a ∈ p :: hs, a ∈ hs' := fun a ma => by
          rcases List.mem_cons.mp ma with z | z
          · rw [z]; exact m
          · exact L.hss a z
        exact hQ p vs' H' n L.stp (R.take hsub fun q mq => List.mem_cons_of_mem _ (hR.sub q mq)) e' (d'.up (fun a o e => by
          obtain ⟨n, q⟩ := hid_some e
          rw [hid_out fun m => n (hsub a m)]; exact q))
    · rename_i st' eb
      cases hF
      refine ⟨_, eb, fun hs' ps' σ' H' L R => ?_⟩
      obtain ⟨l, el⟩ := L.pre
      subst el
      rw [← hpl] at hQ
      exact hQ .non H' L.stp (R.hr.take L.hss hR.sub) .non
    · cases hF
  obtain ⟨o, eb, po⟩ := go
  have wb := hb cdv A outer s H E0 hg (hr.deeper _) _ o eb hs ps H (Nat.le_of_eq hpl) hR.trk hs ps (L2.start N vs) H lv_refl R0 _ po
  refine wpAny_mono (wb [] s1 (I.wish _)) (fun fl s' hq => ?_) fun e s' z => False.elim z
  have hq := hq.unwish
  cases fl with
  | ret u =>
    obtain ⟨v, σ', H', J, rv, q⟩ := hq
    exact fin J rv q
  | next =>
    obtain ⟨σ', H', J, q⟩ := hq
    exact fin (v := V.non) (u := Value.none) J rfl q
  | brk => exact hq.elim fun _ z => z.elim fun _ z => False.elim z.2
  | cont => exact hq.elim fun _ z => z.elim fun _ z => False.elim z.2
end

/-! ### calls -/
/-- a def that stands under the name x; its parameters may be given by position or, behind these, by name -/
structure At (P : Program) (w : World) (K : PySem.W.Frag) (mg : Str → Option Value) (base : Heap) (k : Nat) (x : Str) (ns : List Str) (F : FnS) : Prop where
  ex : ∃ (f : Addr) (fd : FuncData), mg x = some (.ref f) ∧ PySem.W.keepIn K (.ref f) = true ∧ FnG P w K mg base k f fd ns F ∧
    ∀ (s : Shared) (us : List Value), us.length = ns.length → ∀ (i : Nat), i ≤ ns.length → BindsTo s fd ⟨us.take i, (ns.drop i).zip (us.drop i)⟩ (ns.zip us)
theorem at_mk {P : Program} {w : World} {K : PySem.W.Frag} {mg : Str → Option Value} {base : Heap} {k : Nat} {x : Str} {st : Stmt} {f : Addr} {fd : FuncData} {ns : List Str} {F : FnS} (U : Fun K x x st f fd) (hm : mg x = some (.ref f)) (G : FnG P w K mg base k f fd ns F)
    (hb : ∀ (kV doc pm : Value) (an : Option Addr) (cdv ct : Value) (us : List Value), us.length = ns.length → ∀ (i : Nat), i ≤ ns.length → bindArgs (PySem.W.fnOf x x (defArgs st) (defBody st) (defScope st) .none kV doc pm an cdv ct) ⟨us.take i, (ns.drop i).zip (us.drop i)⟩ = pure (ns.zip us)) : At P w K mg base k x ns F := by
  obtain ⟨oc, od, kV, doc, pm, an, cdv, ct, osl, e, lk, hcd⟩ := U.ex
  refine ⟨f, fd, hm, U.kp, G, fun s us hl i hi => ?_⟩
  subst e
  exact .of_eq (hb kV doc pm an cdv ct us hl i hi)
def celsOk (k : Nat) : List SV → Bool
  | [] => true
  | .cel j :: r => decide (j = k) && celsOk k r
  | .dat _ :: r => celsOk k r
  | .fn _ :: r => celsOk k r
def celOf : List SV → Option Nat
  | [] => none
  | .cel k :: _ => some k
  | .dat _ :: r => celOf r
  | .fn _ :: r => celOf r
def norm : SV → SV
  | .cel _ => .cel 0
  | .dat d => .dat d
  | .fn x => .fn x
/-- the result, and the caller's lists behind it -/
def callF (F : FnS) (xs : List SV) (c : Cs) : Option (RV × Cs) := match celOf xs with
  | none => (F xs []).map fun p => (p.1, c)
  | some k => if celsOk k xs = true then (c[k]?).bind fun l => (F (xs.map norm) [l]).bind fun p => match p.2 with
      | [l'] => some (p.1, c.set k l')
      | _ => none
    else none
def fCall (F : FnS) (a : FA) : FE := fun st => (a st).bind fun p => (callF F p.1 p.2).bind fun q => match q.1 with
  | .dat d => some (d, q.2)
  | .new _ => none
def fCallL (F : FnS) (a : FA) : FL := fun st => (a st).bind fun p => (callF F p.1 p.2).bind fun q => match q.1 with
  | .new d => some (d, q.2)
  | .dat _ => none
/-- what the callee asks of its caller -/
def tG (K : PySem.W.Frag) (F : FnS) (ta : TA) : TE := fun σ H Q => ta σ H fun vs H1 => ∃ (hs ps : List Addr) (cs c : Cs) (xs : List SV) (r : RV), HR K hs ps H1 cs ∧ Paired (RelS K hs ps H1) vs xs ∧ F xs cs = some (r, c) ∧ RetOk K hs ps H1 c r Q
section
variable {X : Cx} {k : Nat} {x : Str} {ns : List Str} {F : FnS} {e : Expr} {es : List Expr} {p pos : Pos} {fa : FA}
theorem run_g {f : Addr} {fd : FuncData} {pins : List (Addr × Obj)} {σ : St} {H : Hp} {s : Shared} {Q : VK} {us : List Value} {vs : List V} {args : Args} {hs ps : List Addr} {cs c : Cs} {xs : List SV} {r : RV} (G : FnG X.prog X.w X.K X.mg X.base k f fd ns F) (hg : X.A.guards = some []) (hr : Room k X.A)
    (I : L2.Inv X pins σ H s) (hb : BindsTo s fd args (ns.zip us)) (hv : Vals vs us) (h1 : HR X.K hs ps H cs) (h2 : Paired (RelS X.K hs ps H) vs xs) (h3 : F xs cs = some (r, c)) (h4 : RetOk X.K hs ps H c r Q) : wpAny (model X.prog X.w) X.A (call (.ref f) args.pos args.kw) (EP X pins σ Q) X.xe s := by
  refine wpAny_call (codeAny_mono (G.run X.A X.stack s H args us vs hs ps cs c xs r Q hg hr I.env0 hb hv h1 h2 h3 h4) fun r s' hq => ?_)
  cases r with
  | error e => exact False.elim hq
  | ok fl =>
    cases fl with
    | ret u => exact I.after hq
    | _ => exact False.elim hq
theorem paired_none {K : PySem.W.Frag} {hs ps qs : List Addr} {H : Hp} : ∀ {vs : List V} {xs : List SV}, celOf xs = none → Paired (RelS K hs ps H) vs xs → Paired (RelS K hs qs H) vs xs
  | _, _, _, .nil => .nil
  | _, .dat d :: r, h, .cons a t => .cons a (paired_none (xs := r) h t)
  | _, .fn d :: r, h, .cons a t => .cons a (paired_none (xs := r) h t)
  | _, .cel _ :: _, h, .cons _ _ => by cases h
theorem paired_norm {K : PySem.W.Frag} {hs ps : List Addr} {H : Hp} {k : Nat} {q : Addr} (hq : ps[k]? = some q) : ∀ {vs : List V} {xs : List SV}, celsOk k xs = true → Paired (RelS K hs ps H) vs xs → Paired (RelS K hs [q] H) vs (xs.map norm)
  | _, _, _, .nil => .nil
  | _, .dat d :: r, h, .cons a t => .cons a (paired_norm hq (xs := r) h t)
  | _, .fn d :: r, h, .cons a t => .cons a (paired_norm hq (xs := r) h t)
  | _, .cel j :: r, h, .cons a t => by
    have h' : (decide (j = k) && celsOk k r) = true := h
    rw [Bool.and_eq_true] at h'
    have e := of_decide_eq_true h'.1
    obtain ⟨p, h1, h2⟩ := a
    rw [e, hq] at h1
    cases h1
    exact .cons ⟨q, rfl, h2⟩ (paired_norm hq h'.2 t)
theorem paired_cel {K : PySem.W.Frag} {hs ps : List Addr} {H : Hp} {k : Nat} : ∀ {vs : List V} {xs : List SV}, celOf xs = some k → Paired (RelS K hs ps H) vs xs → ∃ q, ps[k]? = some q
  | _, _, h, .nil => by cases h
  | _, .dat d :: r, h, .cons a t => paired_cel (xs := r) h t
  | _, .fn d :: r, h, .cons a t => paired_cel (xs := r) h t
  | _, .cel j :: r, h, .cons a t => by
    cases h
    obtain ⟨p, h1, h2⟩ := a
    exact ⟨p, h1⟩
theorem HR.none0 {K : PySem.W.Frag} {hs ps : List Addr} {H : Hp} {c : Cs} (R : HR K hs ps H c) : HR K hs [] H [] :=
  ⟨fun p m => by simp at m, .nil, rfl, R.trk, fun i p xs h => by simp at h⟩
theorem HR.one {K : PySem.W.Frag} {hs ps : List Addr} {H : Hp} {c : Cs} {k : Nat} {q : Addr} {l : List PyData} (R : HR K hs ps H c) (hq : ps[k]? = some q) (hl : c[k]? = some l) : HR K hs [q] H [l] := by
  refine ⟨fun p m => by rw [List.mem_singleton.mp m]; exact R.sub q (List.mem_of_getElem? hq), by simp, rfl, R.trk, fun i p xs h1 h2 => ?_⟩
  cases i with
  | zero =>
    cases h1
    cases h2
    exact R.cel k q l hq hl
  | succ n => simp at h1
theorem HR.back {K : PySem.W.Frag} {hs hs' ps : List Addr} {H H' : Hp} {c : Cs} {k : Nat} {q : Addr} {l' : List PyData} (R : HR K hs ps H c) (hq : ps[k]? = some q) (s : Step [q] H H') (M : HR K hs' [q] H' [l']) (hh : ∀ a ∈ hs', a ∉ hs → H a = none) (hh2 : ∀ a ∈ hs, a ∈ hs') : HR K hs' ps H' (c.set k l') := by
  have hin : q ∈ hs := R.sub q (List.mem_of_getElem? hq)
  have sb : Sub (hid hs H) (hid hs' H') := s.hd (fun p m => by rw [List.mem_singleton.mp m]; exact hin) hh
  refine ⟨fun p m => hh2 p (R.sub p m), R.nd, by rw [List.length_set]; exact R.len, M.trk, fun i p xs h1 h2 => ?_⟩
  by_cases e : k = i
  · subst e
    rw [hq] at h1
    cases h1
    have hlc : k < c.length := by
      by_cases hl : k < c.length
      · exact hl
      · rw [List.getElem?_eq_none (by rw [List.length_set]; omega)] at h2; cases h2
    rw [List.getElem?_set_self hlc] at h2
    cases h2
    exact M.cel 0 q l' rfl rfl
  · rw [List.getElem?_set_ne e] at h2
    obtain ⟨vs, q1, q2⟩ := R.cel i p xs h1 h2
    have hne : p ≠ q := fun z => by
      subst z
      have a1 : k < ps.length := by
        by_cases hl : k < ps.length
        · exact hl
        · rw [List.getElem?_eq_none (by omega)] at hq; cases hq
      have a2 : i < ps.length := by
        by_cases hl : i < ps.length
        · exact hl
        · rw [List.getElem?_eq_none (by omega)] at h1; cases h1
      rw [List.getElem?_eq_getElem a1] at hq
      rw [List.getElem?_eq_getElem a2] at h1
      exact e ((List.getElem_inj R.nd).mp (by rw [Option.some.inj hq, Option.some.inj h1]))
    exact ⟨vs, s p _ (by simpa using hne) q1, q2.up sb⟩
theorem ed_G {K : PySem.W.Frag} {ta : TA} {st : Sta} {d : PyData} {c : Cs} (h : fCall F fa st = some (d, c)) (ha : ∀ st d c, fa st = some (d, c) → EDA K ta st d c) : ED K (tG K F ta) st d c := by
  obtain ⟨⟨xs, c1⟩, h1, h⟩ := bind_some h
  obtain ⟨⟨r, c2⟩, h2, h⟩ := bind_some h
  simp only at h
  split at h <;> cases h
  refine fun hs ps σ H R Q q => ha _ _ _ h1 hs ps σ H R _ fun vs H2 s2 R2 p2 => ?_
  unfold callF at h2
  split at h2
  · rename_i e0
    obtain ⟨⟨r3, c3⟩, h3, e3⟩ := map_some h2
    cases e3
    exact ⟨hs, [], [], c3, xs, _, R2.hr.none0, paired_none e0 p2, h3, fun v H3 s3 _ d3 => q v H3 (s2.trans (s3.mono (by simp))) (R2.step s3) d3⟩
  · rename_i k0 e0
    split at h2
    · rename_i ok
      obtain ⟨l, hl, h2⟩ := bind_some h2
      obtain ⟨⟨r3, c3⟩, h3, h2⟩ := bind_some h2
      simp only at h2
      split at h2 <;> cases h2
      rename_i l'
      obtain ⟨p, hp⟩ := paired_cel e0 p2
      refine ⟨hs, [p], [l], _, xs.map norm, _, R2.hr.one hp hl, paired_norm hp ok p2, h3, fun v H3 s3 M3 d3 => ?_⟩
      have hin : p ∈ hs := R2.hr.sub p (List.mem_of_getElem? hp)
      have s3' : Step ps H2 H3 := s3.mono fun a m => by rw [List.mem_singleton.mp m]; exact List.mem_of_getElem? hp
      exact q v H3 (s2.trans s3') (R2.slots (s3'.hd0 R2.hr.sub) (R2.hr.back hp s3 M3 (fun _ m n => absurd m n) fun _ m => m)) d3
    · cases h2
theorem edl_G {K : PySem.W.Frag} {ta : TA} {st : Sta} {d : List PyData} {c : Cs} (h : fCallL F fa st = some (d, c)) (ha : ∀ st d c, fa st = some (d, c) → EDA K ta st d c) : EDL K (tG K F ta) st d c := by
  obtain ⟨⟨xs, c1⟩, h1, h⟩ := bind_some h
  obtain ⟨⟨r, c2⟩, h2, h⟩ := bind_some h
  simp only at h
  split at h <;> cases h
  refine fun hs ps σ H R Q q => ha _ _ _ h1 hs ps σ H R _ fun vs H2 s2 R2 p2 => ?_
  unfold callF at h2
  split at h2
  · rename_i e0
    obtain ⟨⟨r3, c3⟩, h3, e3⟩ := map_some h2
    cases e3
    refine ⟨hs, [], [], c3, xs, _, R2.hr.none0, paired_none e0 p2, h3, fun p vs' H3 hp s3 M3 e3 d3 => ?_⟩
    have tr := M3.trk p List.mem_cons_self
    exact q p vs' H3 (DL.fresh_back s2 R2.hr hp) (s2.trans (s3.mono (by simp))) (R2.more s3 hp tr) e3 d3
  · rename_i k0 e0
    split at h2
    · rename_i ok
      obtain ⟨l, hl, h2⟩ := bind_some h2
      obtain ⟨⟨r3, c3⟩, h3, h2⟩ := bind_some h2
      simp only at h2
      split at h2 <;> cases h2
      rename_i l'
      obtain ⟨p, hp⟩ := paired_cel e0 p2
      refine ⟨hs, [p], [l], _, xs.map norm, _, R2.hr.one hp hl, paired_norm hp ok p2, h3, fun t vs' H3 ht s3 M3 e3 d3 => ?_⟩
      have s3' : Step ps H2 H3 := s3.mono fun a m => by rw [List.mem_singleton.mp m]; exact List.mem_of_getElem? hp
      exact q t vs' H3 (DL.fresh_back s2 R2.hr ht) (s2.trans s3') (R2.slots (s3'.hd R2.hr.sub (fresh_hid ht)) (R2.hr.back hp s3 M3 (fresh_hid ht) fun _ m => List.mem_cons_of_mem _ m)) e3 d3
    · cases h2
/-- the one argument a new list, which is the callee's own -/
def fCallFr (F : FnS) (l : FL) : FE := fun st => (l st).bind fun p => (F [.cel 0] [p.1]).bind fun q => match q.1 with
  | .dat d => some (d, p.2)
  | .new _ => none
theorem ed_Fr {K : PySem.W.Frag} {te : TE} {st : Sta} {d : PyData} {c : Cs} {fl : FL} (h : fCallFr F fl st = some (d, c)) (hl : ∀ st d c, fl st = some (d, c) → EDL K te st d c) : ED K (tG K F (tCons te tNil)) st d c := by
  obtain ⟨⟨xs, c1⟩, h1, h⟩ := bind_some h
  obtain ⟨⟨r, c2⟩, h2, h⟩ := bind_some h
  simp only at h
  split at h <;> cases h
  refine fun hs ps σ H R Q q => hl _ _ _ h1 hs ps σ H R _ fun p vs H2 hp s2 R2 e2 d2 => ?_
  have np : p ∉ ps := fun m => R.hr.trk p (R.hr.sub p m) hp
  refine ⟨p :: hs, [p], [xs], c2, [.cel 0], _, ⟨fun a m => by rw [List.mem_singleton.mp m]; exact List.mem_cons_self, by simp, rfl, R2.hr.trk, fun i a ys k1 k2 => ?_⟩, .cons ⟨p, rfl, rfl⟩ .nil, h2, fun v H3 s3 M3 d3 => ?_⟩
  · cases i with
    | zero =>
      cases k1
      cases k2
      exact ⟨vs, e2, d2⟩
    | succ n => simp at k1
  · have sb : Sub (hid (p :: hs) H2) (hid (p :: hs) H3) := s3.hd0 fun a m => by rw [List.mem_singleton.mp m]; exact List.mem_cons_self
    have R3 : Rel K (p :: hs) ps σ H3 ⟨st.ds, c⟩ := R2.slots sb ⟨R2.hr.sub, R2.hr.nd, R2.hr.len, M3.trk, fun i a ys k1 k2 => by
      obtain ⟨ws, q1, q2⟩ := R2.hr.cel i a ys k1 k2
      have hne : a ≠ p := fun z => np (z ▸ List.mem_of_getElem? k1)
      exact ⟨ws, s3 a _ (by simpa using hne) q1, q2.up sb⟩⟩
    refine q v H3 (fun a o n e => ?_) (R3.less (fun a m => List.mem_cons_of_mem _ m) R.hr.sub) (d3.up hid_cons_sub)
    have e4 := s2 a o n e
    exact s3 a o (fun m => by rw [List.mem_singleton.mp m] at e; rw [hp] at e; cases e) e4
theorem pe_callGA {t : TA} (C : At X.prog X.w X.K X.mg X.base k x ns F) (hgd : X.A.guards = some []) (hr : Room k X.A) (hg : Gl X x) (ha : PA X (e :: es) t) (hdb : (x == ("__debug__" : Str)) = false := by decide) (he : starEach (e :: es) X.env = (false, eval e X.env) :: starEach es X.env := by with_reducible first | exact sn_name | exact sn_const | exact sn_tup | exact sn_list | exact sn_bin | exact sn_un | exact sn_bool | exact sn_cmp | exact sn_call | exact sn_sub | exact sn_if | exact sn_attr | exact sn_lc) (hpl : (backTo pos (starEach es X.env)).any (·.1) = false := by rfl) :
    PE X (.Call (.Name x p) (e :: es) [] pos) (tG X.K F t) := by
  obtain ⟨f, fd, hm, hk, G, hb⟩ := C.ex
  refine ⟨fun pins s σ H Q I h => ?_⟩
  refine wpAny_Call_Name_kw (ld_glob I hg hm ?_ hdb)
  refine PySem.W.callWith_K (h₀ := X.base) I.ok.mod.kin hk (thn (ha.run pos pins s σ H _ I h) fun us s1 ⟨vs, H1, I1, r, hs, ps, cs, c, xs, r2, a1, a2, a3, a4⟩ => ⟨I1.kIn, ?_⟩) he hpl
  have hl : us.length = ns.length := by rw [← r.length, Paired.length a2]; exact G.len _ _ _ _ a3
  have b := hb s1 us hl ns.length (Nat.le_refl _)
  rw [← hl, List.take_length, List.drop_length, hl, List.drop_length, List.zip_nil_left] at b
  exact run_g (args := ⟨us, []⟩) G hgd hr I1 b r a1 a2 a3 a4
theorem re_callFr {fl : FL} (C : At X.prog X.w X.K X.mg X.base k x ns F) (hgd : X.A.guards = some []) (hr : Room k X.A) (hg : Gl X x) (hl : RL X e fl) (hdb : (x == ("__debug__" : Str)) = false := by decide) (he : starEach [e] X.env = (false, eval e X.env) :: starEach [] X.env := by with_reducible first | exact sn_name | exact sn_const | exact sn_tup | exact sn_list | exact sn_bin | exact sn_un | exact sn_bool | exact sn_cmp | exact sn_call | exact sn_sub | exact sn_if | exact sn_attr | exact sn_lc) (hpl : (backTo pos (starEach [] X.env)).any (·.1) = false := by rfl) :
    RE X (.Call (.Name x p) [e] [] pos) (fCallFr F fl) := .mk fun st d c h => RE.of (pe_callGA C hgd hr hg (pa_cons (pwE e) pa_nil he) hdb he hpl) (ed_Fr h hl)
theorem pe_callG (C : At X.prog X.w X.K X.mg X.base k x ns F) (hgd : X.A.guards = some []) (hr : Room k X.A) (hg : Gl X x) (hdb : (x == ("__debug__" : Str)) = false := by decide) (he : starEach (e :: es) X.env = (false, eval e X.env) :: starEach es X.env := by with_reducible first | exact sn_name | exact sn_const | exact sn_tup | exact sn_list | exact sn_bin | exact sn_un | exact sn_bool | exact sn_cmp | exact sn_call | exact sn_sub | exact sn_if | exact sn_attr | exact sn_lc) (hpl : (backTo pos (starEach es X.env)).any (·.1) = false := by rfl) :
    PE X (.Call (.Name x p) (e :: es) [] pos) (tG X.K F (wA X (e :: es))) := by
  obtain ⟨f, fd, hm, hk, G, hb⟩ := C.ex
  refine ⟨fun pins s σ H Q I h => ?_⟩
  refine wpAny_Call_Name_kw (ld_glob I hg hm ?_ hdb)
  refine PySem.W.callWith_K (h₀ := X.base) I.ok.mod.kin hk (thn ((pwA (e :: es)).run pos pins s σ H _ I h) fun us s1 ⟨vs, H1, I1, r, hs, ps, cs, c, xs, r2, a1, a2, a3, a4⟩ => ⟨I1.kIn, ?_⟩) he hpl
  have hl : us.length = ns.length := by rw [← r.length, Paired.length a2]; exact G.len _ _ _ _ a3
  have b := hb s1 us hl ns.length (Nat.le_refl _)
  rw [← hl, List.take_length, List.drop_length, hl, List.drop_length, List.zip_nil_left] at b
  exact run_g (args := ⟨us, []⟩) G hgd hr I1 b r a1 a2 a3 a4
theorem pe_callG0 (C : At X.prog X.w X.K X.mg X.base k x ns F) (hgd : X.A.guards = some []) (hr : Room k X.A) (hg : Gl X x) (hdb : (x == ("__debug__" : Str)) = false := by decide) : PE X (.Call (.Name x p) [] [] pos) (tG X.K F tNil) := by
  obtain ⟨f, fd, hm, hk, G, hb⟩ := C.ex
  refine ⟨fun pins s σ H Q I h => ?_⟩
  refine wpAny_Call_Name_kw (ld_glob I hg hm ?_ hdb)
  obtain ⟨hs, ps, cs, c, xs, r2, a1, a2, a3, a4⟩ := h
  have hl : ([] : List Value).length = ns.length := by rw [← G.len _ _ _ _ a3, ← Paired.length a2]; rfl
  have b := hb s [] hl ns.length (Nat.le_refl _)
  rw [List.take_nil, List.drop_nil, List.zip_nil_right, List.zip_nil_right] at b
  refine PySem.W.callWith_K0 I.kIn hk (run_g (args := ⟨[], []⟩) G hgd hr I ?_ .nil a1 a2 a3 a4)
  rw [List.zip_nil_right]
  exact b
theorem re_call (C : At X.prog X.w X.K X.mg X.base k x ns F) (hgd : X.A.guards = some []) (hr : Room k X.A) (hg : Gl X x) (ha : RA X (e :: es) fa) (hdb : (x == ("__debug__" : Str)) = false := by decide) (he : starEach (e :: es) X.env = (false, eval e X.env) :: starEach es X.env := by with_reducible first | exact sn_name | exact sn_const | exact sn_tup | exact sn_list | exact sn_bin | exact sn_un | exact sn_bool | exact sn_cmp | exact sn_call | exact sn_sub | exact sn_if | exact sn_attr | exact sn_lc) (hpl : (backTo pos (starEach es X.env)).any (·.1) = false := by rfl) :
    RE X (.Call (.Name x p) (e :: es) [] pos) (fCall F fa) := .mk fun st d c h => RE.of (pe_callG C hgd hr hg hdb he hpl) (ed_G h ha)
theorem rl_call (C : At X.prog X.w X.K X.mg X.base k x ns F) (hgd : X.A.guards = some []) (hr : Room k X.A) (hg : Gl X x) (ha : RA X (e :: es) fa) (hdb : (x == ("__debug__" : Str)) = false := by decide) (he : starEach (e :: es) X.env = (false, eval e X.env) :: starEach es X.env := by with_reducible first | exact sn_name | exact sn_const | exact sn_tup | exact sn_list | exact sn_bin | exact sn_un | exact sn_bool | exact sn_cmp | exact sn_call | exact sn_sub | exact sn_if | exact sn_attr | exact sn_lc) (hpl : (backTo pos (starEach es X.env)).any (·.1) = false := by rfl) :
    RL X (.Call (.Name x p) (e :: es) [] pos) (fCallL F fa) := .mk fun st d c h => RL.of (pe_callG C hgd hr hg hdb he hpl) (edl_G h ha)
theorem re_call0 (C : At X.prog X.w X.K X.mg X.base k x ns F) (hgd : X.A.guards = some []) (hr : Room k X.A) (hg : Gl X x) (hdb : (x == ("__debug__" : Str)) = false := by decide) : RE X (.Call (.Name x p) [] [] pos) (fCall F fNilA) := .mk fun st d c h =>
  RE.of (pe_callG0 C hgd hr hg hdb) (ed_G h fun st d c h => by cases h; exact eda_nil)
end
end DL


set_option Elab.async false
set_option linter.all false
set_option maxRecDepth 100000
set_option maxHeartbeats 4000000
namespace DL
open PySem PySem.Spec L2
open PyProof.Rows hiding St

/-! ### calls by name alone, the names in the parameters' order -/
def wK (X : Cx) (kws : List Keyword) : TA := fun σ H Q => ∀ pos pins s, L2.Inv X pins σ H s → wpAny (model X.prog X.w) X.A (evalAll ((backToKw pos (keywordEach kws X.env)).map (·.2))) (AP X pins σ Q) X.xe s
theorem pwK {X : Cx} (kws : List Keyword) : PK X kws (wK X kws) := ⟨fun pos pins s _ _ _ I h => h pos pins s I⟩
structure RK (X : Cx) (kws : List Keyword) (f : FA) : Prop where
  h : ∀ st d c, f st = some (d, c) → EDA X.K (wK X kws) st d c
instance (X : Cx) (kws : List Keyword) (f : FA) : CoeFun (RK X kws f) (fun _ => ∀ st d c, f st = some (d, c) → EDA X.K (wK X kws) st d c) := ⟨fun r => r.h⟩
section
variable {X : Cx} {k i : Nat} {x : Str} {ns : List Str} {F : FnS} {e : Expr} {es : List Expr} {p pos kpos : Pos} {fa fk : FA} {fe : FE} {kws : List Keyword} {nm : Option Str}
theorem RK.of {t : TA} {st : Sta} {d : List SV} {c : Cs} (p : PK X kws t) (k : EDA X.K t st d c) : EDA X.K (wK X kws) st d c := fun hs ps σ H R Q q pos pins s I => p.run pos pins s σ H Q I (k hs ps σ H R Q q)
theorem rk_nil : RK X [] fNilA := .mk fun st d c h => by
  cases h; exact RK.of pk_nil eda_nil
theorem rk_cons (ha : RE X e fe) (hr : RK X kws fa) : RK X (⟨nm, e, kpos⟩ :: kws) (fConsA fe fa) := .mk fun st d c h => by
  obtain ⟨⟨x, c1⟩, h1, h⟩ := bind_some h
  obtain ⟨⟨xs, c2⟩, h2, e⟩ := map_some h
  cases e
  exact RK.of (pk_cons (pwE _) (pwK kws)) (eda_cons (ha _ _ _ h1) (hr _ _ _ h2))
theorem pe_callGk (C : At X.prog X.w X.K X.mg X.base k x ns F) (hgd : X.A.guards = some []) (hr : Room k X.A) (hg : Gl X x) (hall : (backToKw pos (keywordEach kws X.env)).all (·.1.isSome) = true := by rfl) (hks : (backToKw pos (keywordEach kws X.env)).filterMap (·.1) = ns := by rfl) (hdb : (x == ("__debug__" : Str)) = false := by decide)
    (hpl : ((backTo pos (starEach [] X.env)).any (·.1) || (backToKw pos (keywordEach kws X.env)).any (·.1.isNone)) = false := by rfl) : PE X (.Call (.Name x p) [] kws pos) (tG X.K F (wK X kws)) := by
  obtain ⟨f, fd, hm, hk, G, hb⟩ := C.ex
  refine ⟨fun pins s σ H Q I h => ?_⟩
  refine wpAny_Call_Name_kw (ld_glob I hg hm ?_ hdb)
  refine PySem.W.callWith_KW0 (h₀ := X.base) I.ok.mod.kin hk hall (thn ((pwK kws).run pos pins s σ H _ I h) fun us s1 ⟨vs, H1, I1, r, hs, ps, cs, c, xs, r2, a1, a2, a3, a4⟩ => ⟨I1.kIn, ?_⟩) hpl
  have hl : us.length = ns.length := by rw [← r.length, Paired.length a2]; exact G.len _ _ _ _ a3
  have b := hb s1 us hl 0 (Nat.zero_le _)
  rw [List.take_zero, List.drop_zero, List.drop_zero] at b
  rw [hks]
  exact run_g (args := ⟨[], ns.zip us⟩) G hgd hr I1 b r a1 a2 a3 a4
theorem re_callk (C : At X.prog X.w X.K X.mg X.base k x ns F) (hgd : X.A.guards = some []) (hr : Room k X.A) (hg : Gl X x) (ha : RK X kws fa) (hall : (backToKw pos (keywordEach kws X.env)).all (·.1.isSome) = true := by rfl) (hks : (backToKw pos (keywordEach kws X.env)).filterMap (·.1) = ns := by rfl) (hdb : (x == ("__debug__" : Str)) = false := by decide)
    (hpl : ((backTo pos (starEach [] X.env)).any (·.1) || (backToKw pos (keywordEach kws X.env)).any (·.1.isNone)) = false := by rfl) : RE X (.Call (.Name x p) [] kws pos) (fCall F fa) := .mk fun st d c h => RE.of (pe_callGk C hgd hr hg hall hks hdb hpl) (ed_G h ha)
end

/-! ### the law -/
def Wants (s₁ : Shared) : Result → Shared → Prop := fun r s' => r = .ok (.ret (.bool true)) ∧ OldK s₁.heap s'.heap ∧ s'.os = s₁.os ∧ AllBare s'.gens
theorem law_G {P : Program} {w : World} {K : PySem.W.Frag} {mg mb : Str → Option Value} {k : Nat} {fa a : Addr} {fd : FuncData} {x : Str} {F : FnS} {s₁ : Shared} {vs : List Value} {ns : List Int}
    (KX : K.In s₁.heap) (g1 : s₁.heap.Ns mainGlobals mg) (g2 : s₁.heap.Ns builtinsNs mb) (g3 : ∀ x : Str, x ≠ "__name__" → mb x = bootBuiltins x) (lim : s₁.heap.NoLimit) (gens : s₁.gens = #[])
    (ho : s₁.heap.get? a = some { cls := .type "list", data := .seq vs.toArray }) (hi : IntsAre vs ns) (hl : ns.length ≤ sizeLine) (hr : Room k callerA)
    (G : ∀ base : Heap, K.In base → base.Ns mainGlobals mg → FnG P w K mg base k fa fd [x] F) (bind : ∀ (s : Shared) (u : Value), BindsTo s fd ⟨[u], []⟩ [(x, u)])
    (T : ∃ c, F [.dat (.list (ns.map PyData.int))] [] = some (.dat (.bool true), c)) : codeAny (model P w) callerA (.call (.ref fa) ⟨[.ref a], []⟩) (Wants s₁) s₁ := by
  have rv := vals_ints hi
  have one : ∀ H : Hp, L2.Only H → SqL K H a (ns.map V.int) → HOk P w H s₁.heap → (∀ b, H b ≠ none → b = a) → (∀ o, K.lookup a = some o → H a = none) → codeAny (model P w) callerA (.call (.ref fa) ⟨[.ref a], []⟩) (Wants s₁) s₁ := by
    intro H only sq ok hA hK
    have free : ∀ {b : Addr} {o : Obj} {es : Array DictEntry} {ep : Nat}, s₁.heap.get? b = some o → o.data = .dict es ep → H b = none := by
      intro b o es ep e d
      cases q : H b with
      | none => rfl
      | some u =>
        have z := hA b (by rw [q]; simp)
        subst z
        rw [ho] at e
        cases e
        cases (show Data.seq vs.toArray _ = Data.dict es ep from d)
    have ns' : ∀ {b : Addr} {m : Str → Option Value}, s₁.heap.Ns b m → (hidT s₁.heap H).Ns b m := by
      rintro b m ⟨o, es, ep, e, d, r⟩
      exact ⟨o, es, ep, hidT_get e (free e d), d, r⟩
    have kb : K.In (hidT s₁.heap H) := by
      intro b o e
      refine hidT_get (KX b o e) ?_
      cases q : H b with
      | none => rfl
      | some u =>
        have z := hA b (by rw [q]; simp)
        subst z
        rw [hK o e] at q; cases q
    obtain ⟨mc, l1, l2⟩ := lim
    have e0 : Env0 P w K mg (hidT s₁.heap H) callerA [] s₁ H :=
      ⟨rfl, ⟨kb, ns' g1, ⟨mb, ns' g2, g3⟩, ⟨mc, ns' l1, l2⟩⟩, fun b o e => of_hidT e,
        Nat.le_of_eq (hidT_size _ _), trivial, fun b hb => (by cases hb), ok, .of_eq gens⟩
    obtain ⟨c, T⟩ := T
    have R0 : HR K [] [] H [] := ⟨fun p m => (by cases m), .nil, rfl, fun a m => (by cases m), fun i p xs h => (by simp at h)⟩
    have d0 : Paired (RelS K [] [] H) [.ref a] [.dat (.list (ns.map PyData.int))] :=
      .cons (.lst (sqL_mono (fun b o e => by rw [hid_out (by simp)]; exact e) sq) (DpAll.ints ns)) .nil
    refine codeAny_mono ((G _ kb (ns' g1)).run callerA [] s₁ H ⟨[.ref a], []⟩ [.ref a] [.ref a] [] [] [] c _ _ (fun v _ => v = .bl true) rfl hr e0 (bind s₁ (.ref a)) (.cons rfl .nil) R0 d0 T fun v H2 _ _ d => dp_bool d) fun r s' h => ?_
    cases r with
    | error e => exact False.elim h
    | ok fl =>
      cases fl with
      | ret u =>
        obtain ⟨v, H', os, bare, un, ok', rr, q⟩ := h
        have q' : v = .bl true := q
        subst q'
        cases (show u = Value.bool true from rr)
        refine ⟨rfl, OldK.of_keep fun b o e => ?_, os, bare⟩
        cases q : H b with
        | none => exact un.keep b o e q (fun z => by cases z) (fun z => by cases z)
        | some u =>
          rcases only b with z | ⟨ob, xs, z⟩
          · rw [q] at z; cases z
          · obtain ⟨e1, _⟩ := ok b _ z
            obtain ⟨e2, _⟩ := ok' b _ (un.frzs b ob _ z)
            rw [e] at e1
            cases e1
            exact e2
      | _ => exact False.elim h
  cases hk : K.lookup a with
  | some o =>
    have e := KX a o hk
    rw [ho] at e
    cases e
    refine one (fun _ => none) (fun _ => .inl rfl) (.inr ⟨_, vs.toArray, _, hk, rfl, rfl, rfl, ?_, by simpa using rv⟩) (fun b u z => by cases z) (fun b z => absurd rfl z) fun _ _ => rfl
    rw [List.size_toArray, hi.length]; exact hl
  | none =>
    let Hs : Hp := fun b => if b = a then some (.frz { cls := .type "list", data := .seq vs.toArray } (.lst (ns.map V.int))) else none
    have at_a : Hs a = some (.frz { cls := .type "list", data := .seq vs.toArray } (.lst (ns.map V.int))) := if_pos rfl
    have off : ∀ b, b ≠ a → Hs b = none := fun b n => if_neg n
    refine one Hs (fun b => ?_) (.inl (.inr ⟨_, at_a⟩)) (fun b u z => ?_) (fun b z => ?_) fun o e => by rw [hk] at e; cases e
    · by_cases n : b = a
      · subst n; exact .inr ⟨_, _, at_a⟩
      · exact .inl (off b n)
    · by_cases n : b = a
      · subst n
        rw [at_a] at z
        cases z
        exact ⟨ho, by rw [List.length_map]; exact hl, vs, _, rv, ho⟩
      · rw [off b n] at z; cases z
    · by_cases n : b = a
      · exact n
      · exact absurd (off b n) z
/-- the goal that the head leaves -/
theorem walk_G {l : PySem.W.OpenLaw} {n k : Nat} {q : Program} {loose : List Str} {XP : (Str → Option Value) → Heap → Prop} {YP : World → Heap → Prop} {d : DefRec} {K : Params → PySem.W.Frag} {F : FnS} {x : Str}
    (hn : l.most = some n) (hn2 : n ≤ sizeLine) (hdf : d.params.defaults = []) (hr : Room k callerA) (hY : ∀ (w : World) (h : Heap), YP w h → (K w.params).In h)
    (G : ∀ (w : World) (mg : Str → Option Value) (fa : Addr) (h : Heap), (K w.params).In h → h.Ns mainGlobals mg → mg d.name = some (.ref fa) →
      ∃ fd : FuncData, (∀ (s : Shared) (u : Value), BindsTo s fd ⟨[u], []⟩ [(x, u)]) ∧ ∀ base : Heap, (K w.params).In base → base.Ns mainGlobals mg → FnG l.prog w (K w.params) mg base k fa fd [x] F)
    (T : ∀ ns : List Int, ns.length ≤ n → ∃ c, F [.dat (.list (ns.map PyData.int))] [] = some (.dat (.bool true), c)) : PySem.W.WalkO q loose XP YP l.row.toRowW d [] (fun f vs => PySem.call f vs) := by
  refine Att.attach_call hn hdf fun w s₀ s₁ mg mb fa o pm cd doc a vs ns Gr Y _ _ _ hmg hobj hints hlen gens => ?_
  have KX := hY w _ Y
  obtain ⟨fd, hb, hF⟩ := G w mg fa _ KX Gr.T.g hmg
  exact law_G KX Gr.T.g Gr.T.b Gr.T.builtins Gr.T.nolimit gens hobj hints (Nat.le_trans hlen hn2) hr hF hb (T ns hlen)
end DL


set_option Elab.async false
set_option linter.all false
set_option maxRecDepth 100000
set_option maxHeartbeats 4000000
namespace DL
open PySem PySem.Spec L2
open PyProof.Rows hiding St

theorem hu64 {k : Nat} {A : Around} (hr : Room k A) : A.units + 64 < cLine := by have := hr.un; omega
section
variable {X : Cx} {a b : Expr} {pos : Pos} {fa fb : FE}
theorem v (i : Nat) {x : Str} (hN : X.N[i]? = some x := by rfl) (hv : Vis X.env.scope x := by first | exact Or.inl rfl | exact Or.inr (Or.inl rfl) | exact Or.inr (Or.inr rfl)) (hd : (x == ("__debug__" : Str)) = false := by decide) (hcd : (x == ("__classdict__" : Str)) = false := by decide) : RE X (.Name x pos) (fVar i) := re_var hN hv hd hcd
/-- + of ints, lists, tuples -/
def gPlus : PyData → PyData → Option PyData
  | .int i, .int j => some (.int (i + j))
  | .list xs, .list ys => if xs.length + ys.length ≤ LIM then some (.list (xs ++ ys)) else none
  | .tuple xs, .tuple ys => if xs.length + ys.length ≤ LIM then some (.tuple (xs ++ ys)) else none
  | _, _ => none
theorem re_plus (ha : RE X a fa) (hb : RE X b fb) : RE X (.BinOp a .Add b pos) (fOp gPlus fa fb) := re_op (OpR.or (OpR.or op_add op_catS) op_catA) (fun x y z h => by
  cases x <;> cases y <;> first | (cases h; done) | skip
  · cases h
    exact fun hs H v w t d1 d2 Q q => .inl (.inl (rd_int0 (fun _ => .int _) hs H v w t d1 d2 Q q))
  · rename_i xs ys
    unfold gPlus at h
    simp only at h
    split at h <;> cases h
    rename_i hl
    intro hs H v w ht h1 h2 Q q
    obtain ⟨p, vs, rfl, hp, da⟩ := dp_list h1
    obtain ⟨p2, ws, rfl, hp2, db⟩ := dp_list h2
    refine .inl (.inr ⟨p, p2, vs, ws, rfl, rfl, sqL_mono hid_sub hp, sqL_mono hid_sub hp2, lim_ok (by rw [da.len, db.len]; exact hl), fun t ht' => ?_⟩)
    have s3 : Step [] H (upd H t (.lst (vs ++ ws))) := Step.new ht'
    have hph : t ∉ hs := fun m => ht t m ht'
    exact q _ _ s3 (.lst (.inl (.inl (by rw [hid_out hph]; exact upd_same))) ((da.app db).up (s3.hd0 (by simp))))
  · rename_i xs ys
    unfold gPlus at h
    simp only at h
    split at h <;> cases h
    rename_i hl
    intro hs H v w ht h1 h2 Q q
    obtain ⟨p, vs, rfl, hp, da⟩ := dp_tuple h1
    obtain ⟨p2, ws, rfl, hp2, db⟩ := dp_tuple h2
    refine .inr ⟨p, p2, vs, ws, rfl, rfl, sqT_mono hid_sub hp, sqT_mono hid_sub hp2, lim_ok (by rw [da.len, db.len]; exact hl), fun e => ?_, fun _ e => ?_, fun _ _ t ht' => ?_⟩
    · subst e
      cases da
      exact q _ H (Step.refl H) h2
    · subst e
      cases db
      rw [List.append_nil] at q
      exact q _ H (Step.refl H) h1
    · have s3 : Step [] H (upd H t (.tup (vs ++ ws))) := Step.new ht'
      have hph : t ∉ hs := fun m => ht t m ht'
      exact q _ _ s3 (.tup (.inl (.inl (by rw [hid_out hph]; exact upd_same))) ((da.app db).up (s3.hd0 (by simp))))) ha hb
end
section
variable {X : Cx} {K : PySem.W.Frag} {a b e : Expr} {p pos : Pos} {fa fb fe : FE}
theorem rt_cmp {op : CmpOp} {r : R2} {g : PyData → PyData → Option PyData} (ho : OpR X (compareOp op) r) (hr : ∀ x y z, g x y = some z → RD X.K r x y z) (ha : RE X a fa) (hb : RE X b fb) (hm : behindInMarks op b = false) : RT X (.Compare a [op] [b] pos) (fTru (fOp g fa fb)) := .mk fun st d c h => by
  obtain ⟨⟨w, c0⟩, h0, h⟩ := bind_some h
  obtain ⟨⟨x, c1⟩, h1, h0⟩ := bind_some h0
  obtain ⟨⟨y, c2⟩, h2, h0⟩ := bind_some h0
  obtain ⟨z, h3, e⟩ := map_some h0
  cases e
  simp only at h
  split at h <;> cases h
  exact RT.of (pt_cmpR ho (pwE a) (pwE b) hm) fun hs ps σ H R Q q => ed_op (ha _ _ _ h1) (hb _ _ _ h2) (hr _ _ _ h3) hs ps σ H R _ fun v H2 s2 R2 d2 => ⟨_, dp_bool d2, q H2 s2 R2⟩
theorem rd_eq {x y z : PyData} (h : gEq x y = some z) : RD K (rEqD K) x y z := by
  unfold gEq at h
  split at h <;> cases h
  rename_i hs
  exact fun _ H v w _ h1 h2 Q q => ⟨x, y, h1.up hid_sub, h2.up hid_sub, hs.1, hs.2, q _ H (Step.refl H) (.bl _)⟩
theorem rd_ne {x y z : PyData} (h : gNe x y = some z) : RD K (rNeD K) x y z := by
  unfold gNe at h
  split at h <;> cases h
  rename_i hs
  exact fun _ H v w _ h1 h2 Q q => ⟨x, y, h1.up hid_sub, h2.up hid_sub, hs.1, hs.2, q _ H (Step.refl H) (.bl _)⟩
theorem rd_isN {x y z : PyData} (h : gIsN x y = some z) : RD K (fun x y H Q => y = .non ∧ Q (.bl (decide (x = .non))) H) x y z := by
  unfold gIsN at h
  split at h <;> cases h
  rename_i hs
  cases isNone_eq hs
  exact fun _ H v w _ h1 h2 Q q => ⟨dp_non h2, q _ H (Step.refl H) (by rw [isNone_dp h1]; exact .bl _)⟩
theorem rd_notN {x y z : PyData} (h : gNotN x y = some z) : RD K (fun x y H Q => y = .non ∧ Q (.bl (!decide (x = .non))) H) x y z := by
  unfold gNotN at h
  split at h <;> cases h
  rename_i hs
  cases isNone_eq hs
  exact fun _ H v w _ h1 h2 Q q => ⟨dp_non h2, q _ H (Step.refl H) (by rw [isNone_dp h1]; exact .bl _)⟩
theorem rt_lt (ha : RE X a fa) (hb : RE X b fb) : RT X (.Compare a [.Lt] [b] pos) (fTru (fOp (gCmp fun i j => decide (i < j)) fa fb)) := rt_cmp op_lt (fun _ _ _ h => rd_cmp h) ha hb (nomark _)
theorem rt_le (ha : RE X a fa) (hb : RE X b fb) : RT X (.Compare a [.LtE] [b] pos) (fTru (fOp (gCmp fun i j => decide (i ≤ j)) fa fb)) := rt_cmp op_le (fun _ _ _ h => rd_cmp h) ha hb (nomark _)
theorem rt_gt (ha : RE X a fa) (hb : RE X b fb) : RT X (.Compare a [.Gt] [b] pos) (fTru (fOp (gCmp fun i j => decide (j < i)) fa fb)) := rt_cmp op_gt (fun _ _ _ h => rd_cmp h) ha hb (nomark _)
theorem rt_ge (ha : RE X a fa) (hb : RE X b fb) : RT X (.Compare a [.GtE] [b] pos) (fTru (fOp (gCmp fun i j => decide (j ≤ i)) fa fb)) := rt_cmp op_ge (fun _ _ _ h => rd_cmp h) ha hb (nomark _)
theorem rt_eq (hu : X.A.units + 64 < cLine) (ha : RE X a fa) (hb : RE X b fb) : RT X (.Compare a [.Eq] [b] pos) (fTru (fOp gEq fa fb)) := rt_cmp (op_eqD hu) (fun _ _ _ h => rd_eq h) ha hb (nomark _)
theorem rt_ne (hu : X.A.units + 64 < cLine) (ha : RE X a fa) (hb : RE X b fb) : RT X (.Compare a [.NotEq] [b] pos) (fTru (fOp gNe fa fb)) := rt_cmp (op_neD hu) (fun _ _ _ h => rd_ne h) ha hb (nomark _)
theorem rt_isN (ha : RE X a fa) (hb : RE X b fb) (hm : behindInMarks .Is b = false := by exact nomark _) : RT X (.Compare a [.Is] [b] pos) (fTru (fOp gIsN fa fb)) := rt_cmp op_isN (fun _ _ _ h => rd_isN h) ha hb hm
theorem rt_notN (ha : RE X a fa) (hb : RE X b fb) (hm : behindInMarks .IsNot b = false := by exact nomark _) : RT X (.Compare a [.IsNot] [b] pos) (fTru (fOp gNotN fa fb)) := rt_cmp op_notN (fun _ _ _ h => rd_notN h) ha hb hm
theorem rt_tyIs {y : Str} {T : String} {p1 p2 p3 : Pos} (hg : Gl X "type") (hm : X.mg "type" = none) (hgT : Gl X y) (hmT : X.mg y = none) (hvT : bootBuiltins y = some (.type T)) (ha : RE X a fe) (he : starEach [a] X.env = (false, eval a X.env) :: starEach [] X.env := by with_reducible first | exact sn_name | exact sn_const | exact sn_tup | exact sn_list | exact sn_bin | exact sn_un | exact sn_bool | exact sn_cmp | exact sn_call | exact sn_sub | exact sn_if | exact sn_attr | exact sn_lc)
    (hnT : y ≠ "__name__" := by decide) (hdT : (y == ("__debug__" : Str)) = false := by decide) :
    RT X (.Compare (.Call (.Name "type" p1) [a] [] p2) [.Is] [.Name y p3] pos) (fTru (fUn (gTyIs T) fe)) := .mk fun st d c h => by
  obtain ⟨⟨w, c0⟩, h0, h⟩ := bind_some h
  obtain ⟨⟨z, c1⟩, h1, h0⟩ := bind_some h0
  obtain ⟨w, h2, e⟩ := map_some h0
  cases e
  cases h2
  cases h
  refine RT.of (pt_cmpR op_isTyB (pe_callTy call_typeD hg hm (by decide +kernel) (pa_cons (pwE a) pa_nil he) (he := he)) (pe_bltn (v := .ty T) hgT hmT hvT rfl hnT hdT) (nomark _)) fun hs ps σ H R Q q => ha _ _ _ h1 hs ps σ H R _ fun v H2 s2 R2 d2 => ?_
  exact ⟨v, z, rfl, d2.up hid_sub, _, _, rfl, rfl, _, rfl, q H2 s2 R2⟩
end
/-- a tuple that stands in the written part -/
theorem dp_kt {K : PySem.W.Frag} {H : Hp} {a : Addr} {dd : Option Addr} {its : Array Value} {n : Nat} {sl : Array (Option Value)} {vs : List V} {ds : List PyData} (h : K.lookup a = some ⟨.type "tuple", dd, .seq its n, sl⟩) (hz : its.size ≤ sizeLine) (r : Vals vs its.toList) (d : ∀ H, DpAll K H vs ds) : Dp K H (.ref a) (.tuple ds) :=
  .tup (.inr ⟨_, its, n, h, rfl, rfl, hz, r⟩) (d H)
end DL


set_option Elab.async false
set_option linter.all false
set_option maxRecDepth 100000
set_option maxHeartbeats 400000
/-! zip of a list and a tuple, either way round -/
namespace DL
open PySem PySem.Spec L2
open PyProof.Rows hiding St

/-- the items of a list (true) or of a tuple (false) -/
def Sq : Bool → PySem.W.Frag → Hp → Addr → List V → Prop
  | true => SqL
  | false => SqT
def OnHeap : Bool → Heap → Addr → Array Value → Prop
  | true => Heap.IsList
  | false => Heap.IsTuple
def ItOn : Bool → Heap → Addr → Addr → Nat → Prop
  | true => Heap.IsListIter
  | false => Heap.IsTupleIter
def itObj (l : Bool) (a : Addr) : Obj := { cls := .type (if l then "list_iterator" else "tuple_iterator"), data := .fields #[.ref a, .int 0 0] }
theorem itObj_on {l : Bool} {h : Heap} {c a : Addr} (e : h.get? c = some (itObj l a)) : ItOn l h c a 0 := by
  cases l
  · exact ⟨_, e, rfl, rfl⟩
  · exact ⟨_, e, rfl, rfl⟩
theorem ItOn.up {l : Bool} {h h' : Heap} {c a : Addr} {i : Nat} (e : ItOn l h c a i) (k : ∀ o, h.get? c = some o → h'.get? c = some o) : ItOn l h' c a i := by
  cases l
  · exact Heap.IsTupleIter.at e k
  · exact Heap.IsListIter.at e k
theorem ItOn.obj {l : Bool} {h : Heap} {c a : Addr} {i : Nat} (e : ItOn l h c a i) : ∃ o, h.get? c = some o ∧ ∀ v, o.data ≠ .cell v := by
  cases l
  · obtain ⟨o, h1, _, h2⟩ := e
    exact ⟨o, h1, fun v q => by rw [h2] at q; cases q⟩
  · obtain ⟨o, h1, _, h2⟩ := e
    exact ⟨o, h1, fun v q => by rw [h2] at q; cases q⟩
theorem OnHeap.lt {l : Bool} {h : Heap} {a : Addr} {its : Array Value} (e : OnHeap l h a its) : a < h.objs.size := by
  cases l
  · obtain ⟨o, h1, _⟩ := e
    exact Heap.lt_size h1
  · obtain ⟨o, h1, _⟩ := e
    exact Heap.lt_size h1
theorem itObj_begins (l : Bool) (a : Addr) (its : Array Value) : Begins (.ref a) (itObj l a) fun h => OnHeap l h a its := by
  cases l
  · exact begins_tuple a its
  · exact begins_list a its
theorem sq_draws (l : Bool) {P : Program} {w : World} {A : Around} (hh : A.handled = none) {c a : Addr} (ne : a ≠ c) (its : Array Value) : Draws P w A c [c, a] its.size (fun i v => its[i]? = some v) (fun i h => ItOn l h c a i ∧ OnHeap l h a its) := by
  cases l
  · exact Draws.tuple hh c a ne its
  · exact Draws.list hh c a ne its
section
variable {X : Cx} {pins : List (Addr × Obj)} {σ : L2.St} {H : Hp} {s : Shared} {a : Addr} {xs ys : List V} {l : Bool}
theorem Sq.heap (I : Inv X pins σ H s) (h : Sq l X.K H a xs) : ∃ its : List Value, Vals xs its ∧ OnHeap l s.heap a its.toArray := by
  cases l
  · obtain ⟨its, r, p, _⟩ := I.tuple h
    exact ⟨its, r, p⟩
  · obtain ⟨its, r, p, _⟩ := I.list h
    exact ⟨its, r, p.isList⟩
theorem Sq.one (I : Inv X pins σ H s) (h : Sq l X.K H a xs) (g : Sq l X.K H a ys) : xs = ys := by
  cases l
  · exact I.tuple_inj h g
  · exact I.list_inj h g
end
theorem Sq.gd {l : Bool} {K : PySem.W.Frag} {hs : List Addr} {H2 H3 : Hp} {p : Addr} {xs : List V} (g : GD hs H2 H3) (h : Sq l K (hid hs H2) p xs) : Sq l K H3 p xs := by
  cases l
  · exact sqT_gd g h
  · exact sqL_gd g h
/-- the pairs of two rows, as long as both last -/
def ItMx (l m : Bool) (K : PySem.W.Frag) (a b : Addr) : It where
  go i H := ∃ xs ys : List V, ∃ x y : V, Sq l K H a xs ∧ Sq m K H b ys ∧ xs[i]? = some x ∧ ys[i]? = some y
  yld i H v H' := ∃ (T : Addr) (x y : V), v = .ref T ∧ H T = none ∧ H' = upd H T (.tup [x, y]) ∧ (∀ xs, Sq l K H a xs → xs[i]? = some x) ∧ ∀ ys, Sq m K H b ys → ys[i]? = some y
  stop i H := ∃ xs ys : List V, Sq l K H a xs ∧ Sq m K H b ys ∧ i = min xs.length ys.length
theorem walk_mx {l m : Bool} {K : PySem.W.Frag} {a b : Addr} {xs ys : List V} {n : Nat} (hn : n = min xs.length ys.length) : Walk (ItMx l m K a b) n (fun H => Sq l K H a xs ∧ Sq m K H b ys) (YPair (fun i => xs[i]?) (fun i => ys[i]?)) := by
  subst hn
  constructor
  · intro i H hi ⟨q1, q2⟩
    exact ⟨xs, ys, _, _, q1, q2, List.getElem?_eq_getElem (by omega), List.getElem?_eq_getElem (by omega)⟩
  · intro H ⟨q1, q2⟩
    exact ⟨xs, ys, q1, q2, rfl⟩
  · rintro i H v H' _ ⟨q1, q2⟩ ⟨T, x, y, h1, h2, h3, h4, h5⟩
    exact ⟨T, x, y, h1, h2, h3, h4 _ q1, h5 _ q2⟩
/-- the five cells of a running zip -/
structure Five (z t u c d a b : Addr) : Prop where
  tz : t ≠ z
  uz : u ≠ z
  cz : c ≠ z
  dz : d ≠ z
  tu : t ≠ u
  tc : t ≠ c
  td : t ≠ d
  uc : u ≠ c
  ud : u ≠ d
  cd : c ≠ d
  az : a ≠ z
  au : a ≠ u
  ac : a ≠ c
  ad : a ≠ d
  bz : b ≠ z
  bu : b ≠ u
  bc : b ≠ c
  bd : b ≠ d
theorem Five.sep {z t u c d a b : Addr} (D : Five z t u c d a b) : ZipSep2 z t u c d [c, a] [d, b] where
  TIz := D.tz
  TOz := D.uz
  TITO := D.tu
  TIi1 := D.tc
  mem1 := by simp
  zf1 := by simp [D.cz.symm, D.az.symm]
  Tf1 := by simp [D.uc, D.au.symm]
  TIi2 := D.td
  mem2 := by simp
  zf2 := by simp [D.dz.symm, D.bz.symm]
  Tf2 := by simp [D.ud, D.bu.symm]
  sep1_2 := by simp [D.cd, D.bc.symm]
  sep2_1 := by simp [D.cd.symm, D.ad.symm]
theorem five_new {n a b : Nat} (ha : a < n) (hb : b < n) : Five (n + 4) (n + 2) (n + 3) n (n + 1) a b := by
  constructor <;> (intro e; have e2 : @Eq Nat _ _ := e; omega)
def MxAt (l m : Bool) (a b z t u c d : Addr) (i : Nat) (h : Heap) : Prop := IsZip h z t u .none ∧ IsTupOf2 h t (.ref c) (.ref d) ∧ (∃ x y, IsTupOf2 h u x y) ∧ ItOn l h c a i ∧ ItOn m h d b i
theorem in5 {x z t u c d : Addr} (h : x ∈ [z, t, u, c, d]) : x = z ∨ x = t ∨ x = u ∨ x = c ∨ x = d := by simpa using h
theorem not5 {x z t u c d : Addr} (h : x ∉ [z, t, u, c, d]) : x ≠ z ∧ x ≠ u ∧ x ≠ c ∧ x ≠ d := by
  refine ⟨?_, ?_, ?_, ?_⟩ <;> intro e <;> exact h (by simp [e])
theorem turn_mx {P : Program} {w : World} {K : PySem.W.Frag} {es : List Expr} {kk : Nat} {tp : Pos} {l m : Bool} {a b z t u c d : Addr} (D : Five z t u c d a b) :
    Turn P w K (.Tuple es kk tp) (ItMx l m K a b) [z, t, u, c, d] z (MxAt l m a b z t u c d) := by
  constructor
  case mem => simp
  case obj =>
    rintro i h ⟨g1, g2, ⟨x, y, g3⟩, g4, g5⟩ b hb
    rcases in5 hb with e | e | e | e | e <;> subst e
    · exact ⟨_, g1, fun v q => nomatch q⟩
    · exact ⟨_, g2, fun v q => nomatch q⟩
    · exact ⟨_, g3, fun v q => nomatch q⟩
    · exact g4.obj
    · exact g5.obj
  case keep =>
    rintro i h h' ⟨g1, g2, ⟨x, y, g3⟩, g4, g5⟩ k
    exact ⟨k _ (by simp) _ g1, k _ (by simp) _ g2, ⟨x, y, k _ (by simp) _ g3⟩, g4.up (k _ (by simp)), g5.up (k _ (by simp))⟩
  case item =>
    intro X hP hw hK hc i pins s σ H E I hf st hg
    subst hP hw hK
    obtain ⟨g1, g2, ⟨x0, y0, g3⟩, g4, g5⟩ := st
    obtain ⟨xs, ys, x, y, q1, q2, hx, hy⟩ := hg
    obtain ⟨us, r1, p1⟩ := q1.heap I
    obtain ⟨vs, r2, p2⟩ := q2.heap I
    obtain ⟨x1, e1, w1⟩ := r1.get hx
    obtain ⟨y1, e2, w2⟩ := r2.get hy
    have hh : X.A.in1.handled = none := I.ok.hd hc
    have zl : z < s.heap.objs.size := Heap.lt_size g1
    have l1 : i < us.toArray.size := by simpa using (List.getElem?_eq_some_iff.mp e1).1
    have l2 : i < vs.toArray.size := by simpa using (List.getElem?_eq_some_iff.mp e2).1
    refine wpAny_pyNext_zipD2_item D.sep (sq_draws l hh D.ac _) (sq_draws m hh D.bd _) g1 g2 g3 ⟨g4, p1⟩ ⟨g5, p2⟩ l1 l2 fun x2 y2 h' tk f1 f2 n1 n2 n3 n4 n5 n6 n7 => ?_
    have f1' : us[i]? = some x2 := by simpa using f1
    have f2' : vs[i]? = some y2 := by simpa using f2
    rw [e1] at f1'
    rw [e2] at f2'
    cases f1'
    cases f2'
    refine ⟨_, rfl, wpAny_letOwnedTupleGo_zip (s := { s with heap := h', toks := tk }) n1 fun h2 m1 sb => ?_⟩
    replace sb : Heap.SameBut z h' h2 := sb
    have up : ∀ c o, c ≠ z → h'.get? c = some o → h2.get? c = some o := fun c o ne e => (sb.2 c ne).trans e
    have mT := up _ _ (Nat.ne_of_gt zl) n5
    have new : ObjOk X.prog X.w (upd H s.heap.objs.size (.tup [x, y])) h2 s.heap.objs.size (.tup [x, y]) :=
      ⟨by show 2 ≤ sizeLine; decide, [x1, y1], .cons w1 (.cons w2 .nil), ⟨_, mT, rfl, _, rfl⟩⟩
    have I1 := I.turnedNew (t' := tk) (ch := [z, t, u, c, d]) (fun b o hb q => up _ _ (not5 hb).1 (n7 b o (not5 hb).1 (not5 hb).2.1 (not5 hb).2.2.1 (not5 hb).2.2.2 q)) hf (Nat.le_refl _) new
    refine ⟨.ref s.heap.objs.size, _, I1, rfl, ⟨_, x, y, rfl, I.hok.fresh (Nat.le_refl _), rfl, fun zs hz => ?_, fun zs hz => ?_⟩, ⟨m1, up _ _ D.tz (n7 _ _ D.tz D.tu D.tc D.td g2), ⟨x1, y1, up _ _ D.uz n2⟩, n3.1.up fun o => up _ _ D.cz, n4.1.up fun o => up _ _ D.dz⟩, fun b hb => ?_⟩
    · rw [Sq.one I hz q1]; exact hx
    · rw [Sq.one I hz q2]; exact hy
    · have lt : b < s.heap.objs.size := by
        rcases in5 hb with e | e | e | e | e <;> subst e
        · exact zl
        · exact Heap.lt_size g2
        · exact Heap.lt_size g3
        · obtain ⟨o, e, _⟩ := g4.obj
          exact Heap.lt_size e
        · obtain ⟨o, e, _⟩ := g5.obj
          exact Heap.lt_size e
      rw [upd_ne (Nat.ne_of_lt lt)]
      exact (hf b hb).1
  case done =>
    intro X hP hw hK hc i pins s σ H E I hf st hg
    subst hP hw hK
    obtain ⟨g1, g2, ⟨x0, y0, g3⟩, g4, g5⟩ := st
    obtain ⟨xs, ys, q1, q2, he⟩ := hg
    obtain ⟨us, r1, p1⟩ := q1.heap I
    obtain ⟨vs, r2, p2⟩ := q2.heap I
    have e1 := r1.length
    have e2 := r2.length
    have hh : X.A.in1.handled = none := I.ok.hd hc
    exact wpAny_pyNext_zipD2_end D.sep (sq_draws l hh D.ac us.toArray) (sq_draws m hh D.bd vs.toArray) g1 g2 g3 ⟨g4, p1⟩ ⟨g5, p2⟩ (by simp only [List.size_toArray]; omega) (by simp only [List.size_toArray]; omega) (by simp only [List.size_toArray]; omega)
      fun h' tk k => ⟨rfl, I.turnedL (t' := tk) (ch := [z, t, u, c, d]) (fun b o hb q => k b o (not5 hb).1 (not5 hb).2.1 (not5 hb).2.2.1 (not5 hb).2.2.2 q) hf⟩
  case self => exact fun A i s Q E st h => wpAny_pyIter_zip st.1 h
def iMx (l m : Bool) (K : PySem.W.Frag) (ta : TA) : TI := fun σ H R => ta σ H fun vs H1 => ∃ (a b : Addr) (xs ys : List V), vs = [.ref a, .ref b] ∧ Sq l K H1 a xs ∧ Sq m K H1 b ys ∧ R (ItMx l m K a b) H1
theorem pi_mx {X : Cx} {l m : Bool} {e e2 : Expr} {ta : TA} {p pos tp : Pos} {es : List Expr} {kk : Nat} (hg : Gl X "zip") (hm : X.mg "zip" = none) (ha : PA X [e, e2] ta)
    (hs : starEach [e, e2] X.env = (false, eval e X.env) :: starEach [e2] X.env) (hpl : (backTo pos (starEach [e2] X.env)).any (·.1) = false) :
    PI X (.Tuple es kk tp) (.Call (.Name "zip" p) [e, e2] [] pos) (iMx l m X.K ta) := by
  constructor
  intro pins s σ H R I h
  refine Call_ (ld_blt I hg hm PyProof.Rows.boot_zip (PyProof.Rows.callWith_type1 (thn (ha.run pos pins s σ H _ I h) ?_) hs hpl))
  rintro us s1 ⟨vs, H1, I1, r, a, b, xs, ys, rfl, q1, q2, q⟩
  obtain ⟨u1, us1, rfl, w1, r1⟩ : ∃ u us', us = u :: us' ∧ RelV (.ref a) u ∧ Vals [.ref b] us' := by cases r with | cons x y => exact ⟨_, _, rfl, x, y⟩
  obtain ⟨u2, rfl, w2⟩ := vals1 r1
  cases w1
  cases w2
  obtain ⟨as, _, p1⟩ := q1.heap I1
  obtain ⟨bs, _, p2⟩ := q2.heap I1
  refine zip_begins2 (itObj_begins l a _) (itObj_begins m b _) p1 p2 fun h' g1 g2 g3 g4 g5 _ k => wpAny_pyIter_zip g1 ?_
  refine ⟨s1.heap.objs.size + 4, [s1.heap.objs.size + 4, s1.heap.objs.size + 2, s1.heap.objs.size + 3, s1.heap.objs.size, s1.heap.objs.size + 1], _, _, H1, rfl, I1.kept (t' := s1.toks) k, turn_mx (five_new p1.lt p2.lt), ⟨g1, g2, ⟨_, _, g3⟩, itObj_on g4, itObj_on g5⟩, fun c hc => ?_, q⟩
  have le : s1.heap.objs.size ≤ c := by
    rcases in5 hc with e | e | e | e | e <;> rw [e] <;> omega
  exact I1.fpOk le (I1.hok.fresh le)
end DL


set_option Elab.async false
set_option linter.all false
set_option maxRecDepth 100000
set_option maxHeartbeats 1000000
/-! enumerate over a tuple as over a list -/
namespace DL
open PySem PySem.Spec L2
open PyProof.Rows hiding St

def enObj (it : Addr) : Obj where
  data := .fields #[.none, .bool false, .ref it, rawInt 0, .none, .none]
  cls := .type "enumerate"
theorem en_new {v : Value} {o : Obj} {Hp0 : Heap → Prop} (B : Begins v o Hp0) : Meets (Builtin.«enumerate.__new__» { pos := [.type "enumerate", v], kw := [] }) fun _ R s => Hp0 s.heap ∧ R (.ok (.ret (.ref (s.heap.push o).objs.size))) { s with heap := (s.heap.push o).push (enObj s.heap.objs.size) } := by
  refine Meets.of_wp ?_
  rintro P w A R ⟨hp, gs, dr, tk, os⟩ ⟨hb, hR⟩
  have sub := sub_enumerate
  have hit : ∀ {A1 : Around} {E1 Q1 : Value → Shared → Prop}, Q1 (.ref hp.objs.size) ⟨hp.push o, gs, dr, tk, os⟩ → wpAny (model P w) A1 (pyIter v) Q1 E1 ⟨hp, gs, dr, tk, os⟩ := fun hq => B.iter P w _ _ _ _ hb hq
  wp_walk using hit
  refine wpAny_stack_any fun fr => wpAny_pure ?_
  split
  · rename_i k _ _ _ _ _
    by_cases hk : (k == Value.type "enumerate") = true
    · rw [hk]
      wp_walk using hit
      exact ⟨_, rfl, hR⟩
    · rw [Bool.eq_false_iff.mpr hk]
      wp_walk using hit
      exact ⟨_, rfl, hR⟩
  · wp_walk using hit
    exact ⟨_, rfl, hR⟩
theorem en_call {P : Program} {w : World} {A : Around} {E : Value → Shared → Prop} {s : Shared} {v : Value} {o : Obj} {Hp0 : Heap → Prop} {Q : Value → Shared → Prop} (B : Begins v o Hp0) (hb : Hp0 s.heap)
    (hQ : ∀ h', IsEnum h' (s.heap.objs.size + 1) s.heap.objs.size 0 .none → h'.get? s.heap.objs.size = some o → (∀ c u, s.heap.get? c = some u → h'.get? c = some u) → Q (.ref (s.heap.objs.size + 1)) { s with heap := h' }) :
    wpAny (model P w) A (call (.type "enumerate") [v]) Q E s := by
  refine callType_new F.called_enumerate (by decide) (F.typeCall_enumerate_1 _) (F.newCall_enumerate_1 _) (fun ob => F.args_object_init_2 ob _) F.entry_enumerate_new (en_new B) ⟨hb, ?_⟩
  have sz : (s.heap.push o).objs.size = s.heap.objs.size + 1 := Heap.size_push ..
  have gE : ((s.heap.push o).push (enObj s.heap.objs.size)).get? (s.heap.objs.size + 1) = some (enObj s.heap.objs.size) := by
    rw [← sz]; exact Heap.get?_push_size _ rfl
  have gO : ((s.heap.push o).push (enObj s.heap.objs.size)).get? s.heap.objs.size = some o := Heap.get?_push_of_some _ (Heap.get?_push_size _ B.free)
  show _ ∧ _
  rw [sz]
  exact ⟨⟨_, gE, rfl⟩, hQ _ gE gO fun c u e => Heap.get?_push_of_some _ (Heap.get?_push_of_some _ e)⟩
/-- the items of a row with their places -/
def ItEx (l : Bool) (K : PySem.W.Frag) (a : Addr) : It where
  go i H := ∃ xs : List V, ∃ x : V, Sq l K H a xs ∧ xs[i]? = some x
  yld i H v H' := ∃ (T : Addr) (x : V), v = .ref T ∧ H T = none ∧ H' = upd H T (.tup [.int (i : Nat), x]) ∧ ∀ xs, Sq l K H a xs → xs[i]? = some x
  stop i H := ∃ xs : List V, Sq l K H a xs ∧ i = xs.length
theorem walk_ex {l : Bool} {K : PySem.W.Frag} {a : Addr} {xs : List V} : Walk (ItEx l K a) xs.length (fun H => Sq l K H a xs) (YPair (fun i => some (.int (i : Nat))) (fun i => xs[i]?)) := by
  constructor
  · intro i H hi q
    exact ⟨xs, _, q, List.getElem?_eq_getElem hi⟩
  · intro H q
    exact ⟨xs, q, rfl⟩
  · rintro i H v H' _ q ⟨T, x, h1, h2, h3, h4⟩
    exact ⟨T, _, x, h1, h2, h3, rfl, h4 _ q⟩
def ExAt (l : Bool) (a e c : Addr) (i : Nat) (h : Heap) : Prop := (∃ old, IsEnum h e c ((i : Nat) : Int) old) ∧ ItOn l h c a i
theorem in2 {x e c : Addr} (h : x ∈ [e, c]) : x = e ∨ x = c := by simpa using h
theorem turn_ex {P : Program} {w : World} {K : PySem.W.Frag} {es : List Expr} {kk : Nat} {tp : Pos} {l : Bool} {a e c : Addr} (ec : e ≠ c) (ea : e ≠ a) (ca : c ≠ a) :
    Turn P w K (.Tuple es kk tp) (ItEx l K a) [e, c] e (ExAt l a e c) := by
  constructor
  case mem => simp
  case obj =>
    rintro i h ⟨⟨old, g1⟩, g2⟩ b hb
    rcases in2 hb with q | q <;> subst q
    · exact ⟨_, g1, fun v q => nomatch q⟩
    · exact g2.obj
  case keep =>
    rintro i h h' ⟨⟨old, g1⟩, g2⟩ k
    exact ⟨⟨old, k _ (by simp) _ g1⟩, g2.up (k _ (by simp))⟩
  case item =>
    intro X hP hw hK hc i pins s σ H E I hf st hg
    subst hP hw hK
    obtain ⟨⟨old, g1⟩, g2⟩ := st
    obtain ⟨xs, x, q1, hx⟩ := hg
    obtain ⟨us, r1, p1⟩ := q1.heap I
    obtain ⟨x1, e1, w1⟩ := r1.get hx
    have hh : X.A.in1.handled = none := I.ok.hd hc
    have el : e < s.heap.objs.size := Heap.lt_size g1
    have l1 : i < us.toArray.size := by simpa using (List.getElem?_eq_some_iff.mp e1).1
    have D := sq_draws (P := X.prog) (w := X.w) l hh (Ne.symm ca) us.toArray
    refine wpAny_pyNext_enum_itemD D g1 ⟨g2, p1⟩ l1 ec (by simp [ec, ea]) fun x2 h' tk f1 n1 n2 n3 n4 n5 => ?_
    have f1' : us[i]? = some x2 := by simpa using f1
    rw [e1] at f1'
    cases f1'
    refine ⟨_, rfl, wpAny_letOwnedTupleGo_enum (s := { s with heap := h', toks := tk + 1 }) n1 fun h2 m1 sb => ?_⟩
    replace sb : Heap.SameBut e h' h2 := sb
    have up : ∀ c o, c ≠ e → h'.get? c = some o → h2.get? c = some o := fun c o ne q => (sb.2 c ne).trans q
    have mT := up _ _ (Nat.ne_of_gt el) n3
    have new : ObjOk X.prog X.w (upd H s.heap.objs.size (.tup [.int (i : Nat), x])) h2 s.heap.objs.size (.tup [.int (i : Nat), x]) :=
      ⟨by show 2 ≤ sizeLine; decide, [.int i tk, x1], .cons ⟨_, rfl⟩ (.cons w1 .nil), ⟨_, mT, rfl, _, rfl⟩⟩
    have nb : ∀ b, b ∉ [e, c] → b ≠ e ∧ b ≠ c := fun b hb => ⟨fun z => hb (by simp [z]), fun z => hb (by simp [z])⟩
    have I1 := I.turnedNew (t' := tk + 1) (ch := [e, c]) (fun b o hb q => up _ _ (nb b hb).1 (n5 b o (nb b hb).1 (nb b hb).2 q)) hf (Nat.le_refl _) new
    refine ⟨.ref s.heap.objs.size, _, I1, rfl, ⟨_, x, rfl, I.hok.fresh (Nat.le_refl _), rfl, fun zs hz => ?_⟩, ⟨⟨x1, ?_⟩, n2.1.up fun o => up _ _ (Ne.symm ec)⟩, fun b hb => ?_⟩
    · rw [Sq.one I hz q1]; exact hx
    · have e1 : ((i + 1 : Nat) : Int) = (i : Int) + 1 := by omega
      rw [e1]; exact m1
    · have lt : b < s.heap.objs.size := by
        rcases in2 hb with q | q <;> subst q
        · exact el
        · obtain ⟨o, q, _⟩ := g2.obj
          exact Heap.lt_size q
      rw [upd_ne (Nat.ne_of_lt lt)]
      exact (hf b hb).1
  case done =>
    intro X hP hw hK hc i pins s σ H E I hf st hg
    subst hP hw hK
    obtain ⟨⟨old, g1⟩, g2⟩ := st
    obtain ⟨xs, q1, he⟩ := hg
    obtain ⟨us, r1, p1⟩ := q1.heap I
    have e1 := r1.length
    have hh : X.A.in1.handled = none := I.ok.hd hc
    have hi : us.toArray.size = i := by simp only [List.size_toArray]; omega
    have D := sq_draws (P := X.prog) (w := X.w) l hh (Ne.symm ca) us.toArray
    exact wpAny_pyNext_enum_endD D g1 (by rw [hi]; exact ⟨g2, p1⟩) fun h' eb => ⟨rfl, I.turnedL (t' := s.toks) (ch := [e, c]) (fun b o hb q => eb b o (fun z => hb (by simp [z])) q) hf⟩
  case self =>
    rintro A i s Q E ⟨⟨_, g1⟩, _⟩ h
    exact wpAny_pyIter_enum g1 h
def iEx (l : Bool) (K : PySem.W.Frag) (ta : TA) : TI := fun σ H R => ta σ H fun vs H1 => ∃ (a : Addr) (xs : List V), vs = [.ref a] ∧ Sq l K H1 a xs ∧ R (ItEx l K a) H1
theorem pi_ex {X : Cx} {l : Bool} {e : Expr} {ta : TA} {p pos tp : Pos} {es : List Expr} {kk : Nat} (hg : Gl X "enumerate") (hm : X.mg "enumerate" = none) (ha : PA X [e] ta) (hs : starEach [e] X.env = [(false, eval e X.env)]) :
    PI X (.Tuple es kk tp) (.Call (.Name "enumerate" p) [e] [] pos) (iEx l X.K ta) := by
  constructor
  intro pins s σ H R I h
  refine Call_ (ld_blt I hg hm PyProof.Rows.boot_enumerate (PyProof.Rows.callWith_type1 (thn (ha.run pos pins s σ H _ I h) ?_) hs rfl))
  rintro us s1 ⟨vs, H1, I1, r, a, xs, rfl, q1, q⟩
  obtain ⟨u1, rfl, w1⟩ := vals1 r
  cases w1
  obtain ⟨as, _, p1⟩ := q1.heap I1
  refine en_call (itObj_begins l a _) p1 fun h' g1 g2 k => wpAny_pyIter_enum g1 ?_
  have la := p1.lt
  refine ⟨s1.heap.objs.size + 1, [s1.heap.objs.size + 1, s1.heap.objs.size], _, _, H1, rfl, I1.kept (t' := s1.toks) k, turn_ex (a := a) (Nat.succ_ne_self _) (Nat.ne_of_gt (Nat.lt_succ_of_lt la)) (Nat.ne_of_gt la), ⟨⟨_, g1⟩, itObj_on g2⟩, fun c hc => ?_, q⟩
  have le : s1.heap.objs.size ≤ c := by
    rcases in2 hc with e | e <;> rw [e]
    · exact Nat.le_succ _
    · exact Nat.le_refl _
  exact I1.fpOk le (I1.hok.fresh le)
end DL


set_option Elab.async false
set_option linter.all false
set_option maxRecDepth 100000
set_option maxHeartbeats 400000
namespace DL
open PySem PySem.Spec L2
open PyProof.Rows hiding St

/-! ### zip and enumerate -/
def enumD : Nat → List PyData → List PyData
  | _, [] => []
  | k, x :: xs => .tuple [.int (k : Nat), x] :: enumD (k + 1) xs
def zipD : List PyData → List PyData → List PyData
  | x :: xs, y :: ys => .tuple [x, y] :: zipD xs ys
  | _, _ => []
theorem enumD_len : ∀ (k : Nat) (xs : List PyData), (enumD k xs).length = xs.length
  | _, [] => rfl
  | k, x :: xs => by simp only [enumD, List.length_cons, enumD_len (k + 1) xs]
theorem enumD_get : ∀ (k : Nat) (xs : List PyData) (i : Nat) (x : PyData), xs[i]? = some x → (enumD k xs)[i]? = some (.tuple [.int ((k + i : Nat) : Int), x])
  | _, [], i, x, h => by simp at h
  | k, y :: ys, 0, x, h => by
    have e : y = x := by simpa using h
    subst e
    rfl
  | k, y :: ys, i + 1, x, h => by
    have h' : ys[i]? = some x := by simpa using h
    have := enumD_get (k + 1) ys i x h'
    show (enumD (k + 1) ys)[i]? = _
    rw [this, show k + 1 + i = k + (i + 1) from by omega]
theorem zipD_len : ∀ (xs ys : List PyData), (zipD xs ys).length = min xs.length ys.length
  | [], ys => by simp [zipD]
  | x :: xs, [] => by simp [zipD]
  | x :: xs, y :: ys => by simp only [zipD, List.length_cons, zipD_len xs ys]; omega
theorem zipD_get : ∀ (xs ys : List PyData) (i : Nat) (x y : PyData), xs[i]? = some x → ys[i]? = some y → (zipD xs ys)[i]? = some (.tuple [x, y])
  | [], ys, i, x, y, h, _ => by simp at h
  | a :: xs, [], i, x, y, _, h => by simp at h
  | a :: xs, b :: ys, 0, x, y, h, g => by
    have e : a = x := by simpa using h
    have e2 : b = y := by simpa using g
    subst e e2
    rfl
  | a :: xs, b :: ys, i + 1, x, y, h, g => zipD_get xs ys i x y (by simpa using h) (by simpa using g)
/-- a pair that is made on the way -/
theorem pair_new {K : PySem.W.Frag} {hs hs' : List Addr} {H2 H3 : Hp} {T : Addr} {x y : V} {d e : PyData} (g : GD hs H2 H3) (ht : H3 T = none) (h1 : ∀ a ∈ hs', a ∉ hs → H2 a = none) (h2 : ∀ a ∈ hs', H3 a ≠ none) (dx : Dp K (hid hs H2) x d) (dy : Dp K (hid hs H2) y e) :
    Dp K (hid hs' (upd H3 T (.tup [x, y]))) (.ref T) (.tuple [d, e]) := by
  have n : T ∉ hs' := fun m => h2 T m ht
  have sb : Sub (hid hs H2) (hid hs' (upd H3 T (.tup [x, y]))) := fun a o q => by
    have q' := g.sub (hs' := hs') h1 a o q
    obtain ⟨m, q2⟩ := hid_some q'
    rw [hid_out m, upd_ne (fun z => by rw [z, ht] at q2; cases q2)]
    exact q2
  exact .tup (.inl (.inl (by rw [hid_out n]; exact upd_same))) (.cons (dx.up sb) (.cons (dy.up sb) .nil))
theorem walk_dE {K : PySem.W.Frag} {hs : List Addr} {H2 : Hp} {p : Addr} {ws : List V} {ds : List PyData} (hp : SqL K (hid hs H2) p ws) (da : DpAll K (hid hs H2) ws ds) : Walk (Ite K p) (enumD 0 ds).length (GD hs H2) (YD K hs H2 (enumD 0 ds)) := by
  rw [enumD_len, ← da.len]
  refine (walk_enum (K := K) (a := p) (xs := ws)).mono (fun H3 g => sqL_gd g hp) fun i H3 x H' hi g y => ?_
  obtain ⟨T, u, v, rfl, ht, rfl, h1, h2⟩ := y
  cases h1
  obtain ⟨d, h3, h4⟩ := da.getV h2
  refine ⟨Step.new ht, _, enumD_get 0 ds i d h3, fun hs' q1 q2 => ?_⟩
  rw [Nat.zero_add]
  exact pair_new g ht q1 q2 (.int _) h4
theorem walk_dZ {K : PySem.W.Frag} {hs : List Addr} {H2 : Hp} {p q : Addr} {ws us : List V} {ds es : List PyData} (hp : SqL K (hid hs H2) p ws) (hq : SqL K (hid hs H2) q us) (da : DpAll K (hid hs H2) ws ds) (db : DpAll K (hid hs H2) us es) : Walk (Itz K p q) (zipD ds es).length (GD hs H2) (YD K hs H2 (zipD ds es)) := by
  refine (walk_zip (K := K) (a := p) (b := q) (xs := ws) (ys := us) (by rw [zipD_len, da.len, db.len])).mono (fun H3 g => ⟨sqL_gd g hp, sqL_gd g hq⟩) fun i H3 x H' hi g y => ?_
  obtain ⟨T, u, v, rfl, ht, rfl, h1, h2⟩ := y
  obtain ⟨d, h3, h4⟩ := da.getV h1
  obtain ⟨e, h5, h6⟩ := db.getV h2
  exact ⟨Step.new ht, _, zipD_get ds es i d e h3 h5, fun hs' q1 q2 => pair_new g ht q1 q2 h4 h6⟩
section
variable {K : PySem.W.Frag} {a b : Addr} {xs ys : List V}
theorem walk_zipTT {n : Nat} (hn : n = min xs.length ys.length) : Walk (RZ.ItzT K a b) n (fun H => SqT K H a xs ∧ SqT K H b ys) (YPair (fun i => xs[i]?) (fun i => ys[i]?)) := by
  subst hn
  refine ⟨fun i _ hi q => ?_, fun _ q => ⟨xs, ys, q.1, q.2, by omega⟩, fun i H v H' _ q y => ?_⟩
  · have h1 : i < xs.length := by omega
    have h2 : i < ys.length := by omega
    exact ⟨xs, ys, xs[i], ys[i], q.1, q.2, by simp [h1], by simp [h2]⟩
  · obtain ⟨T, x, z, h1, h2, h3, h4, h5⟩ := y
    exact ⟨T, x, z, h1, h2, h3, h4 xs q.1, h5 ys q.2⟩
end
theorem walk_dZT {K : PySem.W.Frag} {hs : List Addr} {H2 : Hp} {p q : Addr} {ws us : List V} {ds es : List PyData} (hp : SqT K (hid hs H2) p ws) (hq : SqT K (hid hs H2) q us) (da : DpAll K (hid hs H2) ws ds) (db : DpAll K (hid hs H2) us es) : Walk (RZ.ItzT K p q) (zipD ds es).length (GD hs H2) (YD K hs H2 (zipD ds es)) := by
  refine (walk_zipTT (K := K) (a := p) (b := q) (xs := ws) (ys := us) (by rw [zipD_len, da.len, db.len])).mono (fun H3 g => ⟨sqT_gd g hp, sqT_gd g hq⟩) fun i H3 x H' hi g y => ?_
  obtain ⟨T, u, v, rfl, ht, rfl, h1, h2⟩ := y
  obtain ⟨d, h3, h4⟩ := da.getV h1
  obtain ⟨e, h5, h6⟩ := db.getV h2
  exact ⟨Step.new ht, _, zipD_get ds es i d e h3 h5, fun hs' q1 q2 => pair_new g ht q1 q2 h4 h6⟩
theorem walk_dM {l m : Bool} {K : PySem.W.Frag} {hs : List Addr} {H2 : Hp} {p q : Addr} {ws us : List V} {ds es : List PyData} (hp : Sq l K (hid hs H2) p ws) (hq : Sq m K (hid hs H2) q us) (da : DpAll K (hid hs H2) ws ds) (db : DpAll K (hid hs H2) us es) : Walk (ItMx l m K p q) (zipD ds es).length (GD hs H2) (YD K hs H2 (zipD ds es)) := by
  refine (walk_mx (l := l) (m := m) (K := K) (a := p) (b := q) (xs := ws) (ys := us) (by rw [zipD_len, da.len, db.len])).mono (fun H3 g => ⟨Sq.gd g hp, Sq.gd g hq⟩) fun i H3 x H' hi g y => ?_
  obtain ⟨T, u, v, rfl, ht, rfl, h1, h2⟩ := y
  obtain ⟨d, h3, h4⟩ := da.getV h1
  obtain ⟨e, h5, h6⟩ := db.getV h2
  exact ⟨Step.new ht, _, zipD_get ds es i d e h3 h5, fun hs' q1 q2 => pair_new g ht q1 q2 h4 h6⟩
theorem walk_dEx {l : Bool} {K : PySem.W.Frag} {hs : List Addr} {H2 : Hp} {p : Addr} {ws : List V} {ds : List PyData} (hp : Sq l K (hid hs H2) p ws) (da : DpAll K (hid hs H2) ws ds) : Walk (ItEx l K p) (enumD 0 ds).length (GD hs H2) (YD K hs H2 (enumD 0 ds)) := by
  rw [enumD_len, ← da.len]
  refine (walk_ex (l := l) (K := K) (a := p) (xs := ws)).mono (fun H3 g => Sq.gd g hp) fun i H3 x H' hi g y => ?_
  obtain ⟨T, u, v, rfl, ht, rfl, h1, h2⟩ := y
  cases h1
  obtain ⟨d, h3, h4⟩ := da.getV h2
  refine ⟨Step.new ht, _, enumD_get 0 ds i d h3, fun hs' q1 q2 => ?_⟩
  rw [Nat.zero_add]
  exact pair_new g ht q1 q2 (.int _) h4
section
variable {X : Cx} {a b e : Expr} {fa : FA} {p pos : Pos}
def fEnum (a : FA) : FL := fun st => (a st).bind fun q => match q.1 with
  | [.dat (.list xs)] => some (enumD 0 xs, q.2)
  | [.dat (.tuple xs)] => some (enumD 0 xs, q.2)
  | _ => none
def fZip (a : FA) : FL := fun st => (a st).bind fun q => match q.1 with
  | [.dat (.list xs), .dat (.list ys)] => some (zipD xs ys, q.2)
  | [.dat (.tuple xs), .dat (.tuple ys)] => some (zipD xs ys, q.2)
  | [.dat (.list xs), .dat (.tuple ys)] => some (zipD xs ys, q.2)
  | [.dat (.tuple xs), .dat (.list ys)] => some (zipD xs ys, q.2)
  | _ => none
theorem ri_enum {elts : List Expr} {kk : Nat} {tpos : Pos} (hg : Gl X "enumerate") (hm : X.mg "enumerate" = none) (ha : RA X [a] fa) (hs : starEach [a] X.env = [(false, eval a X.env)] := by rfl) : RI X (.Tuple elts kk tpos) (.Call (.Name "enumerate" p) [a] [] pos) (fEnum fa) := .mk fun st xs c h => by
  obtain ⟨⟨y, c1⟩, h1, h⟩ := bind_some h
  simp only at h
  split at h
  · cases h
    exact RI.of (pi_enum hg hm (pwA [a]) hs) fun hs ps σ H R Q q => ha _ _ _ h1 hs ps σ H R _ fun vs H2 s2 R2 p2 => by
      obtain ⟨v, rfl, d⟩ := dpa1 (paired_dat (ds := [_]) p2)
      obtain ⟨p, ws, rfl, hp, da⟩ := dp_list d
      exact ⟨p, ws, rfl, sqL_mono hid_sub hp, q _ H2 s2 R2 (walk_dE hp da)⟩
  · cases h
    exact RI.of (pi_ex (l := false) hg hm (pwA [a]) hs) fun hs ps σ H R Q q => ha _ _ _ h1 hs ps σ H R _ fun vs H2 s2 R2 p2 => by
      obtain ⟨v, rfl, d⟩ := dpa1 (paired_dat (ds := [_]) p2)
      obtain ⟨p, ws, rfl, hp, da⟩ := dp_tuple d
      exact ⟨p, ws, rfl, sqT_mono hid_sub hp, q _ H2 s2 R2 (walk_dEx (l := false) hp da)⟩
  · cases h
theorem ri_zip {elts : List Expr} {kk : Nat} {tpos : Pos} (hg : Gl X "zip") (hm : X.mg "zip" = none) (ha : RA X [a, b] fa) (hs : starEach [a, b] X.env = (false, eval a X.env) :: starEach [b] X.env := by rfl)
    (hpl : (backTo pos (starEach [b] X.env)).any (·.1) = false := by rfl) : RI X (.Tuple elts kk tpos) (.Call (.Name "zip" p) [a, b] [] pos) (fZip fa) := .mk fun st xs c h => by
  obtain ⟨⟨y, c1⟩, h1, h⟩ := bind_some h
  simp only at h
  split at h
  · cases h
    exact RI.of (RZ.pi_zipA hg hm (pwA [a, b]) hs hpl) fun hs ps σ H R Q q => ha _ _ _ h1 hs ps σ H R _ fun vs H2 s2 R2 p2 => by
      obtain ⟨v, w, rfl, d, d2⟩ := dpa2 (paired_dat (ds := [_, _]) p2)
      obtain ⟨p, ws, rfl, hp, da⟩ := dp_list d
      obtain ⟨p', us, rfl, hp', db⟩ := dp_list d2
      exact ⟨p, p', ws, us, rfl, .inl ⟨sqL_mono hid_sub hp, sqL_mono hid_sub hp', q _ H2 s2 R2 (walk_dZ hp hp' da db)⟩⟩
  · cases h
    exact RI.of (RZ.pi_zipA hg hm (pwA [a, b]) hs hpl) fun hs ps σ H R Q q => ha _ _ _ h1 hs ps σ H R _ fun vs H2 s2 R2 p2 => by
      obtain ⟨v, w, rfl, d, d2⟩ := dpa2 (paired_dat (ds := [_, _]) p2)
      obtain ⟨p, ws, rfl, hp, da⟩ := dp_tuple d
      obtain ⟨p', us, rfl, hp', db⟩ := dp_tuple d2
      exact ⟨p, p', ws, us, rfl, .inr ⟨sqT_mono hid_sub hp, sqT_mono hid_sub hp', q _ H2 s2 R2 (walk_dZT hp hp' da db)⟩⟩
  · cases h
    exact RI.of (pi_mx (l := true) (m := false) hg hm (pwA [a, b]) hs hpl) fun hs ps σ H R Q q => ha _ _ _ h1 hs ps σ H R _ fun vs H2 s2 R2 p2 => by
      obtain ⟨v, w, rfl, d, d2⟩ := dpa2 (paired_dat (ds := [_, _]) p2)
      obtain ⟨p, ws, rfl, hp, da⟩ := dp_list d
      obtain ⟨p', us, rfl, hp', db⟩ := dp_tuple d2
      exact ⟨p, p', ws, us, rfl, sqL_mono hid_sub hp, sqT_mono hid_sub hp', q _ H2 s2 R2 (walk_dM (l := true) (m := false) hp hp' da db)⟩
  · cases h
    exact RI.of (pi_mx (l := false) (m := true) hg hm (pwA [a, b]) hs hpl) fun hs ps σ H R Q q => ha _ _ _ h1 hs ps σ H R _ fun vs H2 s2 R2 p2 => by
      obtain ⟨v, w, rfl, d, d2⟩ := dpa2 (paired_dat (ds := [_, _]) p2)
      obtain ⟨p, ws, rfl, hp, da⟩ := dp_tuple d
      obtain ⟨p', us, rfl, hp', db⟩ := dp_list d2
      exact ⟨p, p', ws, us, rfl, sqT_mono hid_sub hp, sqL_mono hid_sub hp', q _ H2 s2 R2 (walk_dM (l := false) (m := true) hp hp' da db)⟩
  · cases h
def gSum : List PyData → Option PyData
  | [.list xs] => (intsOf xs).map fun ns => .int ns.sum
  | _ => none
theorem re_sum (hc : X.calm = true) (hg : Gl X "sum") (hm : X.mg "sum" = none) (ha : RA X [a] fa) (he : starEach [a] X.env = (false, eval a X.env) :: starEach [] X.env := by with_reducible first | exact sn_name | exact sn_call | exact sn_lc) : RE X (.Call (.Name "sum" p) [a] [] pos) (fBi gSum fa) :=
  re_bi (cr_sum hc) (fun xs z h => by
    unfold gSum at h
    split at h
    · obtain ⟨bs, h1, rfl⟩ := map_some h
      intro hs H vs _ d Q q
      obtain ⟨v, rfl, d1⟩ := dpa1 d
      obtain ⟨p, ws, rfl, hp, da⟩ := dp_list d1
      rw [ints_dp h1 da] at hp
      exact ⟨p, bs, rfl, sqL_mono hid_sub hp, q _ H (Step.refl H) (.int _)⟩
    · cases h) hg hm (by decide +kernel) ha (he := he)
end

/-! ### calls by name, the names in another order -/
def perm {α : Type} (is : List Nat) (l : List α) : List α := is.filterMap fun i => l[i]?
theorem Paired.get? {α β : Type} {R : α → β → Prop} : ∀ {xs : List α} {ys : List β} {i : Nat}, Paired R xs ys → (∃ x y, xs[i]? = some x ∧ ys[i]? = some y ∧ R x y) ∨ (xs[i]? = none ∧ ys[i]? = none)
  | _, _, i, .nil => .inr ⟨by simp, by simp⟩
  | _, _, 0, .cons a t => .inl ⟨_, _, rfl, rfl, a⟩
  | _, _, i + 1, .cons a t => by simpa using Paired.get? (i := i) t
theorem paired_perm {α β : Type} {R : α → β → Prop} {xs : List α} {ys : List β} (h : Paired R xs ys) : ∀ is : List Nat, Paired R (perm is xs) (perm is ys)
  | [] => .nil
  | i :: is => by
    have t := paired_perm h is
    unfold perm at t ⊢
    rcases Paired.get? (i := i) h with ⟨x, y, h1, h2, h3⟩ | ⟨h1, h2⟩
    · rw [List.filterMap_cons_some h1, List.filterMap_cons_some h2]
      exact .cons h3 t
    · rw [List.filterMap_cons_none h1, List.filterMap_cons_none h2]
      exact t
def fPerm (is : List Nat) (a : FA) : FA := fun st => (a st).bind fun p => if p.1.length = is.length then some (perm is p.1, p.2) else none
def tP (is : List Nat) (ta : TA) : TA := fun σ H Q => ta σ H fun vs H1 => vs.length = is.length ∧ Q (perm is vs) H1
theorem eda_perm {K : PySem.W.Frag} {is : List Nat} {ta : TA} {fa : FA} {st : Sta} {d : List SV} {c : Cs} (h : fPerm is fa st = some (d, c)) (ha : ∀ st d c, fa st = some (d, c) → EDA K ta st d c) : EDA K (tP is ta) st d c := by
  obtain ⟨⟨xs, c1⟩, h1, h⟩ := bind_some h
  simp only at h
  split at h <;> cases h
  rename_i hl
  refine fun hs ps σ H R Q q => ha _ _ _ h1 hs ps σ H R _ fun vs H2 s2 R2 p2 => ⟨by rw [Paired.length p2]; exact hl, q _ H2 s2 R2 (paired_perm p2 is)⟩
structure AtP (P : Program) (w : World) (K : PySem.W.Frag) (mg : Str → Option Value) (base : Heap) (k : Nat) (x : Str) (ns ks : List Str) (is : List Nat) (F : FnS) : Prop where
  ex : ∃ (f : Addr) (fd : FuncData), mg x = some (.ref f) ∧ PySem.W.keepIn K (.ref f) = true ∧ FnG P w K mg base k f fd ns F ∧
    ∀ (s : Shared) (us : List Value), us.length = is.length → BindsTo s fd ⟨[], ks.zip us⟩ (ns.zip (perm is us))
theorem atp_mk {P : Program} {w : World} {K : PySem.W.Frag} {mg : Str → Option Value} {base : Heap} {k : Nat} {x : Str} {st : Stmt} {f : Addr} {fd : FuncData} {ns ks : List Str} {is : List Nat} {F : FnS} (U : Fun K x x st f fd) (hm : mg x = some (.ref f)) (G : FnG P w K mg base k f fd ns F)
    (hb : ∀ (kV doc pm : Value) (an : Option Addr) (cdv ct : Value) (us : List Value), us.length = is.length → bindArgs (PySem.W.fnOf x x (defArgs st) (defBody st) (defScope st) .none kV doc pm an cdv ct) ⟨[], ks.zip us⟩ = pure (ns.zip (perm is us))) : AtP P w K mg base k x ns ks is F := by
  obtain ⟨oc, od, kV, doc, pm, an, cdv, ct, osl, e, lk, hcd⟩ := U.ex
  refine ⟨f, fd, hm, U.kp, G, fun s us hl => ?_⟩
  subst e
  exact .of_eq (hb kV doc pm an cdv ct us hl)
section
variable {X : Cx} {k : Nat} {x : Str} {ns ks : List Str} {is : List Nat} {F : FnS} {e : Expr} {es : List Expr} {p pos kpos : Pos} {fa fk : FA} {fe : FE} {kws : List Keyword} {nm : Option Str}
theorem pe_callGkp (C : AtP X.prog X.w X.K X.mg X.base k x ns ks is F) (hgd : X.A.guards = some []) (hr : Room k X.A) (hg : Gl X x) (hall : (backToKw pos (keywordEach kws X.env)).all (·.1.isSome) = true := by rfl) (hks : (backToKw pos (keywordEach kws X.env)).filterMap (·.1) = ks := by rfl) (hdb : (x == ("__debug__" : Str)) = false := by decide)
    (hpl : ((backTo pos (starEach [] X.env)).any (·.1) || (backToKw pos (keywordEach kws X.env)).any (·.1.isNone)) = false := by rfl) : PE X (.Call (.Name x p) [] kws pos) (tG X.K F (tP is (wK X kws))) := by
  obtain ⟨f, fd, hm, hk, G, hb⟩ := C.ex
  refine ⟨fun pins s σ H Q I h => ?_⟩
  refine wpAny_Call_Name_kw (ld_glob I hg hm ?_ hdb)
  refine PySem.W.callWith_KW0 (h₀ := X.base) I.ok.mod.kin hk hall (thn ((pwK kws).run pos pins s σ H _ I h) fun us s1 ⟨vs, H1, I1, r, hl, hs, ps, cs, c, xs, r2, a1, a2, a3, a4⟩ => ⟨I1.kIn, ?_⟩) hpl
  have b := hb s1 us (by rw [← r.length]; exact hl)
  rw [hks]
  exact run_g (args := ⟨[], ks.zip us⟩) G hgd hr I1 b (paired_perm r is) a1 a2 a3 a4
theorem re_callkp (C : AtP X.prog X.w X.K X.mg X.base k x ns ks is F) (hgd : X.A.guards = some []) (hr : Room k X.A) (hg : Gl X x) (ha : RK X kws fa) (hall : (backToKw pos (keywordEach kws X.env)).all (·.1.isSome) = true := by rfl) (hks : (backToKw pos (keywordEach kws X.env)).filterMap (·.1) = ks := by rfl) (hdb : (x == ("__debug__" : Str)) = false := by decide)
    (hpl : ((backTo pos (starEach [] X.env)).any (·.1) || (backToKw pos (keywordEach kws X.env)).any (·.1.isNone)) = false := by rfl) : RE X (.Call (.Name x p) [] kws pos) (fCall F (fPerm is fa)) := .mk fun st d c h => RE.of (pe_callGkp C hgd hr hg hall hks hdb hpl) (ed_G h fun st d c h => eda_perm h ha.h)
end

/-! ### append -/
/-- a list of one's own is changed -/
theorem Rel.putL {K : PySem.W.Frag} {hs ps : List Addr} {σ : St} {H : Hp} {st : Sta} (R : Rel K hs ps σ H st) {c : Nat} {p : Addr} {xs xs' : List PyData} {vs vs' : List V} (hp : ps[c]? = some p) (hx : st.cs[c]? = some xs) (hv : H p = some (.lst vs)) (da : DpAll K (hid hs H) vs' xs') :
    Step ps H (upd H p (.lst vs')) ∧ Rel K hs ps σ (upd H p (.lst vs')) ⟨st.ds, st.cs.set c xs'⟩ := by
  have hin := R.hr.sub p (List.mem_of_getElem? hp)
  have sb : Sub (hid hs H) (hid hs (upd H p (.lst vs'))) := fun a o e => by
    obtain ⟨n, k⟩ := hid_some e
    rw [hid_out n, upd_ne (fun z => n (by rw [z]; exact hin))]; exact k
  refine ⟨fun a o n e => by rw [upd_ne (fun z => n (by rw [z]; exact List.mem_of_getElem? hp))]; exact e, R.slots sb ⟨R.hr.sub, R.hr.nd, by simp [R.hr.len], fun a ma => ?_, fun i q ys k1 k2 => ?_⟩⟩
  · by_cases e : a = p
    · rw [e, upd_same]; simp
    · rw [upd_ne e]; exact R.hr.trk a ma
  · by_cases e : c = i
    · subst e
      rw [hp] at k1
      cases k1
      have hl : c < st.cs.length := by
        by_cases hl : c < st.cs.length
        · exact hl
        · rw [List.getElem?_eq_none (by omega)] at hx; cases hx
      rw [List.getElem?_set_self hl] at k2
      cases k2
      exact ⟨_, upd_same, da.up sb⟩
    · rw [List.getElem?_set_ne e] at k2
      obtain ⟨ws, q1, q2⟩ := R.hr.cel i q ys k1 k2
      have hne : q ≠ p := fun z => by
        subst z
        have h1 : c < ps.length := by
          by_cases hl : c < ps.length
          · exact hl
          · rw [List.getElem?_eq_none (by omega)] at hp; cases hp
        have h2 : i < ps.length := by
          by_cases hl : i < ps.length
          · exact hl
          · rw [List.getElem?_eq_none (by omega)] at k1; cases k1
        exact e ((List.getElem_inj R.hr.nd).mp (by
          rw [List.getElem?_eq_getElem h1] at hp
          rw [List.getElem?_eq_getElem h2] at k1
          rw [Option.some.inj hp, Option.some.inj k1]))
      exact ⟨ws, by rw [upd_ne hne]; exact q1, q2.up sb⟩
/-- x.append(e), x a list of one's own -/
def fApp (i : Nat) (e : FE) : FS := fun st => (e st).bind fun p => match st.ds[i]? with
  | some (some (.cel c)) => (p.2[c]?).bind fun xs => if xs.length < 100000 then some (.nx ⟨st.ds, p.2.set c (xs ++ [p.1])⟩) else none
  | _ => none
section
variable {X : Cx} {n0 : Nat} {e : Expr} {fe : FE} {p pos : Pos}
theorem rs_app {i : Nat} {x : Str} {p1 apos cpos : Pos} (hN : X.N[i]? = some x) (hv : Vis X.env.scope x) (h : RE X e fe) (hd : (x == ("__debug__" : Str)) = false := by decide) (hcd : (x == ("__classdict__" : Str)) = false := by decide)
    (hbase : attributeBase (.Name x p1) "append" X.env (eval (.Name x p1) X.env) = eval (.Name x p1) X.env := by rfl)
    (hfew : ((backTo cpos (starEach (e :: []) X.env)).all (fun x => !x.1) && (backToKw cpos (keywordEach [] X.env)).all (fun x => x.1.isSome)
      && decide ((e :: ([] : List Expr)).length + ([] : List Keyword).length + (if ([] : List Keyword).isEmpty then 0 else 1) < 30)) = true := by rfl)
    (hline : (apos.endLine == cpos.line) = true := by rfl) (hs : starEach (e :: []) X.env = (false, eval e X.env) :: starEach [] X.env := by rfl) (hplain : (backTo cpos (starEach [] X.env)).any (·.1) = false := by rfl)
    (hsw : swapsWith (.Call (.Attribute (.Name x p1) "append" apos) [e] [] cpos) none pos.line X.env = pure false := by rfl) :
    RS X n0 (.Expr (.Call (.Attribute (.Name x p1) "append" apos) [e] [] cpos) pos) (fApp i fe) := .mk fun st o hq => by
  obtain ⟨⟨d, c⟩, e1, hq⟩ := bind_some hq
  simp only at hq
  split at hq
  · rename_i k es
    obtain ⟨xs, ex, hq⟩ := bind_some hq
    by_cases hlen : xs.length < 100000
    rotate_left
    · rw [if_neg hlen] at hq; cases hq
    rw [if_pos hlen] at hq
    cases hq
    refine RS.of (ps_expr (pe_bm PySem.F.plainAttrs_list PySem.F.slot_list_append PySem.F.type_list_append mt_append (pe_var hN hv hd hcd) (pa_cons (pwE e) pa_nil hs) hbase hfew hline hs hplain) hsw) fun hs0 ps0 H0 i1 i2 hs ps σ H L R D q => ?_
    obtain ⟨w, w1, p, w2, rfl⟩ := R.slot i _ es
    have hc : k < st.cs.length := by
      by_cases hl : k < st.cs.length
      · exact hl
      · have := R.hr.len
        rw [List.getElem?_eq_none (by omega)] at w2; cases w2
    obtain ⟨ys, ey⟩ : ∃ ys, st.cs[k]? = some ys := ⟨_, List.getElem?_eq_getElem hc⟩
    obtain ⟨ws, z1, z2⟩ := R.hr.cel k p ys w2 ey
    refine ⟨_, w1, .inl ⟨rfl, ws, .inl (.inl z1)⟩, h _ _ _ e1 hs ps σ H R _ fun v H2 s2 R2 d2 => ?_⟩
    obtain ⟨vs, q1, q2⟩ := R2.hr.cel k p xs w2 ex
    obtain ⟨s4, R4⟩ := R2.putL w2 ex q1 (DpAll.app q2 (.cons d2 .nil))
    exact ⟨p, vs, v, rfl, rfl, q1, by rw [q2.len]; exact Nat.lt_trans hlen (by unfold sizeLine; decide : (100000 : Nat) < sizeLine), q hs ps σ _ ((L.step s2).step s4) R4⟩
  · cases hq
end

/-! ### so many times a list -/
theorem DpAll.rep {K : PySem.W.Frag} {H : Hp} {vs : List V} {xs : List PyData} (h : DpAll K H vs xs) : ∀ n : Nat, DpAll K H (List.replicate n vs).flatten (List.replicate n xs).flatten
  | 0 => .nil
  | n + 1 => by
    rw [List.replicate_succ, List.replicate_succ, List.flatten_cons, List.flatten_cons]
    exact DpAll.app h (DpAll.rep h n)
def fRep (a : FL) (b : FE) : FE := fun st => (a st).bind fun p => (b ⟨st.ds, p.2⟩).bind fun q => match q.1 with
  | .int k => if rngOk k = true ∧ p.1.length * k.toNat ≤ 100000 then some (.list (List.replicate k.toNat p.1).flatten, q.2) else none
  | _ => none
theorem re_rep {X : Cx} {a b : Expr} {pos : Pos} {fa : FL} {fb : FE} (ha : RL X a fa) (hb : RE X b fb) : RE X (.BinOp a .Mult b pos) (fRep fa fb) := .mk fun st d c h => by
  obtain ⟨⟨xs, c1⟩, h1, h⟩ := bind_some h
  obtain ⟨⟨y, c2⟩, h2, h⟩ := bind_some h
  simp only at h
  split at h
  · rename_i k
    by_cases hok : rngOk k = true ∧ xs.length * k.toNat ≤ 100000
    rotate_left
    · rw [if_neg hok] at h; cases h
    rw [if_pos hok] at h
    cases h
    have hk := of_decide_eq_true (show decide _ = true from hok.1)
    refine RE.of (pe_op op_rep (pwE a) (pwE b)) fun hs ps σ H R Q q => ha _ _ _ h1 hs ps σ H R _ fun p vs H2 hp s2 R2 e2 da => hb _ _ _ h2 (p :: hs) ps σ H2 R2 _ fun w H3 s3 R3 d3 => ?_
    cases dp_int d3
    have hph : p ∉ hs := fun m => R.hr.trk p m hp
    have e3 : H3 p = some (.lst vs) := s3 p _ (fun m => hph (R.hr.sub p m)) e2
    refine ⟨p, k, vs, rfl, rfl, e3, by omega, by omega, by rw [da.len]; exact lim_ok hok.2, fun t ht => ?_⟩
    have R4 := R3.less (fun a m => List.mem_cons_of_mem _ m) R.hr.sub
    have s4 : Step [] H3 (upd H3 t (.lst (List.replicate k.toNat vs).flatten)) := Step.new ht
    have hth : t ∉ hs := fun m => R4.hr.trk t m ht
    have da3 := (da.up (s3.hd0 R2.hr.sub)).up hid_cons_sub
    exact q _ _ ((s2.trans s3).trans (s4.mono (by simp))) (R4.step s4) (.lst (.inl (.inl (by rw [hid_out hth]; exact upd_same))) ((DpAll.rep da3 k.toNat).up (s4.hd0 (by simp))))
  · cases h

/-! ### slices of lists and of tuples; + of ints, lists, tuples -/
theorem DpAll.cut {K : PySem.W.Frag} {H : Hp} {vs : List V} {ds : List PyData} (da : DpAll K H vs ds) (lo hi : Option Int) : DpAll K H (cutV vs lo hi) (cutD ds lo hi) := by
  unfold cutV cutD
  rw [da.len]
  exact (da.dr _).tk _
theorem cutD_whole {ds : List PyData} {lo hi : Option Int} (h : HT.sIx ds.length 0 lo = 0 ∧ HT.sIx ds.length ds.length hi = ds.length) : cutD ds lo hi = ds := by
  unfold cutD
  rw [h.1, h.2, List.drop_zero, Nat.sub_zero, List.take_length]
def fSl (a : FE) (l u : Sta → Option (Option Int × Cs)) : FE := fun st => (a st).bind fun p => (l ⟨st.ds, p.2⟩).bind fun q => (u ⟨st.ds, q.2⟩).bind fun r => match p.1 with
  | .list xs => some (.list (cutD xs q.1 r.1), r.2)
  | .tuple xs => some (.tuple (cutD xs q.1 r.1), r.2)
  | _ => none
theorem sl_both {X : Cx} : SlR X (fun x lo hi H Q => rSlL X.K x lo hi H Q ∨ rSlA X.K x lo hi H Q) := by
  intro pins s σ H x v vl vu lo hi sl Q I rx hs pl pu h
  rcases h with h | h
  · exact sl_list pins s σ H _ v vl vu lo hi sl Q I rx hs pl pu h
  · exact sl_tupA pins s σ H _ v vl vu lo hi sl Q I rx hs pl pu h
theorem re_sl {X : Cx} {a : Expr} {pos : Pos} {fa : FE} {lo hi : Option Expr} {fl fu : Sta → Option (Option Int × Cs)} {p2 : Pos} (ha : RE X a fa) (hl : RO X lo fl) (hu : RO X hi fu) : RE X (.Subscript a (.Slice lo hi none p2) pos) (fSl fa fl fu) := .mk fun st d c h => by
  obtain ⟨⟨x, c1⟩, h1, h⟩ := bind_some h
  obtain ⟨⟨y, c2⟩, h2, h⟩ := bind_some h
  obtain ⟨⟨z, c3⟩, h3, h⟩ := bind_some h
  obtain ⟨tl, pl, kl⟩ := hl
  obtain ⟨tu, pu, ku⟩ := hu
  simp only at h
  split at h
  · cases h
    refine RE.of (pe_slice sl_both (pwE a) pl pu) fun hs ps σ H R Q q => ha _ _ _ h1 hs ps σ H R _ fun v H2 s2 R2 d2 => kl _ _ _ h2 hs ps σ H2 R2 _ fun H3 s3 R3 => ku _ _ _ h3 hs ps σ H3 R3 _ fun H4 s4 R4 => ?_
    obtain ⟨p, vs, rfl, hp, da⟩ := dp_list d2
    have sb := (s3.trans s4).hd0 R2.hr.sub
    refine .inl ⟨p, vs, rfl, sqL_mono hid_sub (sqL_mono sb hp), fun t ht => ?_⟩
    have da4 := DpAll.cut (da.up sb) y z
    have s5 : Step [] H4 (upd H4 t (.lst (cutV vs y z))) := Step.new ht
    have hth : t ∉ hs := fun m => R4.hr.trk t m ht
    exact q _ _ (((s2.trans s3).trans s4).trans (s5.mono (by simp))) (R4.step s5) (.lst (.inl (.inl (by rw [hid_out hth]; exact upd_same))) (da4.up (s5.hd0 (by simp))))
  · cases h
    refine RE.of (pe_slice sl_both (pwE a) pl pu) fun hs ps σ H R Q q => ha _ _ _ h1 hs ps σ H R _ fun v H2 s2 R2 d2 => kl _ _ _ h2 hs ps σ H2 R2 _ fun H3 s3 R3 => ku _ _ _ h3 hs ps σ H3 R3 _ fun H4 s4 R4 => ?_
    obtain ⟨p, vs, rfl, hp, da⟩ := dp_tuple d2
    have sb := (s3.trans s4).hd0 R2.hr.sub
    refine .inr ⟨p, vs, rfl, sqT_mono hid_sub (sqT_mono sb hp), fun hw => ?_, fun hw t ht => ?_⟩
    · rw [da.len] at hw
      rw [cutD_whole hw] at q
      exact q _ _ ((s2.trans s3).trans s4) R4 (d2.up sb)
    · have da4 := DpAll.cut (da.up sb) y z
      have s5 : Step [] H4 (upd H4 t (.tup (cutV vs y z))) := Step.new ht
      have hth : t ∉ hs := fun m => R4.hr.trk t m ht
      exact q _ _ (((s2.trans s3).trans s4).trans (s5.mono (by simp))) (R4.step s5) (.tup (.inl (.inl (by rw [hid_out hth]; exact upd_same))) (da4.up (s5.hd0 (by simp))))
  · cases h
theorem rg_tupK {X : Cx} {es : List Expr} {pos : Pos} {k n : Nat} {t : TGs} {js : List Nat} {r : Sta → List PyData → Option Sta} (K0 : PySem.W.Frag) (hK : X.K = K0) (hc : X.calm = true) (h : RGs X es t js r) (hn : (assignEach es X.env).length = n := by rfl) (hst : (assignEach es X.env).findIdx? (·.1) = none := by rfl) : RG X (.Tuple es k pos) (gTup K0 n t) js (aTup n r) := by
  subst hK
  exact rg_tup hc h hn hst
theorem dpa3 {K : PySem.W.Frag} {H : Hp} {vs : List V} {d d' d2 : PyData} (h : DpAll K H vs [d, d', d2]) : ∃ v w u, vs = [v, w, u] ∧ Dp K H v d ∧ Dp K H w d' ∧ Dp K H u d2 := by
  cases h with
  | cons a t =>
    obtain ⟨w, u, rfl, h2, h3⟩ := dpa2 t
    exact ⟨_, _, _, rfl, a, h2, h3⟩
def fPar3 (i j l : Nat) (a : FA) : FS := fun st => (a st).bind fun p => match p.1 with
  | [.dat x, .dat y, .dat z] => some (.nx ⟨((st.ds.set i (some (.dat x))).set j (some (.dat y))).set l (some (.dat z)), p.2⟩)
  | _ => none
theorem rs_par3 {X : Cx} {n0 : Nat} {a b c : Expr} {fa : FA} {pos : Pos} {i j l : Nat} {x y z : Str} {px py pz pt : Pos} {kt k2 pt2} (ha : RA X [a, b, c] fa)
    {P : PS X (.Assign [.Tuple [.Name x px, .Name y py, .Name z pz] kt pt] (.Tuple [a, b, c] k2 pt2) pos) (tPar3 i j l (wA X [a, b, c]))} : RS X n0 (.Assign [.Tuple [.Name x px, .Name y py, .Name z pz] kt pt] (.Tuple [a, b, c] k2 pt2) pos) (fPar3 i j l fa) := .mk fun st o hq => by
  obtain ⟨⟨xs, c⟩, e1, hq⟩ := bind_some hq
  simp only at hq
  split at hq
  · cases hq
    refine RS.of P fun hs0 ps0 H0 i1 i2 hs ps σ H L R D q => ha _ _ _ e1 hs ps σ H R _ fun vs H2 s2 R2 p2 => ?_
    obtain ⟨v, w, u, rfl, d1, d2, d3⟩ := dpa3 (paired_dat (ds := [_, _, _]) p2)
    exact ⟨v, w, u, rfl, q hs ps _ H2 (L.step s2) (((R2.set i (x := .dat _) d1).set j (x := .dat _) d2).set l (x := .dat _) d3)⟩
  · cases hq
end DL


set_option Elab.async false
set_option linter.all false
set_option maxRecDepth 100000
set_option maxHeartbeats 4000000
namespace DL
open PySem PySem.Spec L2
open PyProof.Rows hiding St

/-! ### a star in a row of values -/
def fStarA (a : FE) (r : FA) : FA := fun st => (a st).bind fun p => match p.1 with
  | .list xs => (r ⟨st.ds, p.2⟩).map fun q => (xs.map SV.dat ++ q.1, q.2)
  | .tuple xs => (r ⟨st.ds, p.2⟩).map fun q => (xs.map SV.dat ++ q.1, q.2)
  | _ => none
theorem paired_of_dat {K : PySem.W.Frag} {hs ps : List Addr} {H : Hp} : ∀ {ds : List PyData} {vs : List V}, DpAll K (hid hs H) vs ds → Paired (RelS K hs ps H) vs (ds.map SV.dat)
  | [], _, h => by cases h; exact .nil
  | _ :: _, _, h => by
    cases h with
    | cons a t => exact .cons a (paired_of_dat t)
theorem paired_app {R : V → SV → Prop} : ∀ {vs ws : List V} {xs ys : List SV}, Paired R vs xs → Paired R ws ys → Paired R (vs ++ ws) (xs ++ ys)
  | _, _, _, _, .nil, h => h
  | _, _, _, _, .cons a t, h => .cons a (paired_app t h)
section
variable {X : Cx} {a b c e : Expr} {es : List Expr} {fa fb fc fe : FE} {f : FA} {p pos : Pos}
theorem ra_star (ha : RE X e fa) (hr : RA X es f) (hs : starEach (.Starred e p :: es) X.env = (true, eval e X.env) :: starEach es X.env := by rfl) : RA X (.Starred e p :: es) (fStarA fa f) := .mk fun st d c h => by
  obtain ⟨⟨x, c1⟩, h1, h⟩ := bind_some h
  simp only at h
  split at h
  · rename_i xs
    obtain ⟨⟨ys, c2⟩, h2, e⟩ := map_some h
    cases e
    refine RA.of (StX.pa_star (pwE e) (pwA es) hs) fun hs ps σ H R Q q => ha _ _ _ h1 hs ps σ H R _ fun v H2 s2 R2 d2 => ?_
    obtain ⟨p, vs, rfl, hp, da⟩ := dp_list d2
    refine ⟨p, vs, rfl, .inr (sqL_mono hid_sub hp), hr _ _ _ h2 hs ps σ H2 R2 _ fun ws H3 s3 R3 p3 => ?_⟩
    exact q _ H3 (s2.trans s3) R3 (paired_app (paired_of_dat (da.up (s3.hd0 R2.hr.sub))) p3)
  · rename_i xs
    obtain ⟨⟨ys, c2⟩, h2, e⟩ := map_some h
    cases e
    refine RA.of (StX.pa_star (pwE e) (pwA es) hs) fun hs ps σ H R Q q => ha _ _ _ h1 hs ps σ H R _ fun v H2 s2 R2 d2 => ?_
    obtain ⟨p, vs, rfl, hp, da⟩ := dp_tuple d2
    refine ⟨p, vs, rfl, .inl (sqT_mono hid_sub hp), hr _ _ _ h2 hs ps σ H2 R2 _ fun ws H3 s3 R3 p3 => ?_⟩
    exact q _ H3 (s2.trans s3) R3 (paired_app (paired_of_dat (da.up (s3.hd0 R2.hr.sub))) p3)
  · cases h

/-! ### type(x) is not T -/
def gTyNot (T : String) (x : PyData) : Option PyData := some (.bool (!decide (tyOf x = T)))
theorem re_tyNot {y : Str} {T : String} {p1 p2 p3 : Pos} (hg : Gl X "type") (hm : X.mg "type" = none) (hgT : Gl X y) (hmT : X.mg y = none) (hvT : bootBuiltins y = some (.type T)) (ha : RE X a fe) (he : starEach [a] X.env = (false, eval a X.env) :: starEach [] X.env := by with_reducible first | exact sn_name | exact sn_const | exact sn_tup | exact sn_list | exact sn_bin | exact sn_un | exact sn_bool | exact sn_cmp | exact sn_call | exact sn_sub | exact sn_if | exact sn_attr | exact sn_lc)
    (hnT : y ≠ "__name__" := by decide) (hdT : (y == ("__debug__" : Str)) = false := by decide) :
    RE X (.Compare (.Call (.Name "type" p1) [a] [] p2) [.IsNot] [.Name y p3] pos) (fUn (gTyNot T) fe) := .mk fun st d c h => by
  obtain ⟨⟨z, c1⟩, h1, h⟩ := bind_some h
  obtain ⟨w, h2, e⟩ := map_some h
  cases e
  cases h2
  refine RE.of (pe_cmpR op_notTyB (pe_callTy call_typeD hg hm (by decide +kernel) (pa_cons (pwE a) pa_nil he) (he := he)) (pe_bltn (v := .ty T) hgT hmT hvT rfl hnT hdT) (nomark _)) fun hs ps σ H R Q q => ha _ _ _ h1 hs ps σ H R _ fun v H2 s2 R2 d2 => ?_
  exact ⟨v, z, rfl, d2.up hid_sub, _, _, rfl, rfl, q _ H2 s2 R2 (.bl _)⟩
theorem rt_tyNot {y : Str} {T : String} {p1 p2 p3 : Pos} (hg : Gl X "type") (hm : X.mg "type" = none) (hgT : Gl X y) (hmT : X.mg y = none) (hvT : bootBuiltins y = some (.type T)) (ha : RE X a fe) (he : starEach [a] X.env = (false, eval a X.env) :: starEach [] X.env := by with_reducible first | exact sn_name | exact sn_const | exact sn_tup | exact sn_list | exact sn_bin | exact sn_un | exact sn_bool | exact sn_cmp | exact sn_call | exact sn_sub | exact sn_if | exact sn_attr | exact sn_lc)
    (hnT : y ≠ "__name__" := by decide) (hdT : (y == ("__debug__" : Str)) = false := by decide) :
    RT X (.Compare (.Call (.Name "type" p1) [a] [] p2) [.IsNot] [.Name y p3] pos) (fTru (fUn (gTyNot T) fe)) := .mk fun st d c h => by
  obtain ⟨⟨w, c0⟩, h0, h⟩ := bind_some h
  obtain ⟨⟨z, c1⟩, h1, h0⟩ := bind_some h0
  obtain ⟨w, h2, e⟩ := map_some h0
  cases e
  cases h2
  cases h
  refine RT.of (pt_cmpR op_notTyB (pe_callTy call_typeD hg hm (by decide +kernel) (pa_cons (pwE a) pa_nil he) (he := he)) (pe_bltn (v := .ty T) hgT hmT hvT rfl hnT hdT) (nomark _)) fun hs ps σ H R Q q => ha _ _ _ h1 hs ps σ H R _ fun v H2 s2 R2 d2 => ?_
  exact ⟨v, z, rfl, d2.up hid_sub, _, _, rfl, rfl, _, rfl, q H2 s2 R2⟩

/-! ### a op b op c, of ints -/
def fChain (g1 g2 : PyData → PyData → Option PyData) (a b c : FE) : FE := fun st => (a st).bind fun p => (b ⟨st.ds, p.2⟩).bind fun q => (g1 p.1 q.1).bind fun z => match z with
  | .bool true => (c ⟨st.ds, q.2⟩).bind fun r => match g2 q.1 r.1 with
    | some (.bool w) => some (.bool w, r.2)
    | _ => none
  | .bool false => some (.bool false, q.2)
  | _ => none
theorem ed_chain {K : PySem.W.Frag} {r r' : R2} {g1 g2 : PyData → PyData → Option PyData} {ta tb tc : TE} {st : Sta} {d : PyData} {cs : Cs} (hr : ∀ x y z, g1 x y = some z → RD K r x y z) (hr' : ∀ x y z, g2 x y = some z → RD K r' x y z)
    (ha : ∀ st d c, fa st = some (d, c) → ED K ta st d c) (hb : ∀ st d c, fb st = some (d, c) → ED K tb st d c) (hc : ∀ st d c, fc st = some (d, c) → ED K tc st d c) (h : fChain g1 g2 fa fb fc st = some (d, cs)) : (∃ w, d = .bool w) ∧ ED K (tChain r r' ta tb tc) st d cs := by
  obtain ⟨⟨x, c1⟩, h1, h⟩ := bind_some h
  obtain ⟨⟨y, c2⟩, h2, h⟩ := bind_some h
  obtain ⟨z, h3, h⟩ := bind_some h
  simp only at h1 h2 h3 h
  split at h
  · obtain ⟨⟨u, c3⟩, h4, h⟩ := bind_some h
    simp only at h
    split at h
    · rename_i w h5
      cases h
      refine ⟨⟨w, rfl⟩, fun hs ps σ H R Q q => ha _ _ _ h1 hs ps σ H R _ fun v1 H1 s1 R1 d1 => hb _ _ _ h2 hs ps σ H1 R1 _ fun v2 H2 s2 R2 d2 => hr _ _ _ h3 hs H2 v1 v2 R2.hr.trk (d1.up (s2.hd0 R1.hr.sub)) d2 _ fun u1 H3 s3 d3 => ⟨true, dp_bool d3, ?_⟩⟩
      rw [if_pos rfl]
      have R3 := R2.step s3
      refine hc _ _ _ h4 hs ps σ H3 R3 _ fun v3 H4 s4 R4 d4 => hr' _ _ _ h5 hs H4 v2 v3 R4.hr.trk ((d2.up ((s3.mono (qs := ps) (by simp)).hd0 R2.hr.sub)).up (s4.hd0 R3.hr.sub)) d4 _ fun u2 H5 s5 d5 => ?_
      exact q u2 H5 ((((s1.trans s2).trans (s3.mono (by simp))).trans s4).trans (s5.mono (by simp))) (R4.step s5) d5
    · cases h
  · cases h
    refine ⟨⟨false, rfl⟩, fun hs ps σ H R Q q => ha _ _ _ h1 hs ps σ H R _ fun v1 H1 s1 R1 d1 => hb _ _ _ h2 hs ps σ H1 R1 _ fun v2 H2 s2 R2 d2 => hr _ _ _ h3 hs H2 v1 v2 R2.hr.trk (d1.up (s2.hd0 R1.hr.sub)) d2 _ fun u1 H3 s3 d3 => ⟨false, dp_bool d3, ?_⟩⟩
    rw [if_neg (by simp)]
    exact q _ H3 ((s1.trans s2).trans (s3.mono (by simp))) (R2.step s3) (.bl _)
  · cases h
def OC (X : Cx) (op : CmpOp) (g : PyData → PyData → Option PyData) : Prop := ∃ r, OpR X (compareOp op) r ∧ ∀ x y z, g x y = some z → RD X.K r x y z
theorem oc_lt : OC X .Lt (gCmp fun i j => decide (i < j)) := ⟨_, op_lt, fun _ _ _ h => rd_cmp h⟩
theorem oc_le : OC X .LtE (gCmp fun i j => decide (i ≤ j)) := ⟨_, op_le, fun _ _ _ h => rd_cmp h⟩
theorem oc_gt : OC X .Gt (gCmp fun i j => decide (j < i)) := ⟨_, op_gt, fun _ _ _ h => rd_cmp h⟩
theorem oc_ge : OC X .GtE (gCmp fun i j => decide (j ≤ i)) := ⟨_, op_ge, fun _ _ _ h => rd_cmp h⟩
theorem oc_eq (hu : X.A.units + 64 < cLine) : OC X .Eq gEq := ⟨_, op_eqD hu, fun _ _ _ h => rd_eq h⟩
theorem oc_ne (hu : X.A.units + 64 < cLine) : OC X .NotEq gNe := ⟨_, op_neD hu, fun _ _ _ h => rd_ne h⟩
theorem re_chain {o1 o2 : CmpOp} {g1 g2 : PyData → PyData → Option PyData} (h1 : OC X o1 g1) (h2 : OC X o2 g2) (ha : RE X a fa) (hb : RE X b fb) (hc : RE X c fc) (hm : lastMarks [o1, o2] [b, c] = false := by with_unfolding_all rfl) : RE X (.Compare a [o1, o2] [b, c] pos) (fChain g1 g2 fa fb fc) := .mk fun st d c h => by
  obtain ⟨r1, q1, k1⟩ := h1
  obtain ⟨r2, q2, k2⟩ := h2
  exact RE.of (pe_chain q1 q2 (pwE _) (pwE _) (pwE _) hm) (ed_chain k1 k2 ha.h hb.h hc.h h).2
theorem rt_chain {o1 o2 : CmpOp} {g1 g2 : PyData → PyData → Option PyData} (h1 : OC X o1 g1) (h2 : OC X o2 g2) (ha : RE X a fa) (hb : RE X b fb) (hc : RE X c fc) (hm : lastMarks [o1, o2] [b, c] = false := by with_unfolding_all rfl) : RT X (.Compare a [o1, o2] [b, c] pos) (fTru (fChain g1 g2 fa fb fc)) := .mk fun st d c h => by
  obtain ⟨r1, q1, k1⟩ := h1
  obtain ⟨r2, q2, k2⟩ := h2
  obtain ⟨⟨w, c0⟩, h0, h⟩ := bind_some h
  obtain ⟨⟨b, rfl⟩, k⟩ := ed_chain k1 k2 ha.h hb.h hc.h h0
  simp only [Option.some.injEq, Prod.mk.injEq] at h
  obtain ⟨rfl, rfl⟩ := h
  exact RT.of (pt_chain q1 q2 (pwE _) (pwE _) (pwE _) hm) fun hs ps σ H R Q q => k hs ps σ H R _ fun v H2 s2 R2 d2 => ⟨_, dp_bool d2, q H2 s2 R2⟩

/-! ### in, of flat values -/
def flatD : PyData → Bool
  | .none => true
  | .bool _ => true
  | .int _ => true
  | .str _ => true
  | _ => false
def eqD : PyData → PyData → Bool
  | .none, .none => true
  | .bool a, .bool b => a == b
  | .bool a, .int b => (if a then 1 else 0) == b
  | .int a, .bool b => a == (if b then 1 else 0)
  | .int a, .int b => a == b
  | .str a, .str b => a == b
  | _, _ => false
def gIn : PyData → PyData → Option PyData
  | x, .tuple xs => if flatD x = true ∧ xs.all flatD = true then some (.bool (xs.any fun y => eqD y x)) else none
  | x, .list xs => if flatD x = true ∧ xs.all flatD = true then some (.bool (xs.any fun y => eqD y x)) else none
  | _, _ => none
def gNotIn : PyData → PyData → Option PyData
  | x, .tuple xs => if flatD x = true ∧ xs.all flatD = true then some (.bool (!xs.any fun y => eqD y x)) else none
  | x, .list xs => if flatD x = true ∧ xs.all flatD = true then some (.bool (!xs.any fun y => eqD y x)) else none
  | _, _ => none
theorem flat_dp {K : PySem.W.Frag} {H : Hp} {v : V} {d : PyData} (h : Dp K H v d) (f : flatD d = true) : flatV v = true := by
  cases h <;> first | rfl | cases f
theorem eqD_dp {K : PySem.W.Frag} {H : Hp} {v w : V} {d e : PyData} (h : Dp K H v d) (k : Dp K H w e) (f : flatD d = true) (g : flatD e = true) : eqV v w = eqD d e := by
  cases h <;> cases k <;> first | rfl | cases f | cases g
theorem all_dp {K : PySem.W.Frag} {H : Hp} : ∀ {vs : List V} {ds : List PyData}, DpAll K H vs ds → ds.all flatD = true → vs.all flatV = true
  | _, _, .nil, _ => rfl
  | _, _, .cons a t, h => by
    rw [List.all_cons, Bool.and_eq_true] at h ⊢
    exact ⟨flat_dp a h.1, all_dp t h.2⟩
theorem any_dp {K : PySem.W.Frag} {H : Hp} {w : V} {e : PyData} (k : Dp K H w e) (g : flatD e = true) : ∀ {vs : List V} {ds : List PyData}, DpAll K H vs ds → ds.all flatD = true → (vs.any fun y => eqV y w) = (ds.any fun y => eqD y e)
  | _, _, .nil, _ => rfl
  | _, _, .cons a t, h => by
    rw [List.all_cons, Bool.and_eq_true] at h
    rw [List.any_cons, List.any_cons, any_dp k g t h.2, eqD_dp a k h.1 g]
theorem rd_in {K : PySem.W.Frag} {x y z : PyData} (h : gIn x y = some z) : RD K (rIn K false) x y z := by
  unfold gIn at h
  split at h
  · split at h <;> cases h
    rename_i hf
    intro hs H v w _ d1 d2 Q q
    obtain ⟨p, vs, rfl, hp, da⟩ := dp_tuple d2
    refine ⟨p, vs, rfl, .inr (sqT_mono hid_sub hp), flat_dp d1 hf.1, all_dp da hf.2, ?_⟩
    rw [if_neg (by simp)]
    unfold inV
    rw [any_dp d1 hf.1 da hf.2]
    exact q _ H (Step.refl H) (.bl _)
  · split at h <;> cases h
    rename_i hf
    intro hs H v w _ d1 d2 Q q
    obtain ⟨p, vs, rfl, hp, da⟩ := dp_list d2
    refine ⟨p, vs, rfl, .inl (sqL_mono hid_sub hp), flat_dp d1 hf.1, all_dp da hf.2, ?_⟩
    rw [if_neg (by simp)]
    unfold inV
    rw [any_dp d1 hf.1 da hf.2]
    exact q _ H (Step.refl H) (.bl _)
  · cases h
theorem rd_notIn {K : PySem.W.Frag} {x y z : PyData} (h : gNotIn x y = some z) : RD K (rIn K true) x y z := by
  unfold gNotIn at h
  split at h
  · split at h <;> cases h
    rename_i hf
    intro hs H v w _ d1 d2 Q q
    obtain ⟨p, vs, rfl, hp, da⟩ := dp_tuple d2
    refine ⟨p, vs, rfl, .inr (sqT_mono hid_sub hp), flat_dp d1 hf.1, all_dp da hf.2, ?_⟩
    rw [if_pos rfl]
    unfold inV
    rw [any_dp d1 hf.1 da hf.2]
    exact q _ H (Step.refl H) (.bl _)
  · split at h <;> cases h
    rename_i hf
    intro hs H v w _ d1 d2 Q q
    obtain ⟨p, vs, rfl, hp, da⟩ := dp_list d2
    refine ⟨p, vs, rfl, .inl (sqL_mono hid_sub hp), flat_dp d1 hf.1, all_dp da hf.2, ?_⟩
    rw [if_pos rfl]
    unfold inV
    rw [any_dp d1 hf.1 da hf.2]
    exact q _ H (Step.refl H) (.bl _)
  · cases h
theorem re_in (ha : RE X a fa) (hb : RE X b fb) (hm : behindInMarks .In b = false := by with_unfolding_all rfl) : RE X (.Compare a [.In] [b] pos) (fOp gIn fa fb) := re_cmp op_in_seq (fun _ _ _ h => rd_in h) ha hb hm
theorem re_notIn (ha : RE X a fa) (hb : RE X b fb) (hm : behindInMarks .NotIn b = false := by with_unfolding_all rfl) : RE X (.Compare a [.NotIn] [b] pos) (fOp gNotIn fa fb) := re_cmp op_notIn_seq (fun _ _ _ h => rd_notIn h) ha hb hm
theorem rt_in (ha : RE X a fa) (hb : RE X b fb) (hm : behindInMarks .In b = false := by with_unfolding_all rfl) : RT X (.Compare a [.In] [b] pos) (fTru (fOp gIn fa fb)) := rt_cmp op_in_seq (fun _ _ _ h => rd_in h) ha hb hm
theorem rt_notIn (ha : RE X a fa) (hb : RE X b fb) (hm : behindInMarks .NotIn b = false := by with_unfolding_all rfl) : RT X (.Compare a [.NotIn] [b] pos) (fTru (fOp gNotIn fa fb)) := rt_cmp op_notIn_seq (fun _ _ _ h => rd_notIn h) ha hb hm
end

/-! ### isqrt -/
def sqrtOk (i : Int) : Bool := decide (0 ≤ i ∧ i.toNat.log2 ≤ 13000)
def rSqrt : List V → Hp → VK → Prop := fun vs H Q => ∃ a : Int, vs = [.int a] ∧ sqrtOk a = true ∧ Q (.int ((Float64.isqrt a.toNat : Nat) : Int)) H
theorem cr_isqrt {X : Cx} : CallR X (.builtin "math.isqrt") rSqrt := by
  intro pins s σ H vs us Q I r h
  obtain ⟨a, rfl, ok, q⟩ := h
  have ok' := of_decide_eq_true (show decide _ = true from ok)
  obtain ⟨u, rfl, t, rfl⟩ := vals1 r
  exact PySem.call_function_meets PySem.W.MGF.kind_isqrt PySem.W.MGF.plain_isqrt PySem.W.MGF.entry_isqrt (PySem.W.MGF.args_isqrt _) (PySem.W.mg_run_isqrt a t (by omega) (by omega) (by omega)).meets ⟨.int _, H, I.tok _, ⟨_, rfl⟩, q⟩
def gSqrt : List PyData → Option PyData
  | [.int i] => if sqrtOk i = true then some (.int ((Float64.isqrt i.toNat : Nat) : Int)) else none
  | _ => none
theorem re_isqrt {X : Cx} {a : Expr} {x : Str} {p pos : Pos} {fa : FA} (hg : Gl X x) (hm : X.mg x = some (.builtin "math.isqrt")) (ha : RA X [a] fa) (hdb : (x == ("__debug__" : Str)) = false := by decide) (he : starEach [a] X.env = (false, eval a X.env) :: starEach [] X.env := by with_reducible first | exact sn_name | exact sn_const | exact sn_tup | exact sn_list | exact sn_bin | exact sn_un | exact sn_bool | exact sn_cmp | exact sn_call | exact sn_sub | exact sn_if | exact sn_attr | exact sn_lc) (hpl : (backTo pos (starEach [] X.env)).any (·.1) = false := by rfl) : RE X (.Call (.Name x p) [a] [] pos) (fBi gSqrt fa) := .mk fun st d c h =>
  RE.of (pe_callBfun cr_isqrt hg hm (pwA [a]) hdb he hpl) (ed_bi h (fun xs z h => by
    unfold gSqrt at h
    split at h
    · split at h <;> cases h
      rename_i hok
      intro hs H vs _ d Q q
      obtain ⟨v, rfl, d1⟩ := dpa1 d
      cases dp_int d1
      exact ⟨_, rfl, hok, q _ H (Step.refl H) (.int _)⟩
    · cases h) ha)

/-! ### so many times a list, as a list of one's own -/
def fRepL (a : FL) (b : FE) : FL := fun st => (a st).bind fun p => (b ⟨st.ds, p.2⟩).bind fun q => match q.1 with
  | .int k => if rngOk k = true ∧ p.1.length * k.toNat ≤ 100000 then some ((List.replicate k.toNat p.1).flatten, q.2) else none
  | _ => none
theorem rl_rep {X : Cx} {a b : Expr} {pos : Pos} {fa : FL} {fb : FE} (ha : RL X a fa) (hb : RE X b fb) : RL X (.BinOp a .Mult b pos) (fRepL fa fb) := .mk fun st d c h => by
  obtain ⟨⟨xs, c1⟩, h1, h⟩ := bind_some h
  obtain ⟨⟨y, c2⟩, h2, h⟩ := bind_some h
  simp only at h
  split at h
  · rename_i k
    by_cases hok : rngOk k = true ∧ xs.length * k.toNat ≤ 100000
    rotate_left
    · rw [if_neg hok] at h; cases h
    rw [if_pos hok] at h
    cases h
    have hk := of_decide_eq_true (show decide _ = true from hok.1)
    refine RL.of (pe_op op_rep (pwE a) (pwE b)) fun hs ps σ H R Q q => ha _ _ _ h1 hs ps σ H R _ fun p vs H2 hp s2 R2 e2 da => hb _ _ _ h2 (p :: hs) ps σ H2 R2 _ fun w H3 s3 R3 d3 => ?_
    cases dp_int d3
    have hph : p ∉ hs := fun m => R.hr.trk p m hp
    have e3 : H3 p = some (.lst vs) := s3 p _ (fun m => hph (R.hr.sub p m)) e2
    refine ⟨p, k, vs, rfl, rfl, e3, by omega, by omega, by rw [da.len]; exact lim_ok hok.2, fun t ht => ?_⟩
    have R4 := R3.less (fun a m => List.mem_cons_of_mem _ m) R.hr.sub
    have da3 := (da.up (s3.hd0 R2.hr.sub)).up hid_cons_sub
    have s23 := s2.trans s3
    obtain ⟨k1, k2, k3, k4, k5⟩ := lay_list (vs := (List.replicate k.toNat vs).flatten) (ds := (List.replicate k.toNat xs).flatten) s23 R4 ht (DpAll.rep da3 k.toNat)
    exact q t _ _ k1 k2 k3 k4 k5
  · cases h

end DL


set_option Elab.async false
set_option linter.all false
set_option maxRecDepth 100000
set_option maxHeartbeats 4000000
namespace DL
open PySem PySem.Spec L2
open PyProof.Rows hiding St

/-! a comprehension within a comprehension -/
def relab (sc outer : Scope) : Scope := { sc with names := sc.names.map fun (n, k) => if (k == .free && outer.kind == .function && outer.names.lookup n == some .cell) then (n, .cell) else (n, k) }
theorem relab_eq {scope outer : Scope} {env : PySem.Env} (he : env.scope = outer) : relabel scope env = relab scope outer := by
  unfold relabel relab Env.kindOf
  rw [he]
theorem blkOk_in {N : List Str} {scope scope2 outer : Scope} {own : List (Str × Nat)} {env : PySem.Env} (he : env.scope = outer) (h : blkC N (relab scope outer) scope2 own = true) : BlkOk N (relabel scope env) scope2 own := by
  rw [relab_eq he]
  exact blkOk_by h
/-! names for the items of a list -/
def aLst (n : Nat) (r : Sta → List PyData → Option Sta) : FG := fun st d => match d with
  | .list xs => if xs.length = n then r st xs else none
  | _ => none
theorem rg_lstK {X : Cx} {es : List Expr} {pos : Pos} {k n : Nat} {t : TGs} {js : List Nat} {r : Sta → List PyData → Option Sta} (K0 : PySem.W.Frag) (hK : X.K = K0) (hc : X.calm = true) (h : RGs X es t js r) (hn : (assignEach es X.env).length = n := by rfl) (hst : (assignEach es X.env).findIdx? (·.1) = none := by rfl) : RG X (.Tuple es k pos) (gUnl K0 n t) js (aLst n r) := by
  subst hK
  refine ⟨pg_unl hc h.pg hn hst, fun hs ps σ H st st' v x R d e Q q => ?_⟩
  unfold aLst at e
  split at e
  · split at e
    · rename_i hl
      obtain ⟨p, ws, rfl, hp, da⟩ := dp_list d
      exact ⟨p, ws, rfl, sqL_mono hid_sub hp, by rw [da.len]; exact hl, h.eg hs ps σ H _ st' ws _ R da e Q q⟩
    · cases e
  · cases e
end DL


set_option Elab.async false
set_option linter.all false
set_option maxRecDepth 100000
set_option maxHeartbeats 4000000
namespace DL
open PySem PySem.Spec L2
open PyProof.Rows hiding St

/-! ### lists of one's own that are read as data -/
def thawO (cs : Cs) : Option SV → Option SV
  | some (.cel k) => (cs[k]?).map fun xs => .dat (.list xs)
  | o => o
def thawD (cs : Cs) (ds : Slots) : Slots := ds.map (thawO cs)
mutual
def noL : PyData → Bool
  | .none => true
  | .bool _ => true
  | .int _ => true
  | .str _ => true
  | .list _ => false
  | .tuple ds => noLAll ds
  | .dict _ => false
def noLAll : List PyData → Bool
  | [] => true
  | d :: ds => noL d && noLAll ds
end
theorem sqT_off {K : PySem.W.Frag} {hs hs' : List Addr} {H : Hp} {a : Addr} {xs : List V} (hh : ∀ b ∈ hs, b ∉ hs' → ∃ vs, H b = some (.lst vs)) (h : SqT K (hid hs' H) a xs) : SqT K (hid hs H) a xs := by
  have off : ∀ o, hid hs' H a = some o → (∀ vs, o ≠ .lst vs) → hid hs H a = some o := fun o e n => by
    obtain ⟨m, q⟩ := hid_some e
    rw [hid_out fun k => by obtain ⟨vs, z⟩ := hh a k m; rw [q] at z; exact n vs (Option.some.inj z)]
    exact q
  rcases h with (h | ⟨o, h⟩) | h
  · exact .inl (.inl (off _ h fun vs z => by cases z))
  · exact .inl (.inr ⟨o, off _ h fun vs z => by cases z⟩)
  · exact .inr h
mutual
theorem dp_off {K : PySem.W.Frag} {hs hs' : List Addr} {H : Hp} (hh : ∀ b ∈ hs, b ∉ hs' → ∃ vs, H b = some (.lst vs)) : ∀ (d : PyData) (v : V), noL d = true → Dp K (hid hs' H) v d → Dp K (hid hs H) v d
  | .none, _, _, h => by cases h; exact .non
  | .bool b, _, _, h => by cases h; exact .bl b
  | .int i, _, _, h => by cases h; exact .int i
  | .str x, _, _, h => by cases h; exact .str x
  | .list ds, _, n, _ => by cases n
  | .tuple ds, _, n, h => by
    cases h with
    | tup hs ha => exact .tup (sqT_off hh hs) (dpa_off hh ds _ n ha)
  | .dict _, _, n, _ => by cases n
theorem dpa_off {K : PySem.W.Frag} {hs hs' : List Addr} {H : Hp} (hh : ∀ b ∈ hs, b ∉ hs' → ∃ vs, H b = some (.lst vs)) : ∀ (ds : List PyData) (vs : List V), noLAll ds = true → DpAll K (hid hs' H) vs ds → DpAll K (hid hs H) vs ds
  | [], _, _, h => by cases h; exact .nil
  | d :: ds, _, n, h => by
    have n' : (noL d && noLAll ds) = true := n
    rw [Bool.and_eq_true] at n'
    cases h with
    | cons h1 h2 => exact .cons (dp_off hh d _ n'.1 h1) (dpa_off hh ds _ n'.2 h2)
end
section
variable {K : PySem.W.Frag} {hs ps : List Addr} {σ : St} {H : Hp} {st : Sta}
def bare (hs ps : List Addr) : List Addr := hs.filter fun a => decide (a ∉ ps)
theorem mem_bare {a : Addr} : a ∈ bare hs ps ↔ a ∈ hs ∧ a ∉ ps := by
  unfold bare
  rw [List.mem_filter, decide_eq_true_eq]
theorem bare_sub : Sub (hid hs H) (hid (bare hs ps) H) := fun a o e => by
  obtain ⟨n, k⟩ := hid_some e
  rw [hid_out fun m => n (mem_bare.mp m).1]; exact k
theorem Rel.thaw (R : Rel K hs ps σ H st) : Rel K (bare hs ps) [] σ H ⟨thawD st.cs st.ds, []⟩ := by
  refine ⟨⟨fun p m => by simp at m, .nil, rfl, fun a m => R.hr.trk a (mem_bare.mp m).1, fun i p xs h => by simp at h⟩, ?_, fun i x e => ?_⟩
  · rw [R.len]; simp [thawD]
  · have e' : (st.ds[i]?).map (thawO st.cs) = some (some x) := by
      have : (thawD st.cs st.ds)[i]? = (st.ds[i]?).map (thawO st.cs) := by unfold thawD; rw [List.getElem?_map]
      rw [← this]; exact e
    obtain ⟨o, e1, e2⟩ := Option.map_eq_some_iff.mp e'
    match o, e2 with
    | some (.dat d), e2 =>
      cases e2
      obtain ⟨v, h1, h2⟩ := R.slot i _ e1
      exact ⟨v, h1, Dp.up h2 bare_sub⟩
    | some (.fn y), e2 =>
      cases e2
      obtain ⟨v, h1, h2⟩ := R.slot i _ e1
      exact ⟨v, h1, h2⟩
    | some (.cel k), e2 =>
      obtain ⟨xs, e3, e4⟩ := Option.map_eq_some_iff.mp (show (st.cs[k]?).map _ = some x from e2)
      subst e4
      obtain ⟨v, h1, p, hp, rfl⟩ := R.slot i _ e1
      obtain ⟨vs, q1, q2⟩ := R.hr.cel k p xs hp e3
      have np : p ∉ bare hs ps := fun m => (mem_bare.mp m).2 (List.mem_of_getElem? hp)
      exact ⟨_, h1, .lst (.inl (.inl (by rw [hid_out np]; exact q1))) (q2.up bare_sub)⟩
    | none, e2 => cases e2
theorem bare_off (R : Rel K hs ps σ H st) {H2 : Hp} (s : Step [] H H2) : ∀ b ∈ hs, b ∉ bare hs ps → ∃ vs, H2 b = some (.lst vs) := fun b m n => by
  have hb : b ∈ ps := Classical.byContradiction fun k => n (mem_bare.mpr ⟨m, k⟩)
  obtain ⟨i, hi, e⟩ := List.mem_iff_getElem.mp hb
  have e1 : ps[i]? = some b := by rw [List.getElem?_eq_getElem hi, e]
  have hc : i < st.cs.length := by rw [← R.hr.len]; exact hi
  obtain ⟨vs, q1, _⟩ := R.hr.cel i b _ e1 (List.getElem?_eq_getElem hc)
  exact ⟨vs, s b _ (by simp) q1⟩
end
def fThawT (f : FT) : FT := fun st => (f ⟨thawD st.cs st.ds, []⟩).map fun p => (p.1, st.cs)
def fThaw (f : FE) : FE := fun st => (f ⟨thawD st.cs st.ds, []⟩).bind fun p => if noL p.1 = true then some (p.1, st.cs) else none
def fThawL (f : FL) : FL := fun st => (f ⟨thawD st.cs st.ds, []⟩).bind fun p => if noLAll p.1 = true then some (p.1, st.cs) else none
section
variable {X : Cx} {n0 : Nat} {e : Expr} {pos : Pos} {fe : FE} {ft : FT} {fl : FL}
theorem rt_thaw (h : RT X e ft) : RT X e (fThawT ft) := .mk fun st d c hq => by
  obtain ⟨⟨b, c1⟩, e1, e2⟩ := map_some hq
  cases e2
  exact fun hs ps σ H R Q q => h _ _ _ e1 _ [] σ H R.thaw Q fun H2 s2 R2 => q H2 (s2.mono (by simp)) (R.step s2)
theorem re_thaw (h : RE X e fe) : RE X e (fThaw fe) := .mk fun st d c hq => by
  obtain ⟨⟨b, c1⟩, e1, e2⟩ := bind_some hq
  simp only at e2
  split at e2 <;> cases e2
  rename_i hn
  exact fun hs ps σ H R Q q => h _ _ _ e1 _ [] σ H R.thaw Q fun v H2 s2 R2 d2 => q v H2 (s2.mono (by simp)) (R.step s2) (dp_off (bare_off R s2) _ _ hn d2)
theorem edl_thaw {K : PySem.W.Frag} {te : TE} {st : Sta} {xs : List PyData} {c : Cs} (h : EDL K te ⟨thawD st.cs st.ds, []⟩ xs c) (hn : noLAll xs = true) : EDL K te st xs st.cs := by
  refine fun hs ps σ H R Q q => h _ [] σ H R.thaw Q fun p vs H2 hp s2 R2 ep d2 => ?_
  refine q p vs H2 hp (s2.mono (by simp)) (R.more s2 hp (by rw [ep]; simp)) ep (dpa_off (fun b m n => ?_) _ _ hn d2)
  rcases List.mem_cons.mp m with z | m
  · exact absurd (by rw [z]; exact List.mem_cons_self) n
  · exact bare_off R s2 b m fun k => n (List.mem_cons_of_mem _ k)
theorem rl_thaw (h : RL X e fl) : RL X e (fThawL fl) := .mk fun st d c hq => by
  obtain ⟨⟨b, c1⟩, e1, e2⟩ := bind_some hq
  simp only at e2
  split at e2 <;> cases e2
  rename_i hn
  refine fun hs ps σ H R Q q => h _ _ _ e1 _ [] σ H R.thaw Q fun p vs H2 hp s2 R2 ep d2 => ?_
  refine q p vs H2 hp (s2.mono (by simp)) (R.more s2 hp (by rw [ep]; simp)) ep (dpa_off (fun b m n => ?_) _ _ hn d2)
  rcases List.mem_cons.mp m with z | m
  · exact absurd (by rw [z]; exact List.mem_cons_self) n
  · exact bare_off R s2 b m fun k => n (List.mem_cons_of_mem _ k)

section
variable {elt tg iter : Expr} {ifs : List Expr} {scope : Scope} {own : List (Str × Nat)} {spos : Pos} {t : TG} {it : FL} {fg : FG} {js : List Nat}
theorem rs_setLcT {i : Nat} {y : Str} {py : Pos} (hc : X.calm = true) (hN : X.N.Nodup) (hy : X.N[i]? = some y) (hyl : X.env.scope.names.lookup y = some .local)
    (hsw : swapsWith (.ListComp elt [⟨tg, iter, ifs, 0⟩] scope pos) (some (.Name y py)) spos.line X.env = pure true) (hi : RI X tg iter it) (ok : BlkOk X.N X.env.scope scope own)
    (hg : ∀ (s : Shared) (H : Hp) (C : Addr) (cl : List (Str × Addr)) (fp : List Addr), RG (X.blk s H scope (compEnvC scope cl C X.env) fp) tg t js fg) (ht : ∀ (s : Shared) (H : Hp) (C : Addr) (cl : List (Str × Addr)) (fp : List Addr), RTs (X.blk s H scope (compEnvC scope cl C X.env) fp) ifs ft)
    (he : ∀ (s : Shared) (H : Hp) (C : Addr) (cl : List (Str × Addr)) (fp : List Addr), RE (X.blk s H scope (compEnvC scope cl C X.env) fp) elt fe) (hj : ∀ j ∈ js, j ∈ own.map (·.2)) (hs : ∀ x, foldedSetIterable iter X.env x = pure x := by intro _; rfl) :
    RS X n0 (.Assign [.Name y py] (.ListComp elt [⟨tg, iter, ifs, 0⟩] scope pos) spos) (fSet i (fOfL (fThawL (fLc it fg ft fe (own.map (·.2)))))) := .mk fun st o hq => by
  obtain ⟨⟨d, c⟩, e1, rfl⟩ := map_some hq
  obtain ⟨⟨xs, c1⟩, e2, e3⟩ := map_some e1
  cases e3
  obtain ⟨⟨xs', c2⟩, e4, e5⟩ := bind_some e2
  simp only at e5
  split at e5 <;> cases e5
  rename_i hn
  intro hs0 ps0 H0 i1 i2 hs' ps σ H L R D q pins s I
  exact RS.of (o := .nx ⟨st.ds.set i (some (.dat (.list xs))), st.cs⟩) (ps_setLc hc hN hy hyl hsw (pwI tg iter) ok (fun s H C cl fp => (hg s H C cl fp).pg) (ptL ht) peL hs) (fun hs0 ps0 H0 i1 i2 hs ps σ H L R D q => (edl_thaw (edl_lc s hi hg ht he hj e4) hn).ed hs ps σ H R _ fun v H2 s2 R2 d2 => q hs ps _ H2 (L.step s2) (R2.set i (x := .dat (.list xs)) d2)) hs0 ps0 H0 i1 i2 hs' ps σ H L R D q pins s I
theorem rs_newLcT {i : Nat} {y : Str} {py : Pos} (hc : X.calm = true) (hN : X.N.Nodup) (hy : X.N[i]? = some y) (hyl : X.env.scope.names.lookup y = some .local)
    (hsw : swapsWith (.ListComp elt [⟨tg, iter, ifs, 0⟩] scope pos) (some (.Name y py)) spos.line X.env = pure true) (hi : RI X tg iter it) (ok : BlkOk X.N X.env.scope scope own)
    (hg : ∀ (s : Shared) (H : Hp) (C : Addr) (cl : List (Str × Addr)) (fp : List Addr), RG (X.blk s H scope (compEnvC scope cl C X.env) fp) tg t js fg) (ht : ∀ (s : Shared) (H : Hp) (C : Addr) (cl : List (Str × Addr)) (fp : List Addr), RTs (X.blk s H scope (compEnvC scope cl C X.env) fp) ifs ft)
    (he : ∀ (s : Shared) (H : Hp) (C : Addr) (cl : List (Str × Addr)) (fp : List Addr), RE (X.blk s H scope (compEnvC scope cl C X.env) fp) elt fe) (hj : ∀ j ∈ js, j ∈ own.map (·.2)) (hs : ∀ x, foldedSetIterable iter X.env x = pure x := by intro _; rfl) :
    RS X n0 (.Assign [.Name y py] (.ListComp elt [⟨tg, iter, ifs, 0⟩] scope pos) spos) (fNew i (fThawL (fLc it fg ft fe (own.map (·.2))))) := .mk fun st o hq => by
  obtain ⟨⟨d, c⟩, e1, rfl⟩ := map_some hq
  obtain ⟨⟨xs', c2⟩, e4, e5⟩ := bind_some e1
  simp only at e5
  split at e5 <;> cases e5
  rename_i hn
  intro hs0 ps0 H0 i1 i2 hs' ps σ H L R D q pins s I
  exact RS.of (o := .nx ⟨st.ds.set i (some (.cel st.cs.length)), st.cs ++ [_]⟩) (ps_setLc hc hN hy hyl hsw (pwI tg iter) ok (fun s H C cl fp => (hg s H C cl fp).pg) (ptL ht) peL hs) (fun hs0 ps0 H0 i1 i2 hs ps σ H L R D q => (edl_thaw (edl_lc s hi hg ht he hj e4) hn) hs ps σ H R _ fun p vs H2 hp s2 R2 e2 d2 => by
    obtain ⟨L2, R3⟩ := Rel.own L i hp s2 R2 e2 d2 R
    exact q _ _ _ H2 L2 R3) hs0 ps0 H0 i1 i2 hs' ps σ H L R D q pins s I
end
/-! ### x op= e, x an int -/
def gAug (f : Int → Int → Int) : PyData → PyData → Option PyData
  | .int i, .int j => some (.int (f i j))
  | _, _ => none
def gAugM : PyData → PyData → Option PyData
  | .int i, .int j => if mulOk i j = true then some (.int (i * j)) else none
  | _, _ => none
def IpD (X : Cx) (op : Operator) (g : PyData → PyData → Option PyData) : Prop := ∀ x y z, g x y = some z → ∃ i j k, x = .int i ∧ y = .int j ∧ z = .int k ∧ PIp X op (fun a b H Q => a = .int i ∧ b = .int j ∧ Q (.int k) H)
theorem ipd_add : IpD X .Add (gAug fun i j => i + j) := fun x y z h => by
  cases x <;> cases y <;> first | (cases h; done) | skip
  cases h
  refine ⟨_, _, _, rfl, rfl, rfl, fun pins s σ H a b v u Q I r1 r2 q => ?_⟩
  obtain ⟨rfl, rfl, q⟩ := q
  exact ip_add pins s σ H _ _ v u Q I r1 r2 ⟨_, _, rfl, rfl, q⟩
theorem ipd_sub : IpD X .Sub (gAug fun i j => i - j) := fun x y z h => by
  cases x <;> cases y <;> first | (cases h; done) | skip
  cases h
  refine ⟨_, _, _, rfl, rfl, rfl, fun pins s σ H a b v u Q I r1 r2 q => ?_⟩
  obtain ⟨rfl, rfl, q⟩ := q
  exact ip_sub pins s σ H _ _ v u Q I r1 r2 ⟨_, _, rfl, rfl, q⟩
def fAug (i : Nat) (g : PyData → PyData → Option PyData) (e : FE) : FS := fun st => match st.ds[i]? with
  | some (some (.dat x)) => (e st).bind fun p => (g x p.1).map fun z => .nx ⟨st.ds.set i (some (.dat z)), p.2⟩
  | _ => none
theorem rs_aug {i : Nat} {x : Str} {op : Operator} {g : PyData → PyData → Option PyData} {pos' : Pos} (hN : X.N.Nodup) (hi : X.N[i]? = some x) (hx : Loc X.env.scope x) (ho : IpD X op g) (h : RE X e fe) (hf : X.fn x = true ∨ X.env.scope.names.lookup x = some .local := by first | exact .inl rfl | exact .inr rfl) :
    RS X n0 (.AugAssign (.Name x pos') op e pos) (fAug i g fe) := .mk fun st o hq => by
  unfold fAug at hq
  split at hq
  · rename_i d e0
    obtain ⟨⟨y, c⟩, e1, hq⟩ := bind_some hq
    obtain ⟨z, e2, rfl⟩ := map_some hq
    obtain ⟨a, b, k, rfl, rfl, rfl, hp⟩ := ho _ _ _ e2
    refine RS.of (ps_aug hN hi hx (pwE e) hp hf) fun hs0 ps0 H0 i1 i2 hs ps σ H L R D q => ?_
    obtain ⟨v, v1, v2⟩ := R.slot i _ e0
    refine ⟨v, v1, h _ _ _ e1 hs ps σ H R _ fun w H2 s2 R2 d2 => ⟨dp_int v2, dp_int d2, ?_⟩⟩
    exact q hs ps _ H2 (L.step s2) (R2.set i (x := .dat (.int k)) (.int k))
  · cases hq

/-! ### x[k] op= e, x a list of one's own -/
theorem get_list : PGet X (fun x y H Q => ∃ p xs i v, x = .ref p ∧ y = .int i ∧ SqL X.K H p xs ∧ atI xs i = some v ∧ Q v H) := by
  intro pins s σ H x y v u Q I rx ry h
  obtain ⟨p, xs, i, z, rfl, rfl, hq, he, q⟩ := h
  cases rx
  obtain ⟨t, rfl⟩ := ry
  obtain ⟨its, r, pl, hz⟩ := I.list hq
  obtain ⟨j, h1, h2, h3, h4, h5⟩ := atI_get he
  obtain ⟨w, ew, rw'⟩ := r.get h2
  have hl := r.length
  have hn := line63
  have fin : EP X pins σ Q w s := ⟨z, H, I, rw', q⟩
  by_cases h0 : 0 ≤ i
  · have hj : i.toNat = j := by
      rw [seqIndex_of h0 h5] at h1
      exact Option.some.inj h1
    exact wpAny_getItem_list pl.isList h0 (by omega) (by rw [hj]; simpa using ew) fin
  · have hj : (i + (its.toArray.size : Int)).toNat = j := by
      rw [seqIndex_neg (by omega) h4] at h1
      rw [List.size_toArray, ← hl]
      exact Option.some.inj h1
    exact wpAny_getItem_list_neg pl.isList (by omega) (by rw [List.size_toArray] <;> omega) (by omega) (by rw [hj]; simpa using ew) fin
theorem ipd_mul : IpD X .Mult gAugM := fun x y z h => by
  cases x <;> cases y <;> first | (cases h; done) | skip
  rename_i i j
  unfold gAugM at h
  simp only at h
  split at h <;> cases h
  rename_i hm
  have hc : CMulW i j := (by unfold CMulW; simpa [mulOk] using hm)
  refine ⟨_, _, _, rfl, rfl, rfl, fun pins s σ H a b v u Q I r1 r2 q => ?_⟩
  obtain ⟨rfl, rfl, q⟩ := q
  obtain ⟨t, rfl⟩ := r1
  obtain ⟨t', rfl⟩ := r2
  exact imul_int ⟨.int _, H, I.tok _, ⟨_, rfl⟩, q⟩ hc.ok
def fAugC (i : Nat) (k : FE) (g : PyData → PyData → Option PyData) (e : FE) : FS := fun st => (k st).bind fun q => match st.ds[i]?, q.1 with
  | some (some (.cel c)), .int j => (q.2[c]?).bind fun xs => (atI xs j).bind fun x => (e ⟨st.ds, q.2⟩).bind fun p => (g x p.1).bind fun z => (p.2[c]?).bind fun ys => (ixN ys.length j).map fun m => .nx ⟨st.ds, p.2.set c (ys.set m z)⟩
  | _, _ => none
theorem rs_augc {i : Nat} {x : Str} {op : Operator} {g : PyData → PyData → Option PyData} {k : Expr} {p1 p2 : Pos} {fk : FE} (hN : X.N[i]? = some x) (hv : Vis X.env.scope x) (hk : RE X k fk) (ho : IpD X op g) (h : RE X e fe)
    (ha : ∀ ov iv new, augStore k ov iv new = (do holding [new, ov, iv] (setItem ov iv new); release [new, ov, iv] []; pure .next) := by intros; rfl)
    (hd : (x == ("__debug__" : Str)) = false := by decide) (hcd : (x == ("__classdict__" : Str)) = false := by decide) :
    RS X n0 (.AugAssign (.Subscript (.Name x p1) k p2) op e pos) (fAugC i fk g fe) := .mk fun st o hq => by
  obtain ⟨⟨m, c1⟩, e1, hq⟩ := bind_some hq
  simp only at hq
  split at hq
  · rename_i c0 j es
    obtain ⟨xs, ex, hq⟩ := bind_some hq
    obtain ⟨x0, ex0, hq⟩ := bind_some hq
    obtain ⟨⟨y, c2⟩, e2, hq⟩ := bind_some hq
    obtain ⟨z, e3, hq⟩ := bind_some hq
    obtain ⟨ys, ey, hq⟩ := bind_some hq
    obtain ⟨n, en, rfl⟩ := map_some hq
    obtain ⟨a, b, r, rfl, rfl, rfl, hp⟩ := ho _ _ _ e3
    refine RS.of (ps_augS (pe_var hN hv hd hcd) (pwE k) get_list (pwE e) hp set_list ha) fun hs0 ps0 H0 i1 i2 hs ps σ H L R D q => ?_
    obtain ⟨w, w1, p, w2, rfl⟩ := R.slot i _ es
    refine ⟨_, w1, hk _ _ _ e1 hs ps σ H R _ fun u H2 s2 R2 d2 => ?_⟩
    cases dp_int d2
    obtain ⟨vs, q1, q2⟩ := R2.hr.cel c0 p xs w2 ex
    obtain ⟨u0, e4, e5⟩ := atI_dp q2 ex0
    refine ⟨p, vs, j, u0, rfl, rfl, .inl (.inl q1), e4, h _ _ _ e2 hs ps σ H2 R2 _ fun v H3 s3 R3 d3 => ⟨dp_int e5, dp_int d3, ?_⟩⟩
    obtain ⟨ws, q3, q4⟩ := R3.hr.cel c0 p ys w2 ey
    obtain ⟨s4, R4⟩ := R3.put (m := n) (v := .int r) (d := .int r) w2 ey q3 q4 (.int r)
    exact ⟨p, ws, j, n, rfl, rfl, q3, by rw [q4.len]; exact en, q hs ps σ _ (((L.step s2).step s3).step s4) R4⟩
  · cases hq
end

/-! ### reversed(x) -/
theorem walk_rL {K : PySem.W.Frag} {hs : List Addr} {H2 : Hp} {p : Addr} {ws : List V} {ds : List PyData} (hp : SqL K (hid hs H2) p ws) (da : DpAll K (hid hs H2) ws ds) : Walk (Itv K p ws.length) ds.reverse.length (GD hs H2) (YD K hs H2 ds.reverse) := by
  rw [List.length_reverse, ← da.len]
  refine ⟨fun i H3 hi g => ⟨hi, ws, ?_⟩, fun H3 g => Nat.le_refl _, fun i H3 x H' hi g y => ?_⟩
  · have h1 : ws.length - 1 - i < ws.length := by omega
    exact ⟨_, sqL_gd g hp, List.getElem?_eq_getElem h1⟩
  · obtain ⟨rfl, y⟩ := y
    have y' := y ws (sqL_gd g hp)
    obtain ⟨d, h1, h2⟩ := da.getV y'
    refine ⟨Step.refl _, d, ?_, fun hs' h3 _ => h2.up (g.sub h3)⟩
    rw [List.getElem?_reverse (by rw [← da.len]; exact hi), ← da.len]; exact h1
theorem walk_rT {K : PySem.W.Frag} {hs : List Addr} {H2 : Hp} {p : Addr} {ws : List V} {ds : List PyData} (hp : SqT K (hid hs H2) p ws) (da : DpAll K (hid hs H2) ws ds) : Walk (RT.ItvT K p ws.length) ds.reverse.length (GD hs H2) (YD K hs H2 ds.reverse) := by
  rw [List.length_reverse, ← da.len]
  refine ⟨fun i H3 hi g => ⟨hi, ws, ?_⟩, fun H3 g => Nat.le_refl _, fun i H3 x H' hi g y => ?_⟩
  · have h1 : ws.length - 1 - i < ws.length := by omega
    exact ⟨_, sqT_gd g hp, List.getElem?_eq_getElem h1⟩
  · obtain ⟨rfl, y⟩ := y
    have y' := y ws (sqT_gd g hp)
    obtain ⟨d, h1, h2⟩ := da.getV y'
    refine ⟨Step.refl _, d, ?_, fun hs' h3 _ => h2.up (g.sub h3)⟩
    rw [List.getElem?_reverse (by rw [← da.len]; exact hi), ← da.len]; exact h1
def fRev (a : FE) : FL := fun st => (a st).bind fun q => match q.1 with
  | .list xs => some (xs.reverse, q.2)
  | .tuple xs => some (xs.reverse, q.2)
  | _ => none
section
variable {X : Cx} {tg a : Expr} {p pos : Pos} {fe : FE}
theorem ri_rev (hg : Gl X "reversed") (hm : X.mg "reversed" = none) (ha : RE X a fe) (hs : starEach [a] X.env = (false, eval a X.env) :: starEach [] X.env := by with_reducible first | exact sn_name | exact sn_const | exact sn_tup | exact sn_list | exact sn_bin | exact sn_call | exact sn_sub | exact sn_if | exact sn_lc) : RI X tg (.Call (.Name "reversed" p) [a] [] pos) (fRev fe) := .mk fun st xs c h => by
  obtain ⟨⟨y, c1⟩, h1, h⟩ := bind_some h
  simp only at h
  split at h
  · cases h
    exact RI.of (RT.pi_revA hg hm (pwE a) hs) fun hs ps σ H R Q q => ha _ _ _ h1 hs ps σ H R _ fun v H2 s2 R2 d2 => by
      obtain ⟨p, ws, rfl, hp, da⟩ := dp_list d2
      exact ⟨p, ws, rfl, .inl ⟨sqL_mono hid_sub hp, q _ H2 s2 R2 (walk_rL hp da)⟩⟩
  · cases h
    exact RI.of (RT.pi_revA hg hm (pwE a) hs) fun hs ps σ H R Q q => ha _ _ _ h1 hs ps σ H R _ fun v H2 s2 R2 d2 => by
      obtain ⟨p, ws, rfl, hp, da⟩ := dp_tuple d2
      exact ⟨p, ws, rfl, .inr ⟨sqT_mono hid_sub hp, q _ H2 s2 R2 (walk_rT hp da)⟩⟩
  · cases h
end

/-! ### what is never reached -/
def fBot : FE := fun _ => none
theorem re_bot {X : Cx} {e : Expr} : RE X e fBot := .mk fun st d c h => by cases h
/-! ### defs that are handed on -/
def fFnA (x : Str) (r : FA) : FA := fun st => (r st).map fun q => (.fn x :: q.1, q.2)
def FnIn (K : PySem.W.Frag) (mg : Str → Option Value) (x : Str) : Prop := ∃ f, PySem.W.nsIn K mainGlobals x = some (some (.ref f)) ∧ mg x = some (.ref f)
theorem eda_fn {K : PySem.W.Frag} {st : Sta} {tr : TA} {xs : List SV} {c : Cs} {x : Str} {f : Addr} (h : PySem.W.nsIn K mainGlobals x = some (some (.ref f))) (hr : EDA K tr st xs c) : EDA K (tCons (tC (.ref f)) tr) st (.fn x :: xs) c := fun hs ps σ H R Q q =>
  hr hs ps σ H R _ fun vs H2 s2 R2 a2 => q (.ref f :: vs) H2 s2 R2 (.cons ⟨f, rfl, h⟩ a2)
section
variable {X : Cx} {e : Expr} {es : List Expr} {p pos : Pos} {fa : FA} {x y : Str} {k i : Nat} {ns : List Str} {F : FnS}
theorem ra_fn (hg : Gl X x) (hx : FnIn X.K X.mg x) (hr : RA X es fa) (hdb : (x == ("__debug__" : Str)) = false := by decide) (hs : starEach (.Name x p :: es) X.env = (false, eval (.Name x p) X.env) :: starEach es X.env := by with_reducible exact sn_name) : RA X (.Name x p :: es) (fFnA x fa) := .mk fun st d c h => by
  obtain ⟨⟨xs, c1⟩, h1, e1⟩ := map_some h
  cases e1
  obtain ⟨f, n1, n2⟩ := hx
  exact RA.of (pa_cons (pe_glob (v := .ref f) hg n2 rfl hdb) (pwA es) hs) (eda_fn n1 (hr _ _ _ h1))
/-- a call of what a slot holds -/
def fCallV (i : Nat) (x : Str) (F : FnS) (a : FA) : FE := fun st => match st.ds[i]? with
  | some (some (.fn y)) => if y = x then fCall F a st else none
  | _ => none
def tGV (K : PySem.W.Frag) (i : Nat) (f : Addr) (F : FnS) (t : TA) : TE := fun σ H Q => σ[i]? = some (some (.ref f)) ∧ tG K F t σ H Q
theorem re_callV (C : At X.prog X.w X.K X.mg X.base k x ns F) (hx : FnIn X.K X.mg x) (hgd : X.A.guards = some []) (hr : Room k X.A) (hN : X.N[i]? = some y) (hv : Vis X.env.scope y) (ha : RA X (e :: es) fa)
    (hdb : (y == ("__debug__" : Str)) = false := by decide) (hcd : (y == ("__classdict__" : Str)) = false := by decide)
    (he : starEach (e :: es) X.env = (false, eval e X.env) :: starEach es X.env := by with_reducible first | exact sn_name | exact sn_const | exact sn_tup | exact sn_list | exact sn_bin | exact sn_un | exact sn_bool | exact sn_cmp | exact sn_call | exact sn_sub | exact sn_if | exact sn_attr | exact sn_lc) (hpl : (backTo pos (starEach es X.env)).any (·.1) = false := by rfl) :
    RE X (.Call (.Name y p) (e :: es) [] pos) (fCallV i x F fa) := by
  obtain ⟨f, fd, hm, hk, G, hb⟩ := C.ex
  have P : PE X (.Call (.Name y p) (e :: es) [] pos) (tGV X.K i f F (wA X (e :: es))) := by
    refine ⟨fun pins s σ H Q I h => ?_⟩
    obtain ⟨h0, h⟩ := h
    refine wpAny_Call_Name_kw (thn ((pe_var (pos := p) hN hv hdb hcd).run pins s σ H (fun v H1 => v = .ref f ∧ H1 = H) I ⟨.ref f, h0, rfl, rfl⟩) fun u s1 ⟨v, H1, I1, r1, q1⟩ => ?_)
    obtain ⟨rfl, rfl⟩ := q1
    cases r1
    refine PySem.W.callWith_K (h₀ := X.base) I.ok.mod.kin hk (thn ((pwA (e :: es)).run pos pins s1 σ _ _ I1 h) fun us s1 ⟨vs, H1, I1, r, hs, ps, cs, c, xs, r2, a1, a2, a3, a4⟩ => ⟨I1.kIn, ?_⟩) he hpl
    have hl : us.length = ns.length := by rw [← r.length, Paired.length a2]; exact G.len _ _ _ _ a3
    have b := hb s1 us hl ns.length (Nat.le_refl _)
    rw [← hl, List.take_length, List.drop_length, hl, List.drop_length, List.zip_nil_left] at b
    exact run_g (args := ⟨us, []⟩) G hgd hr I1 b r a1 a2 a3 a4
  refine .mk fun st d c h => ?_
  unfold fCallV at h
  split at h
  · rename_i z e0
    split at h
    · rename_i ez
      subst ez
      refine RE.of P fun hs ps σ H R Q q => ?_
      obtain ⟨v, v1, g, rfl, hg⟩ := R.slot i _ e0
      obtain ⟨f', n1, n2⟩ := hx
      rw [hg] at n1
      cases n1
      rw [hm] at n2
      cases n2
      exact ⟨v1, ed_G h ha hs ps σ H R Q q⟩
    · cases h
  · cases h
end
end DL


set_option Elab.async false
set_option linter.all false
namespace DL
open PySem PySem.Spec L2
open PyProof.Rows hiding St
/-! a block that freezes what it made itself -/
def fIn (f : Nat → FS) : FS := fun st => f st.cs.length st
theorem rss_in {X : Cx} {n0 : Nat} {ss : List Stmt} {f : Nat → FS} (h : ∀ n, RSs X n ss (f n)) : RSs X n0 ss (fIn f) := .mk fun st o hq hs0 ps0 H0 i1 i2 hs ps σ H L R D q => by
  have hq' : f ps.length st = some o := by
    have := R.hr.len
    first
      | (rw [this]; exact hq)
      | (rw [← this]; exact hq)
  refine h ps.length _ _ hq' hs ps H (Nat.le_refl _) R.hr.trk hs ps σ H lv_refl R D ?_
  cases o with
  | nx st2 => exact fun hs' ps' σ' H' M' R' => q hs' ps' σ' H' (lv_trans L M' R.hr.sub) R'
  | ct st2 => exact fun hs' ps' σ' H' M' R' => q hs' ps' σ' H' (lv_trans L M' R.hr.sub) R'
  | bk st2 => exact fun hs' ps' σ' H' M' R' => q hs' ps' σ' H' (lv_trans L M' R.hr.sub) R'
  | rt r c => exact post_back L R.hr.sub R.hr.trk q _ rfl
/-! any of ints -/
theorem truth_ints {prog : Program} {w : World} {A : Around} {bs : List Int} {its : List Value} (e : Vals (bs.map V.int) its) :
    TruthOf prog w A (fun i v => its.toArray[i]? = some v) (fun i => bs.getD i 0 != 0) := fun i v s Q E hv hq => by
  have hv' : its[i]? = some v := by simpa using hv
  have hlen : (bs.map V.int).length = its.length := Vals.length e
  have hi : i < its.length := by
    rcases Nat.lt_or_ge i its.length with z | z
    · exact z
    · rw [List.getElem?_eq_none z] at hv'; cases hv'
  have hb : i < bs.length := by rw [List.length_map] at hlen; omega
  obtain ⟨u, hu, r⟩ := Vals.get (i := i) (x := .int bs[i]) e (by rw [List.getElem?_map, List.getElem?_eq_getElem hb]; rfl)
  rw [hv'] at hu
  cases hu
  obtain ⟨t, rfl⟩ := r
  have hg : bs.getD i 0 = bs[i] := by rw [List.getD_eq_getElem?_getD, List.getElem?_eq_getElem hb]; rfl
  have hq' : Q (bs.getD i 0 != 0) s := hq
  rw [hg] at hq'
  exact PySem.P.truthy_int hq'
theorem anyN_range : ∀ bs : List Int, (List.range bs.length).any (fun i => bs.getD i 0 != 0) = bs.any (· != 0)
  | [] => rfl
  | b :: bs => by
    rw [List.length_cons, List.range_succ_eq_map, List.any_cons, List.any_map, List.any_cons, ← anyN_range bs]
    all_goals rfl
section
variable {X : Cx}
def rAnyN (K : PySem.W.Frag) : List V → Hp → VK → Prop := fun vs H Q => ∃ (a : Addr) (bs : List Int), vs = [V.ref a] ∧ SqL K H a (bs.map V.int) ∧ Q (.bl (bs.any (· != 0))) H
theorem cr_anyN (hc : X.calm = true) : CallR X (.builtin "any") (rAnyN X.K) := by
  intro pins s σ H vs us Q I r h
  obtain ⟨a, bs, rfl, hs, q⟩ := h
  obtain ⟨its, rv, hl, _⟩ := I.list hs
  rw [Vals.ref1 r]
  have hb : its.length = bs.length := by have := Vals.length rv; rw [List.length_map] at this; exact this.symm
  refine call_any_walk (iter_any hl.isList fun s₂ e2 st hne => ?_)
  subst e2
  refine ⟨_, _, _, _, _, _, _, rfl, Walks.list (A := X.A.in1) (I.ok.hd hc) _ a hne its.toArray, st, truth_ints rv, fun h' tk hk => ?_⟩
  refine ⟨.bl _, H, I.kept fun b o eo => hk b o (fun hmem => ?_) (Heap.get?_push_of_some _ eo), ?_, q⟩
  · rcases List.mem_cons.mp hmem with e1 | hmem
    · exact absurd (e1 ▸ Heap.lt_size eo) (Nat.lt_irrefl _)
    · cases hmem
  · show Value.bool _ = Value.bool _
    rw [← anyN_range, List.size_toArray, hb]
end
def gAnyN : List PyData → Option PyData
  | [.list xs] => (intsOf xs).map fun bs => .bool (bs.any (· != 0))
  | _ => none
theorem re_anyN {X : Cx} {a : Expr} {p pos : Pos} {fa : FA} (hc : X.calm = true) (hg : Gl X "any") (hm : X.mg "any" = none) (ha : RA X [a] fa) (he : starEach [a] X.env = (false, eval a X.env) :: starEach [] X.env := by with_reducible first | exact sn_name | exact sn_const | exact sn_tup | exact sn_list | exact sn_bin | exact sn_un | exact sn_bool | exact sn_cmp | exact sn_call | exact sn_sub | exact sn_if | exact sn_attr | exact sn_lc) : RE X (.Call (.Name "any" p) [a] [] pos) (fBi gAnyN fa) :=
  re_bi (cr_anyN hc) (fun xs z h => by
    unfold gAnyN at h
    split at h
    · obtain ⟨bs, h1, rfl⟩ := map_some h
      intro hs H vs _ d Q q
      obtain ⟨v, rfl, d1⟩ := dpa1 d
      obtain ⟨p, ws, rfl, hp, da⟩ := dp_list d1
      rw [ints_dp h1 da] at hp
      exact ⟨p, bs, rfl, sqL_mono hid_sub hp, q _ H (Step.refl H) (.bl _)⟩
    · cases h) hg hm (by decide +kernel) ha (he := he)
/-! a list of one's own from two lists -/
def fCatL (a b : FE) : FL := fun st => (a st).bind fun p => (b ⟨st.ds, p.2⟩).bind fun q => match p.1, q.1 with
  | .list xs, .list ys => if xs.length + ys.length ≤ LIM then some (xs ++ ys, q.2) else none
  | _, _ => none
theorem rl_cat {X : Cx} {a b : Expr} {pos : Pos} {fa fb : FE} (ha : RE X a fa) (hb : RE X b fb) : RL X (.BinOp a .Add b pos) (fCatL fa fb) := .mk fun st d c h => by
  obtain ⟨⟨x, c1⟩, h1, h⟩ := bind_some h
  obtain ⟨⟨y, c2⟩, h2, h⟩ := bind_some (show ((fb ⟨st.ds, c1⟩).bind _) = some _ from h)
  cases x <;> cases y <;> first | (cases h; done) | skip
  rename_i xs h0 ys
  have h : (if xs.length + ys.length ≤ LIM then some (xs ++ ys, c2) else none) = some (d, c) := h
  by_cases hok : xs.length + ys.length ≤ LIM
  rotate_left
  · rw [if_neg hok] at h; cases h
  rw [if_pos hok] at h
  cases h
  refine RL.of (pe_op op_catS (pwE a) (pwE b)) fun hs ps σ H R Q q => ha _ _ _ h1 hs ps σ H R _ fun v H2 s2 R2 d1 => hb _ _ _ h2 hs ps σ H2 R2 _ fun w H3 s3 R3 d2 => ?_
  have d1' := Dp.up d1 (s3.hd0 R2.hr.sub)
  obtain ⟨p, vs, rfl, hp, da⟩ := dp_list d1'
  obtain ⟨p', us, rfl, hp', db⟩ := dp_list d2
  refine ⟨p, p', vs, us, rfl, rfl, sqL_mono hid_sub hp, sqL_mono hid_sub hp', lim_ok (by rw [da.len, db.len]; exact hok), fun t ht => ?_⟩
  obtain ⟨k1, k2, k3, k4, k5⟩ := lay_list (vs := vs ++ us) (ds := xs ++ ys) (s2.trans s3) R3 ht (da.app db)
  exact q t _ _ k1 k2 k3 k4 k5
/-! lcm -/
def lcmOk (i j : Int) : Bool := decide ((max 1 i.natAbs).log2 ≤ 13000 ∧ (max i.natAbs j.natAbs).log2 ≤ 13000 ∧ (Nat.lcm i.natAbs j.natAbs).log2 < bitsLine)
def rLcm : List V → Hp → VK → Prop := fun vs H Q => ∃ a b : Int, vs = [.int a, .int b] ∧ lcmOk a b = true ∧ Q (.int ((Nat.lcm a.natAbs b.natAbs : Nat) : Int)) H
theorem cr_lcm {X : Cx} : CallR X (.builtin "math.lcm") rLcm := by
  intro pins s σ H vs us Q I r h
  obtain ⟨a, b, rfl, ok, q⟩ := h
  have ok' := of_decide_eq_true (show decide _ = true from ok)
  obtain ⟨t, t2, rfl⟩ : ∃ t t2, us = [.int a t, .int b t2] := by
    cases r with
    | cons r rr =>
      cases rr with
      | cons r' rr =>
        cases rr
        obtain ⟨t, rfl⟩ := r
        obtain ⟨t2, rfl⟩ := r'
        exact ⟨t, t2, rfl⟩
  have e : (Nat.lcm 1 a.natAbs).lcm b.natAbs = Nat.lcm a.natAbs b.natAbs := by rw [Nat.lcm_one_left]
  have g := PySem.W.mg_run_lcm a t b t2 (by omega) (by omega) (by rw [e, Int.natAbs_natCast]; exact ok'.2.2)
  rw [e] at g
  exact PySem.call_function_meets PySem.W.MGF.kind_lcm PySem.W.MGF.plain_lcm PySem.W.MGF.entry_lcm (PySem.W.MGF.args_lcm _ _) g.meets ⟨.int _, H, I.tok _, ⟨_, rfl⟩, q⟩
def gLcm : List PyData → Option PyData
  | [.int i, .int j] => if lcmOk i j = true then some (.int ((Nat.lcm i.natAbs j.natAbs : Nat) : Int)) else none
  | _ => none
theorem re_lcm {X : Cx} {a b : Expr} {x : Str} {p pos : Pos} {fa : FA} (hg : Gl X x) (hm : X.mg x = some (.builtin "math.lcm")) (ha : RA X [a, b] fa) (hdb : (x == ("__debug__" : Str)) = false := by decide) (he : starEach [a, b] X.env = (false, eval a X.env) :: starEach [b] X.env := by with_reducible first | exact sn_name | exact sn_const | exact sn_tup | exact sn_list | exact sn_bin | exact sn_un | exact sn_bool | exact sn_cmp | exact sn_call | exact sn_sub | exact sn_if | exact sn_attr | exact sn_lc) (hpl : (backTo pos (starEach [b] X.env)).any (·.1) = false := by rfl) : RE X (.Call (.Name x p) [a, b] [] pos) (fBi gLcm fa) := .mk fun st d c h =>
  RE.of (pe_callBfun cr_lcm hg hm (pwA [a, b]) hdb he hpl) (ed_bi h (fun xs z h => by
    unfold gLcm at h
    split at h
    rotate_left
    · cases h
    split at h <;> cases h
    rename_i hok
    intro hs H vs _ d Q q
    obtain ⟨v, w, rfl, d1, d2⟩ := dpa2 d
    cases dp_int d1
    cases dp_int d2
    exact ⟨_, _, rfl, hok, q _ H (Step.refl H) (.int _)⟩) ha)
/-! is, is not of bools -/
def gIsB : PyData → PyData → Option PyData
  | .bool a, .bool b => some (.bool (decide (a = b)))
  | _, _ => none
theorem rd_isB {K : PySem.W.Frag} {x y z : PyData} (h : gIsB x y = some z) : RD K (fun x y H Q => ∃ a b, x = .bl a ∧ y = .bl b ∧ Q (.bl (decide (a = b))) H) x y z := by
  cases x <;> cases y <;> first | (cases h; done) | skip
  cases h
  intro hs H v w _ h1 h2 Q q
  cases h1
  cases h2
  exact ⟨_, _, rfl, rfl, q _ H (Step.refl H) (.bl _)⟩
theorem re_isB {X : Cx} {a b : Expr} {pos : Pos} {fa fb : FE} (ha : RE X a fa) (hb : RE X b fb) (hm : behindInMarks .Is b = false := by exact nomark _) : RE X (.Compare a [.Is] [b] pos) (fOp gIsB fa fb) := re_cmp op_is_bl (fun _ _ _ h => rd_isB h) ha hb hm
theorem rt_isB {X : Cx} {a b : Expr} {pos : Pos} {fa fb : FE} (ha : RE X a fa) (hb : RE X b fb) (hm : behindInMarks .Is b = false := by exact nomark _) : RT X (.Compare a [.Is] [b] pos) (fTru (fOp gIsB fa fb)) := rt_cmp op_is_bl (fun _ _ _ h => rd_isB h) ha hb hm
def gNotB : PyData → PyData → Option PyData
  | .bool a, .bool b => some (.bool (!decide (a = b)))
  | _, _ => none
theorem rd_notB {K : PySem.W.Frag} {x y z : PyData} (h : gNotB x y = some z) : RD K (fun x y H Q => ∃ a b, x = .bl a ∧ y = .bl b ∧ Q (.bl (!decide (a = b))) H) x y z := by
  cases x <;> cases y <;> first | (cases h; done) | skip
  cases h
  intro hs H v w _ h1 h2 Q q
  cases h1
  cases h2
  exact ⟨_, _, rfl, rfl, q _ H (Step.refl H) (.bl _)⟩
theorem re_notB {X : Cx} {a b : Expr} {pos : Pos} {fa fb : FE} (ha : RE X a fa) (hb : RE X b fb) (hm : behindInMarks .IsNot b = false := by exact nomark _) : RE X (.Compare a [.IsNot] [b] pos) (fOp gNotB fa fb) := re_cmp op_isnot_bl (fun _ _ _ h => rd_notB h) ha hb hm
theorem rt_notB {X : Cx} {a b : Expr} {pos : Pos} {fa fb : FE} (ha : RE X a fa) (hb : RE X b fb) (hm : behindInMarks .IsNot b = false := by exact nomark _) : RT X (.Compare a [.IsNot] [b] pos) (fTru (fOp gNotB fa fb)) := rt_cmp op_isnot_bl (fun _ _ _ h => rd_notB h) ha hb hm
/-! a tuple so many times -/
def gRepT : PyData → PyData → Option PyData
  | .tuple xs, .int k => if xs.isEmpty = false ∧ 2 ≤ k ∧ k ≤ 1000 ∧ xs.length ≤ 1000 then some (.tuple (List.replicate k.toNat xs).flatten) else none
  | _, _ => none
theorem re_repT {X : Cx} {a b : Expr} {pos : Pos} {fa fb : FE} (ha : RE X a fa) (hb : RE X b fb) : RE X (.BinOp a .Mult b pos) (fOp gRepT fa fb) := re_op op_repT (fun x y z h => by
  cases x <;> cases y <;> first | (cases h; done) | skip
  rename_i xs k
  unfold gRepT at h
  simp only at h
  split at h <;> cases h
  rename_i hc
  intro hs H v w ht h1 h2 Q q
  obtain ⟨p, vs, rfl, hp, da⟩ := dp_tuple h1
  cases dp_int h2
  refine ⟨p, k, vs, rfl, rfl, sqT_mono hid_sub hp, ?_, hc.2.1, hc.2.2.1, by rw [da.len]; exact hc.2.2.2, fun t ht' => ?_⟩
  · intro e
    subst e
    cases da
    exact absurd hc.1 (by decide)
  · have s3 : Step [] H (upd H t (.tup (List.replicate k.toNat vs).flatten)) := Step.new ht'
    have hph : t ∉ hs := fun m => ht t m ht'
    exact q _ _ s3 (.tup (.inl (.inl (by rw [hid_out hph]; exact upd_same))) ((DpAll.rep da k.toNat).up (s3.hd0 (by simp))))) ha hb
end DL


set_option linter.all false
/-! rows of ints: common divisors, reduced rows -/
namespace PL
def gL : List Int → Nat
  | [] => 0
  | x :: r => Nat.gcd x.natAbs (gL r)
def mL (v : List Int) : Int := if 1 < gL v then (gL v : Int) else 1
def red (v : List Int) : List Int := v.map fun x => x / mL v
theorem gL_dvd : ∀ {v : List Int} {x : Int}, x ∈ v → ((gL v : Nat) : Int) ∣ x
  | [], _, h => by cases h
  | y :: r, x, h => by
    rcases List.mem_cons.mp h with rfl | h
    · exact Int.natAbs_dvd_natAbs.mp (by rw [Int.natAbs_natCast]; exact Nat.gcd_dvd_left _ _)
    · exact Int.dvd_trans (Int.natCast_dvd_natCast.mpr (Nat.gcd_dvd_right _ _)) (gL_dvd h)
theorem dvd_gL {k : Nat} : ∀ {v : List Int}, (∀ x ∈ v, (k : Int) ∣ x) → k ∣ gL v
  | [], _ => Nat.dvd_zero k
  | y :: r, h => Nat.dvd_gcd (by
      have := Int.natAbs_dvd_natAbs.mpr (h y List.mem_cons_self)
      rwa [Int.natAbs_natCast] at this) (dvd_gL fun x m => h x (List.mem_cons_of_mem _ m))
theorem gL_zero {v : List Int} (h : gL v = 0) : ∀ x ∈ v, x = 0 := fun x m => by
  have := gL_dvd m
  rw [h] at this
  exact Int.zero_dvd.mp this
theorem mL_pos (v : List Int) : 0 < mL v := by unfold mL; split <;> omega
theorem mL_dvd {v : List Int} {x : Int} (h : x ∈ v) : mL v ∣ x := by
  unfold mL
  split
  · exact gL_dvd h
  · exact Int.one_dvd x
theorem mL_eq {v : List Int} (h : gL v ≠ 0) : mL v = gL v := by unfold mL; split <;> omega
theorem red_mul_mL (v : List Int) : ∀ x ∈ v, x / mL v * mL v = x := fun x m => Int.ediv_mul_cancel (mL_dvd m)
theorem gL_map_mul (c : Int) : ∀ v : List Int, gL (v.map (c * ·)) = c.natAbs * gL v
  | [] => by simp [gL]
  | x :: r => by
    show Nat.gcd (c * x).natAbs (gL (r.map (c * ·))) = _
    rw [gL_map_mul c r, Int.natAbs_mul, Nat.gcd_mul_left]; rfl
theorem red_eq_map (v : List Int) : v = (red v).map (mL v * ·) := by
  unfold red
  rw [List.map_map]
  conv => lhs; rw [← List.map_id v]
  exact List.map_congr_left fun x m => by
    show x = mL v * (x / mL v)
    rw [Int.mul_comm]; exact (red_mul_mL v x m).symm
theorem gL_red {v : List Int} (h : gL v ≠ 0) : gL (red v) = 1 := by
  have e := congrArg gL (red_eq_map v)
  rw [gL_map_mul, mL_eq h, Int.natAbs_natCast] at e
  exact (Nat.mul_right_cancel (Nat.pos_of_ne_zero h) (by rw [Nat.one_mul, Nat.mul_comm]; exact e)).symm
theorem red_of_one {v : List Int} (h : gL v = 1) : red v = v := by
  unfold red mL
  rw [h]
  simp
theorem red_mul {c : Int} (hc : 0 < c) (v : List Int) : red (v.map (c * ·)) = red v := by
  by_cases h : gL v = 0
  · have z := gL_zero h
    have : v.map (c * ·) = v := by
      conv => rhs; rw [← List.map_id v]
      exact List.map_congr_left fun x m => by rw [z x m]; simp
    rw [this]
  · have h1 : gL (v.map (c * ·)) ≠ 0 := by
      rw [gL_map_mul]
      exact Nat.mul_ne_zero (by omega) h
    unfold red
    rw [mL_eq h1, mL_eq h, gL_map_mul, List.map_map]
    refine List.map_congr_left fun x m => ?_
    show c * x / ((c.natAbs * gL v : Nat) : Int) = x / gL v
    have e : ((c.natAbs * gL v : Nat) : Int) = c * gL v := by
      rw [Int.natCast_mul, Int.natAbs_of_nonneg (Int.le_of_lt hc)]
    rw [e]
    exact Int.mul_ediv_mul_of_pos _ _ hc
/-- rows that are the same but for a factor above 0 -/
theorem red_par {a b : Int} {v w : List Int} (ha : 0 < a) (hb : 0 < b) (h : v.map (a * ·) = w.map (b * ·)) : red v = red w := by
  rw [← red_mul ha v, h, red_mul hb w]
theorem red_len (v : List Int) : (red v).length = v.length := by unfold red; simp
theorem red_red {v : List Int} (h : gL v ≠ 0) : red (red v) = red v := red_of_one (gL_red h)
theorem gL_ne {v : List Int} {x : Int} (h : x ∈ v) (hx : x ≠ 0) : gL v ≠ 0 := fun z => hx (gL_zero z x h)
theorem gL_foldl : ∀ (v : List Int) (g : Nat), v.foldl (fun g x => Nat.gcd g x.natAbs) g = Nat.gcd g (gL v)
  | [], g => by simp [gL]
  | x :: r, g => by
    rw [List.foldl_cons, gL_foldl r]
    show _ = Nat.gcd g (Nat.gcd x.natAbs (gL r))
    rw [Nat.gcd_assoc]
end PL


set_option Elab.async false
set_option linter.all false
set_option maxRecDepth 100000
set_option maxHeartbeats 400000
set_option exponentiation.threshold 20000
namespace PL
open PySem PySem.Spec L2 DL

/-! sizes -/
theorem bsome {α β : Type} (x : α) (f : α → Option β) : (some x).bind f = f x := by rw [Option.bind_some]
theorem msome {α β : Type} (x : α) (f : α → β) : (some x).map f = some (f x) := by rw [Option.map_some]
theorem sq_nn (x : Int) : 0 ≤ x * x := by
  rcases Int.le_total 0 x with h | h
  · exact Int.mul_nonneg h h
  · exact Int.mul_nonneg_of_nonpos_of_nonpos h h
theorem sq_z {x : Int} (h : x * x = 0) : x = 0 := by rcases Int.mul_eq_zero.mp h with h | h <;> exact h
def Sm (n : Nat) (x : Int) : Prop := x.natAbs < 2 ^ n
theorem Sm.mul {n : Nat} {x y : Int} (h : Sm (n / 2) x) (g : Sm (n / 2) y) : Sm n (x * y) := by
  unfold Sm at *
  rw [Int.natAbs_mul]
  have h1 := Nat.mul_lt_mul_of_lt_of_le h (Nat.le_of_lt g) (Nat.two_pow_pos _)
  rw [← Nat.pow_add] at h1
  exact Nat.lt_of_lt_of_le h1 (Nat.pow_le_pow_right (by decide) (by omega))
theorem Sm.add {n : Nat} {x y : Int} (h0 : 0 < n) (h : Sm (n - 1) x) (g : Sm (n - 1) y) : Sm n (x + y) := by
  unfold Sm at *
  obtain ⟨m, rfl⟩ : ∃ m, n = m + 1 := ⟨n - 1, by omega⟩
  rw [Nat.add_sub_cancel] at h g
  rw [Nat.pow_succ]; omega
theorem Sm.sub {n : Nat} {x y : Int} (h0 : 0 < n) (h : Sm (n - 1) x) (g : Sm (n - 1) y) : Sm n (x - y) := by
  unfold Sm at *
  obtain ⟨m, rfl⟩ : ∃ m, n = m + 1 := ⟨n - 1, by omega⟩
  rw [Nat.add_sub_cancel] at h g
  rw [Nat.pow_succ]; omega
theorem Sm.neg {m : Nat} {x : Int} (h : Sm m x) : Sm m (-x) := by unfold Sm at *; rw [Int.natAbs_neg]; exact h
theorem Sm.div {m : Nat} {x y : Int} (h : Sm m x) : Sm m (x / y) := Nat.lt_of_le_of_lt (Int.natAbs_ediv_le_natAbs x y) h
theorem Sm.lit {n m : Nat} (h : m < 1099511627776) (hn : 40 ≤ n) : Sm n (OfNat.ofNat m) := Nat.lt_of_lt_of_le (show m < 2 ^ 40 from h) (Nat.pow_le_pow_right (by decide) hn)
theorem Sm.zero {n : Nat} : Sm n 0 := Nat.two_pow_pos _
theorem Sm.one {n : Nat} (h : 0 < n) : Sm n 1 := Nat.lt_of_lt_of_le (by decide : (1 : Int).natAbs < 2 ^ 1) (Nat.pow_le_pow_right (by decide) h)
theorem Sm.up {m : Nat} (n : Nat) {x : Int} (h : Sm m x) (hn : m ≤ n) : Sm n x := Nat.lt_of_lt_of_le h (Nat.pow_le_pow_right (by decide) hn)
theorem Sm.log {n : Nat} {x : Int} (h : Sm n x) (h0 : 0 < n) : x.natAbs.log2 < n := PySem.Flt.log2_lt_of h0 h
/-- at most n places -/
abbrev Sz (n : Nat) (x : Int) : Prop := ∀ k, Sm (k + n) x
theorem Sm.sz {n : Nat} {x : Int} (h : Sm n x) : Sz n x := fun k => h.up _ (by omega)
theorem Sz.sm {n m : Nat} {x : Int} (h : Sz n x) (hn : n ≤ m := by decide) : Sm m x := (h 0).up _ (by omega)
theorem Sz.by (n : Nat) {m : Nat} {x : Int} (h : Sz m x) (hn : m ≤ n) : Sz n x := (h.sm hn).sz
theorem Sz.mul {m n : Nat} {x y : Int} (h : Sz m x) (g : Sz n y) : Sz (m + n) (x * y) := Sm.sz (by
  have h := h.sm (Nat.le_refl m)
  have g := g.sm (Nat.le_refl n)
  unfold Sm at *
  rw [Int.natAbs_mul, Nat.pow_add]
  exact Nat.mul_lt_mul_of_lt_of_le h (Nat.le_of_lt g) (Nat.two_pow_pos _))
theorem Sz.add {m n : Nat} {x y : Int} (h : Sz m x) (g : Sz n y) : Sz (max m n + 1) (x + y) :=
  (Sm.add (by omega) (h.sm (by omega)) (g.sm (by omega))).sz
theorem Sz.sub {m n : Nat} {x y : Int} (h : Sz m x) (g : Sz n y) : Sz (max m n + 1) (x - y) :=
  (Sm.sub (by omega) (h.sm (by omega)) (g.sm (by omega))).sz
theorem Sz.neg {m : Nat} {x : Int} (h : Sz m x) : Sz m (-x) := fun k => (h k).neg
theorem Sz.div {m : Nat} {x y : Int} (h : Sz m x) : Sz m (x / y) := fun k => (h k).div
theorem Sz.of40 {x : Int} (h : x.natAbs < 2 ^ 40) : Sz 40 x := Sm.sz h
theorem Sz.lit2 {x : Int} (h : x.natAbs < 2 ^ 2) : Sz 2 x := Sm.sz h
theorem sz_2 : Sz 2 (2 : Int) := Sz.lit2 (by decide)
theorem sz_3 : Sz 2 (3 : Int) := Sz.lit2 (by decide)
theorem sz_4 : Sz 3 (4 : Int) := Sm.sz (by unfold Sm; decide)
theorem sz_1 : Sz 1 (1 : Int) := Sm.sz (by unfold Sm; decide)
theorem sz_8 : Sz 4 (8 : Int) := Sm.sz (by unfold Sm; decide)
theorem sz_0 : Sz 0 (0 : Int) := Sm.sz (by unfold Sm; decide)
theorem sz_of {x : Int} (h0 : 0 ≤ x) (h1 : x < 2 ^ 60) : Sz 60 x := Sm.sz (by unfold Sm; omega)
theorem mL_le {v : List Int} (h : ∃ x ∈ v, x ≠ 0) : ∃ x ∈ v, (mL v).natAbs ≤ x.natAbs := by
  obtain ⟨x, m, hx⟩ := h
  exact ⟨x, m, Nat.le_of_dvd (Int.natAbs_pos.mpr hx) (Int.natAbs_dvd_natAbs.mpr (mL_dvd m))⟩
theorem sm_mL {n : Nat} (h0 : 1 ≤ n) {v : List Int} (h : ∀ x ∈ v, Sm n x) : Sm n (mL v) := by
  by_cases hz : ∃ x ∈ v, x ≠ 0
  · obtain ⟨x, m, hx⟩ := mL_le hz
    exact Nat.lt_of_le_of_lt hx (h x m)
  · have : gL v = 0 := by
      have : ∀ w : List Int, (∀ x ∈ w, x = 0) → gL w = 0 := by
        intro w
        induction w with
        | nil => intro _; rfl
        | cons y r ih =>
          intro hw
          show Nat.gcd y.natAbs (gL r) = 0
          rw [hw y List.mem_cons_self, ih fun x m => hw x (List.mem_cons_of_mem _ m)]; rfl
      exact this v fun x m => Classical.byContradiction fun q => hz ⟨x, m, q⟩
    have e : mL v = 1 := by unfold mL; rw [this]; rfl
    rw [e]
    exact Sm.one h0
theorem gMul_ok {x y : Int} (h : Sm 4000 x) (g : Sm 4000 y) : gMul (.int x) (.int y) = some (.int (x * y)) := by
  have h1 := h.log (by decide)
  have h2 := g.log (by decide)
  exact if_pos (by simp [mulOk]; omega)
theorem gDiv_ok {i m : Int} (h : 0 < m) (h2 : Sm 4000 m) : gDiv (.int i) (.int m) = some (.int (i / m)) := if_pos (by
  have := h2.log (by decide)
  simp [divOk]; omega)
theorem gMod_ok {i j : Int} (h : 0 < j) : gMod (.int i) (.int j) = some (.int (i % j)) := if_pos h
theorem gEq_int (i j : Int) : gEq (.int i) (.int j) = some (.bool (i == j)) := rfl
theorem gNe_int (i j : Int) : gNe (.int i) (.int j) = some (.bool (!(i == j))) := rfl
theorem dm_ok {i j : Int} (h : 0 < j) (h2 : Sm 1000 j) : gDivmod [.int i, .int j] = some (.tuple [.int (i / j), .int (i % j)]) := if_pos (by
  have := h2.log (by decide)
  have e : Builtin.divisionGoesByPylong i j = false := by
    unfold Builtin.divisionGoesByPylong
    have hz : (j == 0) = false := beq_eq_false_iff_ne.mpr (by omega)
    simp only [hz]
    have : ¬ (j.natAbs.log2 / 30 + 1 > 300) := by omega
    simp [this]
  unfold divmodOk
  rw [e, decide_eq_true h]; rfl)
/-! places and cuts of short rows -/
section
variable (a b c d e f : PyData)
theorem ix1_0 : atI [a] 0 = some a := rfl
theorem ix2_0 : atI [a, b] 0 = some a := rfl
theorem ix2_1 : atI [a, b] 1 = some b := rfl
theorem ix3_0 : atI [a, b, c] 0 = some a := rfl
theorem ix3_1 : atI [a, b, c] 1 = some b := rfl
theorem ix3_2 : atI [a, b, c] 2 = some c := rfl
theorem ix4_0 : atI [a, b, c, d] 0 = some a := rfl
theorem ix4_1 : atI [a, b, c, d] 1 = some b := rfl
theorem ix4_2 : atI [a, b, c, d] 2 = some c := rfl
theorem ix4_3 : atI [a, b, c, d] 3 = some d := rfl
theorem ix5_0 : atI [a, b, c, d, e] 0 = some a := rfl
theorem ix5_1 : atI [a, b, c, d, e] 1 = some b := rfl
theorem ix5_2 : atI [a, b, c, d, e] 2 = some c := rfl
theorem ix5_3 : atI [a, b, c, d, e] 3 = some d := rfl
theorem ix5_4 : atI [a, b, c, d, e] 4 = some e := rfl
theorem ix6_0 : atI [a, b, c, d, e, f] 0 = some a := rfl
theorem ix6_1 : atI [a, b, c, d, e, f] 1 = some b := rfl
theorem ix6_2 : atI [a, b, c, d, e, f] 2 = some c := rfl
theorem ix6_3 : atI [a, b, c, d, e, f] 3 = some d := rfl
theorem ix6_4 : atI [a, b, c, d, e, f] 4 = some e := rfl
theorem ix6_5 : atI [a, b, c, d, e, f] 5 = some f := rfl
theorem cut5_04 : cutD [a, b, c, d, e] none (some 4) = [a, b, c, d] := rfl
theorem cut5_14 : cutD [a, b, c, d, e] (some 1) (some 4) = [b, c, d] := rfl
theorem cut4_04 : cutD [a, b, c, d] none (some 4) = [a, b, c, d] := rfl
theorem cut4_03 : cutD [a, b, c, d] none (some 3) = [a, b, c] := rfl
theorem cut4_14 : cutD [a, b, c, d] (some 1) none = [b, c, d] := rfl
end
theorem ixN3_0 : ixN 3 0 = some 0 := rfl
theorem ixN3_1 : ixN 3 1 = some 1 := rfl
theorem ixN3_2 : ixN 3 2 = some 2 := rfl
theorem atI_in {xs : List PyData} {v : Int} (h0 : 0 ≤ v) (h1 : v < (xs.length : Nat)) : ∃ x, x ∈ xs ∧ atI xs v = some x := by
  have hl : v.toNat < xs.length := by omega
  refine ⟨xs[v.toNat], List.getElem_mem hl, ?_⟩
  unfold atI ixN
  rw [if_pos h0, if_pos h1]
  exact List.getElem?_eq_getElem hl
/-! data that are short, and written out -/
def SOk (x : Str) : Prop := ∀ c ∈ x.cps.toList, c < 0x110000
theorem SOk.app {x y : Str} (h : SOk x) (g : SOk y) : SOk (x ++ y) := fun c m => by
  rcases PyProof.Rows.mem_cps_append.mp m with m | m
  · exact h c m
  · exact g c m
theorem SOk.str (s : String) : SOk (Str.ofString s) := fun c m => by
  rw [PyProof.Rows.signs_ofString] at m
  obtain ⟨k, _, rfl⟩ := List.mem_map.mp m
  exact k.valid.elim (fun h => by have : k.toNat < 0xd800 := h; omega) (fun h => h.2)
theorem SOk.from : ∀ (ts : List Str) (k : Nat) (acc : Str), SOk acc → (∀ t ∈ ts, SOk t) → SOk (textFrom k acc ts)
  | [], k, acc, h, _ => h
  | t :: r, k, acc, h, g => SOk.from r (k + 1) _ ((h.app (by split <;> exact SOk.str _)).app (g t (List.mem_cons_self ..))) fun u hu => g u (List.mem_cons_of_mem _ hu)
theorem SOk.list (ts : List Str) (g : ∀ t ∈ ts, SOk t) : SOk (listText ts) := (SOk.from ts 0 _ (SOk.str "[") g).app (SOk.str "]")
theorem SOk.join : ∀ (ts : List Str), (∀ t ∈ ts, SOk t) → SOk (Str.join ", " ts)
  | [], _ => fun c m => by cases m
  | [x], g => g x (List.mem_cons_self ..)
  | x :: y :: r, g => ((g x (List.mem_cons_self ..)).app (SOk.str ", ")).app (SOk.join (y :: r) fun u hu => g u (List.mem_cons_of_mem _ hu))
theorem SOk.tup (ts : List Str) (g : ∀ t ∈ ts, SOk t) : SOk (tupleText ts) := ((SOk.str "(").app (SOk.join ts g)).app (by split <;> exact SOk.str _)
mutual
def Nice (n : Nat) : PyData → Prop
  | .none => True
  | .bool _ => True
  | .int i => Sm n i
  | .str _ => False
  | .list ds => NiceAll n ds
  | .tuple ds => NiceAll n ds
  | .dict _ => False
def NiceAll (n : Nat) : List PyData → Prop
  | [] => True
  | d :: ds => Nice n d ∧ NiceAll n ds
end
mutual
theorem Nice.sh {n : Nat} (hn : n < 1900) : ∀ d : PyData, Nice n d → d.showable = true ∧ d.hasDict = false ∧ d.canLay0 = true ∧ SOk d.shown ∧ d.leavesShort (n + 9) = true ∧ PyData.eqv d d = true
  | .none, _ => ⟨rfl, rfl, rfl, SOk.str _, rfl, rfl⟩
  | .bool b, _ => ⟨rfl, rfl, rfl, by cases b <;> exact SOk.str _, rfl, by simp [PyData.eqv]⟩
  | .int i, h => by
    have h' : Sm n i := by simpa only [Nice] using h
    have h1 : i.natAbs.log2 < n + 1 := (h'.up (n + 1) (by omega)).log (by omega)
    refine ⟨by simp only [PyData.showable, decide_eq_true_eq]; omega, rfl, rfl, SOk.str _, ?_, by simp [PyData.eqv]⟩
    have h2 := int_text_length_le (k := n + 1) (by omega) h1
    simp only [PyData.leavesShort, decide_eq_true_eq]
    show (Str.ofString (toString i)).length ≤ n + 9
    rw [ofString_length]; omega
  | .str _, h => by simp only [Nice] at h
  | .list ds, h => by
    obtain ⟨h1, h2, h3, h4, h5, h6⟩ := NiceAll.sh hn ds (by simpa only [Nice] using h)
    exact ⟨by simpa only [PyData.showable] using h1, by simpa only [PyData.hasDict] using h2, by simpa only [PyData.canLay0] using h3, SOk.list _ h4, by simpa only [PyData.leavesShort] using h5, by simpa only [PyData.eqv] using h6⟩
  | .tuple ds, h => by
    obtain ⟨h1, h2, h3, h4, h5, h6⟩ := NiceAll.sh hn ds (by simpa only [Nice] using h)
    exact ⟨by simpa only [PyData.showable] using h1, by simpa only [PyData.hasDict] using h2, by simpa only [PyData.canLay0] using h3, SOk.tup _ h4, by simpa only [PyData.leavesShort] using h5, by simpa only [PyData.eqv] using h6⟩
  | .dict _, h => by simp only [Nice] at h
theorem NiceAll.sh {n : Nat} (hn : n < 1900) : ∀ ds : List PyData, NiceAll n ds → PyData.showableAll ds = true ∧ PyData.hasDictAll ds = false ∧ PyData.canLayAll0 ds = true ∧ (∀ t ∈ PyData.shownAll ds, SOk t) ∧ PyData.leavesShortAll (n + 9) ds = true ∧ PyData.eqvAll ds ds = true
  | [], _ => ⟨rfl, rfl, rfl, (fun t m => by simp [PyData.shownAll] at m), rfl, rfl⟩
  | d :: ds, h => by
    have h' : Nice n d ∧ NiceAll n ds := by simpa only [NiceAll] using h
    obtain ⟨h1, h2, h3, h4, h5, h6⟩ := Nice.sh hn d h'.1
    obtain ⟨g1, g2, g3, g4, g5, g6⟩ := NiceAll.sh hn ds h'.2
    refine ⟨by simp only [PyData.showableAll, h1, g1, Bool.and_self], by simp only [PyData.hasDictAll, h2, g2, Bool.or_self], by simp only [PyData.canLayAll0, h3, g3, Bool.and_self], fun t m => ?_, by simp only [PyData.leavesShortAll, h5, g5, Bool.and_self], by simp only [PyData.eqvAll, h6, g6, Bool.and_self]⟩
    rcases List.mem_cons.mp (show t ∈ d.shown :: PyData.shownAll ds from m) with rfl | m
    · exact h4
    · exact g4 t m
end
/-- what repr makes of nice data, and that it is equal to itself -/
structure Rep (d : PyData) (t : PyData) : Prop where
  r : gRepr [d] = some t
  ne : gNe t t = some (.bool false)
  eq : gEq t t = some (.bool true)
theorem eq_str {x : Str} (h : SOk x) : gEq (.str x) (.str x) = some (.bool true) ∧ gNe (.str x) (.str x) = some (.bool false) := by
  have h1 : PyData.strOk x = true := by
    unfold PyData.strOk
    rw [Array.all_eq_true']
    intro c m
    exact decide_eq_true (h c (Array.mem_toList_iff.mpr m))
  have h2 : SeqAt.shaped (.str x) = true := by
    unfold SeqAt.shaped
    rw [show (PyData.str x).canLay0 = PyData.strOk x from rfl, h1]; rfl
  unfold gEq gNe
  rw [if_pos ⟨h2, h2⟩, if_pos ⟨h2, h2⟩]
  simp only [PyData.eqv, beq_self_eq_true, Bool.not_true, and_self]
theorem rep_ok {n : Nat} {d : PyData} (h : Nice n d) (hn : n < 1900) (hb : (n + 11) * d.bulk + (n + 9) ≤ 2 ^ 24) (hd : d.depth ≤ 60) : ∃ t, Rep d t := by
  obtain ⟨h1, h2, h3, h4, h5, h6⟩ := Nice.sh hn d h
  have h7 := PyData.shown_le_bulk (n + 9) (by omega) d h5
  refine ⟨.str d.shown, if_pos ?_, (eq_str h4).2, (eq_str h4).1⟩
  unfold shownOk
  have h8 : d.shown.length ≤ sizeLine := Nat.le_trans h7 (by unfold sizeLine; exact hb)
  rw [h1, h2, decide_eq_true h8, decide_eq_true hd]; rfl
theorem shaped_ok {n : Nat} {d : PyData} (h : Nice n d) (hn : n < 1900) (hd : d.depth ≤ 64) : SeqAt.shaped d = true := by
  obtain ⟨h1, h2, h3, h4, h5, h6⟩ := Nice.sh hn d h
  unfold SeqAt.shaped
  rw [h3, decide_eq_true hd]; rfl
theorem eq_self {n : Nat} {d : PyData} (h : Nice n d) (hn : n < 1900) (hd : d.depth ≤ 64) : gEq d d = some (.bool true) ∧ gNe d d = some (.bool false) := by
  have hs := shaped_ok h hn hd
  obtain ⟨h1, h2, h3, h4, h5, h6⟩ := Nice.sh hn d h
  unfold gEq gNe
  rw [if_pos ⟨hs, hs⟩, if_pos ⟨hs, hs⟩, h6]
  exact ⟨rfl, rfl⟩
/-! rows of ints as data -/
abbrev T2 (a b : Int) : PyData := .tuple [.int a, .int b]
abbrev T3 (a b c : Int) : PyData := .tuple [.int a, .int b, .int c]
abbrev T4 (a b c d : Int) : PyData := .tuple [.int a, .int b, .int c, .int d]
abbrev T5 (a b c d e : Int) : PyData := .tuple [.int a, .int b, .int c, .int d, .int e]
abbrev L4 (a b c d : Int) : PyData := .list [.int a, .int b, .int c, .int d]
abbrev L5 (a b c d e : Int) : PyData := .list [.int a, .int b, .int c, .int d, .int e]
abbrev L3 (a b c : Int) : List PyData := [.int a, .int b, .int c]
def nts (v : List Int) : List PyData := v.map PyData.int
theorem nts_shaped : ∀ (v : List Int), PyData.canLayAll0 (nts v) = true ∧ PyData.depthAll (nts v) = 0
  | [] => ⟨rfl, rfl⟩
  | x :: v => by
    obtain ⟨h1, h2⟩ := nts_shaped v
    refine ⟨?_, ?_⟩
    · show (true && PyData.canLayAll0 (nts v)) = true
      rw [h1]; rfl
    · show max 0 (PyData.depthAll (nts v)) = 0
      rw [h2]; rfl
theorem eqv_ints : ∀ (v w : List Int), PyData.eqvAll (nts v) (nts w) = (v == w)
  | [], [] => rfl
  | [], _ :: _ => rfl
  | _ :: _, [] => rfl
  | x :: v, y :: w => by
    show (x == y && PyData.eqvAll (nts v) (nts w)) = _
    rw [eqv_ints v w]; rfl
theorem shaped_tup (v : List Int) : SeqAt.shaped (.tuple (nts v)) = true := by
  unfold SeqAt.shaped
  rw [show (PyData.tuple (nts v)).canLay0 = PyData.canLayAll0 (nts v) from rfl, (nts_shaped v).1, show (PyData.tuple (nts v)).depth = PyData.depthAll (nts v) + 1 from rfl, (nts_shaped v).2]; rfl
theorem gEq_tup (v w : List Int) : gEq (.tuple (nts v)) (.tuple (nts w)) = some (.bool (v == w)) := by
  unfold gEq
  rw [if_pos ⟨shaped_tup v, shaped_tup w⟩, show PyData.eqv (.tuple (nts v)) (.tuple (nts w)) = PyData.eqvAll (nts v) (nts w) from rfl, eqv_ints]
theorem gNe_tup (v w : List Int) : gNe (.tuple (nts v)) (.tuple (nts w)) = some (.bool (!(v == w))) := by
  unfold gNe
  rw [if_pos ⟨shaped_tup v, shaped_tup w⟩, show PyData.eqv (.tuple (nts v)) (.tuple (nts w)) = PyData.eqvAll (nts v) (nts w) from rfl, eqv_ints]
theorem gEq_T2 (a b a' b' : Int) : gEq (T2 a b) (T2 a' b') = some (.bool ([a, b] == [a', b'])) := gEq_tup [a, b] [a', b']
theorem gNe_T2 (a b a' b' : Int) : gNe (T2 a b) (T2 a' b') = some (.bool (!([a, b] == [a', b']))) := gNe_tup [a, b] [a', b']
theorem gEq_T4 (a b c d a' b' c' d' : Int) : gEq (T4 a b c d) (T4 a' b' c' d') = some (.bool ([a, b, c, d] == [a', b', c', d'])) := gEq_tup [a, b, c, d] [a', b', c', d']
theorem gNe_T4 (a b c d a' b' c' d' : Int) : gNe (T4 a b c d) (T4 a' b' c' d') = some (.bool (!([a, b, c, d] == [a', b', c', d']))) := gNe_tup [a, b, c, d] [a', b', c', d']
theorem gEq_T5 (a b c d e a' b' c' d' e' : Int) : gEq (T5 a b c d e) (T5 a' b' c' d' e') = some (.bool ([a, b, c, d, e] == [a', b', c', d', e'])) := gEq_tup [a, b, c, d, e] [a', b', c', d', e']
theorem gNe_T5 (a b c d e a' b' c' d' e' : Int) : gNe (T5 a b c d e) (T5 a' b' c' d' e') = some (.bool (!([a, b, c, d, e] == [a', b', c', d', e']))) := gNe_tup [a, b, c, d, e] [a', b', c', d', e']
theorem intsOf_map : ∀ v : List Int, intsOf (v.map PyData.int) = some v
  | [] => rfl
  | x :: v => by
    show (intsOf (v.map PyData.int)).map (x :: ·) = _
    rw [intsOf_map v]; rfl
theorem boolsOf_map : ∀ v : List Bool, boolsOf (v.map PyData.bool) = some v
  | [] => rfl
  | x :: v => by
    show (boolsOf (v.map PyData.bool)).map (x :: ·) = _
    rw [boolsOf_map v]; rfl
theorem seq_nx {a b : FS} {st st1 : Sta} (h : a st = some (.nx st1)) : fSeq a b st = b st1 := by unfold fSeq; rw [h]; rfl
theorem seq_rt {a b : FS} {st : Sta} {r : RV} {c : Cs} (h : a st = some (.rt r c)) : fSeq a b st = some (.rt r c) := by unfold fSeq; rw [h]; rfl
end PL


set_option Elab.async false
set_option linter.all false
set_option maxRecDepth 100000
set_option maxHeartbeats 400000
namespace PL
open PySem PySem.Spec L2 DL
open PyProof.Rows hiding St
def b_is_whole : FS := (fRet (fUn (gTyIs "int") (fVar 0)))
def F_is_whole : FnS := mkF 1 1 0 b_is_whole
def b_is_row : FS := (fRet (fAndV (fUn (gTyIs "tuple") (fVar 0)) (fAndV (fOp gEq (fBi gLen (fConsA (fVar 0) fNilA)) (fVar 1)) (fBi gAll (fConsA (fOfL (fLc (fIt (fVar 0)) (aName 2) fYes (fCall F_is_whole (fConsA (fVar 2) fNilA)) [2])) fNilA)))))
def F_is_row : FnS := mkF 2 3 0 b_is_row
def b_divisor_of : FS := (fSeq (fSet 1 (fLit (.int 0)))
  (fSeq (fFor (fIt (fVar 0)) (aName 2) (fSet 1 (fBi gGcd (fConsA (fVar 1) (fConsA (fVar 2) fNilA)))))
  (fRet (fVar 1))))
def F_divisor_of : FnS := mkF 1 3 0 b_divisor_of
def b_is_reduced_row : FS := (fRet (fAndV (fCall F_is_row (fConsA (fVar 0) (fConsA (fVar 1) fNilA))) (fOp gEq (fCall F_divisor_of (fConsA (fVar 0) fNilA)) (fLit (.int 1)))))
def F_is_reduced_row : FnS := mkF 2 2 0 b_is_reduced_row
def b_reduced : FS := (fSeq (fSet 1 (fBi gMax (fConsA (fCall F_divisor_of (fConsA (fVar 0) fNilA)) (fConsA (fLit (.int 1)) fNilA))))
  (fRet (fBi gTuple (fConsA (fOfL (fLc (fIt (fVar 0)) (aName 2) fYes (fOp gDiv (fVar 2) (fVar 1)) [2])) fNilA))))
def F_reduced : FnS := mkF 1 3 0 b_reduced
def b_dot : FS := (fRet (fBi gSum (fConsA (fOfL (fLc (fZip (fConsA (fVar 0) (fConsA (fVar 1) fNilA))) (aTup 2 (aCons (aName 2) (aCons (aName 3) aNil))) fYes (fOp gMul (fVar 2) (fVar 3)) [2, 3])) fNilA)))
def F_dot : FnS := mkF 2 4 0 b_dot
def b_combined : FS := (fRet (fBi gTuple (fConsA (fOfL (fLc (fZip (fConsA (fVar 1) (fConsA (fVar 3) fNilA))) (aTup 2 (aCons (aName 4) (aCons (aName 5) aNil))) fYes (fOp gPlus (fOp gMul (fVar 0) (fVar 4)) (fOp gMul (fVar 2) (fVar 5))) [4, 5])) fNilA)))
def F_combined : FnS := mkF 4 6 0 b_combined
def b_ratio : FS := (fSeq (fSet 2 (fIf (fTru (fOp (gCmp fun i j => decide (j < i)) (fVar 1) (fLit (.int 0)))) (fBi gGcd (fConsA (fVar 0) (fConsA (fVar 1) fNilA))) (fUn gNeg (fBi gGcd (fConsA (fVar 0) (fConsA (fVar 1) fNilA))))))
  (fRet (fTup (fConsA (fOp gDiv (fVar 0) (fVar 2)) (fConsA (fOp gDiv (fVar 1) (fVar 2)) fNilA)))))
def F_ratio : FnS := mkF 2 3 0 b_ratio
def b_is_fraction : FS := (fRet (fAndV (fCall F_is_reduced_row (fConsA (fVar 0) (fConsA (fLit (.int 2)) fNilA))) (fOp (gCmp fun i j => decide (j < i)) (fOp gIx (fVar 0) (fLit (.int 1))) (fLit (.int 0)))))
def F_is_fraction : FnS := mkF 1 1 0 b_is_fraction
def b_check_positive_fraction : FS := (fIfS (fOrT (fNotT (fTru (fCall F_is_fraction (fConsA (fVar 0) fNilA)))) (fTru (fOp (gCmp fun i j => decide (i < j)) (fOp gIx (fVar 0) (fLit (.int 0))) (fLit (.int 0))))) fNever fSkip)
def F_check_positive_fraction : FnS := mkF 1 1 0 b_check_positive_fraction
def b_crossed : FS := (fRet (fOp gSub (fOp gMul (fOp gIx (fVar 0) (fLit (.int 0))) (fOp gIx (fVar 1) (fLit (.int 0)))) (fCall F_dot (fConsA (fSl (fVar 0) (fPart (fLit (.int 1))) fNoPart) (fConsA (fSl (fVar 1) (fPart (fLit (.int 1))) fNoPart) fNilA)))))
def F_crossed : FnS := mkF 2 2 0 b_crossed
def b_in_cone : FS := (fRet (fAndV (fOp (gCmp fun i j => decide (j ≤ i)) (fOp gIx (fVar 0) (fLit (.int 0))) (fLit (.int 0))) (fOp (gCmp fun i j => decide (j ≤ i)) (fCall F_crossed (fConsA (fVar 0) (fConsA (fVar 0) fNilA))) (fLit (.int 0)))))
def F_in_cone : FnS := mkF 1 1 0 b_in_cone
def b_is_light : FS := (fRet (fAndV (fCall F_is_reduced_row (fConsA (fVar 0) (fConsA (fLit (.int 5)) fNilA))) (fAndV (fOp (gCmp fun i j => decide (j < i)) (fOp gIx (fVar 0) (fLit (.int 4))) (fLit (.int 0))) (fCall F_in_cone (fConsA (fSl (fVar 0) fNoPart (fPart (fLit (.int 4)))) fNilA)))))
def F_is_light : FnS := mkF 1 1 0 b_is_light
def b_is_kind : FS := (fRet (fAndV (fCall F_is_reduced_row (fConsA (fVar 0) (fConsA (fLit (.int 4)) fNilA))) (fAndV (fOp (gCmp fun i j => decide (j < i)) (fOp gIx (fVar 0) (fLit (.int 3))) (fLit (.int 0))) (fOp gEq (fCall F_dot (fConsA (fSl (fVar 0) fNoPart (fPart (fLit (.int 3)))) (fConsA (fSl (fVar 0) fNoPart (fPart (fLit (.int 3)))) fNilA))) (fOp gMul (fOp gIx (fVar 0) (fLit (.int 3))) (fOp gIx (fVar 0) (fLit (.int 3))))))))
def F_is_kind : FnS := mkF 1 1 0 b_is_kind
def b_is_look : FS := (fRet (fAndV (fCall F_is_reduced_row (fConsA (fVar 0) (fConsA (fLit (.int 4)) fNilA))) (fCall F_in_cone (fConsA (fVar 0) fNilA))))
def F_is_look : FnS := mkF 1 1 0 b_is_look
def b_check_light : FS := (fIfS (fNotT (fTru (fCall F_is_light (fConsA (fVar 0) fNilA)))) fNever fSkip)
def F_check_light : FnS := mkF 1 1 0 b_check_light
def b_check_kind : FS := (fIfS (fNotT (fTru (fCall F_is_kind (fConsA (fVar 0) fNilA)))) fNever fSkip)
def F_check_kind : FnS := mkF 1 1 0 b_check_kind
def b_check_look : FS := (fIfS (fNotT (fTru (fCall F_is_look (fConsA (fVar 0) fNilA)))) fNever fSkip)
def F_check_look : FnS := mkF 1 1 0 b_check_look
def b_read_level : FS := (fSeq (fDrop (fCall F_check_look (fConsA (fVar 0) fNilA)))
  (fSeq (fDrop (fCall F_check_light (fConsA (fVar 1) fNilA)))
  (fRet (fCall F_ratio (fConsA (fCall F_dot (fConsA (fVar 0) (fConsA (fSl (fVar 1) fNoPart (fPart (fLit (.int 4)))) fNilA))) (fConsA (fOp gIx (fVar 1) (fLit (.int 4))) fNilA))))))
def F_read_level : FnS := mkF 2 2 0 b_read_level
def b_added : FS := (fSeq (fDrop (fCall F_check_light (fConsA (fVar 0) fNilA)))
  (fSeq (fDrop (fCall F_check_light (fConsA (fVar 1) fNilA)))
  (fSeq (fSet 2 (fCall F_combined (fConsA (fOp gIx (fVar 1) (fLit (.int 4))) (fConsA (fSl (fVar 0) fNoPart (fPart (fLit (.int 4)))) (fConsA (fOp gIx (fVar 0) (fLit (.int 4))) (fConsA (fSl (fVar 1) fNoPart (fPart (fLit (.int 4)))) fNilA))))))
  (fRet (fCall F_reduced (fConsA (fTup (fStarA (fVar 2) (fConsA (fOp gMul (fOp gIx (fVar 0) (fLit (.int 4))) (fOp gIx (fVar 1) (fLit (.int 4)))) fNilA))) fNilA))))))
def F_added : FnS := mkF 2 3 0 b_added
def b_times : FS := (fSeq (fDrop (fCall F_check_light (fConsA (fVar 0) fNilA)))
  (fSeq (fDrop (fCall F_check_positive_fraction (fConsA (fVar 1) fNilA)))
  (fRet (fCall F_reduced (fConsA (fTup (fStarA (fOfL (fLc (fIt (fSl (fVar 0) fNoPart (fPart (fLit (.int 4))))) (aName 2) fYes (fOp gMul (fOp gIx (fVar 1) (fLit (.int 0))) (fVar 2)) [2])) (fConsA (fOp gMul (fOp gIx (fVar 1) (fLit (.int 1))) (fOp gIx (fVar 0) (fLit (.int 4)))) fNilA))) fNilA)))))
def F_times : FnS := mkF 2 3 0 b_times
def c__DARK : PyData := (.tuple [(.int 0), (.int 0), (.int 0), (.int 0), (.int 1)])
def b_purity : FS := (fSeq (fDrop (fCall F_check_light (fConsA (fVar 0) fNilA)))
  (fSeq (fIfS (fTru (fOp gEq (fVar 0) (fLit c__DARK))) fNever fSkip)
  (fRet (fCall F_ratio (fConsA (fCall F_dot (fConsA (fSl (fVar 0) (fPart (fLit (.int 1))) (fPart (fLit (.int 4)))) (fConsA (fSl (fVar 0) (fPart (fLit (.int 1))) (fPart (fLit (.int 4)))) fNilA))) (fConsA (fOp gMul (fOp gIx (fVar 0) (fLit (.int 0))) (fOp gIx (fVar 0) (fLit (.int 0)))) fNilA))))))
def F_purity : FnS := mkF 1 1 0 b_purity
def b_kind_of : FS := (fSeq (fDrop (fCall F_check_light (fConsA (fVar 0) fNilA)))
  (fSeq (fIfS (fOrT (fTru (fOp gEq (fVar 0) (fLit c__DARK))) (fTru (fOp (gCmp fun i j => decide (j < i)) (fCall F_crossed (fConsA (fSl (fVar 0) fNoPart (fPart (fLit (.int 4)))) (fConsA (fSl (fVar 0) fNoPart (fPart (fLit (.int 4)))) fNilA))) (fLit (.int 0))))) (fRet (fLit .none)) fSkip)
  (fRet (fCall F_reduced (fConsA (fTup (fStarA (fSl (fVar 0) (fPart (fLit (.int 1))) (fPart (fLit (.int 4)))) (fConsA (fOp gIx (fVar 0) (fLit (.int 0))) fNilA))) fNilA)))))
def F_kind_of : FnS := mkF 1 1 0 b_kind_of
def b_pure_light : FS := (fSeq (fDrop (fCall F_check_kind (fConsA (fVar 0) fNilA)))
  (fRet (fTup (fConsA (fOp gIx (fVar 0) (fLit (.int 3))) (fConsA (fOp gIx (fVar 0) (fLit (.int 0))) (fConsA (fOp gIx (fVar 0) (fLit (.int 1))) (fConsA (fOp gIx (fVar 0) (fLit (.int 2))) (fConsA (fOp gIx (fVar 0) (fLit (.int 3))) fNilA))))))))
def F_pure_light : FnS := mkF 1 1 0 b_pure_light
def b_product : FS := (fSeq (fDrop (fCall F_check_light (fConsA (fVar 0) fNilA)))
  (fSeq (fDrop (fCall F_check_light (fConsA (fVar 1) fNilA)))
  (fRet (fCall F_ratio (fConsA (fCall F_crossed (fConsA (fSl (fVar 0) fNoPart (fPart (fLit (.int 4)))) (fConsA (fSl (fVar 1) fNoPart (fPart (fLit (.int 4)))) fNilA))) (fConsA (fOp gMul (fOp gIx (fVar 0) (fLit (.int 4))) (fOp gIx (fVar 1) (fLit (.int 4)))) fNilA))))))
def F_product : FnS := mkF 2 2 0 b_product
def b__law_tap : FS := (fSeq (fSet 2 (fOp gPlus (fLit (.int 20011)) (fOp gMul (fLit (.int 6121)) (fVar 1))))
  (fSeq (fFor (fIt (fSl (fVar 0) fNoPart (fPart (fLit (.int 63))))) (aName 3) (fSet 2 (fOp gMod (fBi gInt (fConsA (fOp gPlus (fOp gPlus (fOp gMul (fVar 2) (fLit (.int 30757))) (fOp gMod (fBi gInt (fConsA (fVar 3) fNilA)) (fLit (.int 681574421)))) (fLit (.int 41))) fNilA)) (fLit (.int 1000000409)))))
  (fSeq (fSet 4 (fIf (fTru (fOp (gCmp fun i j => decide (i < j)) (fVar 1) (fBi gLen (fConsA (fVar 0) fNilA)))) (fBi gInt (fConsA (fOp gIx (fVar 0) (fVar 1)) fNilA)) (fLit (.int 0))))
  (fRetL (fLst (fConsA (fIf (fTru (fOp (gCmp fun i j => decide (j ≤ i)) (fBi gAbs (fConsA (fVar 4) fNilA)) (fOp gPow (fLit (.int 10)) (fLit (.int 18))))) (fBi gAbs (fConsA (fVar 4) fNilA)) (fLit (.int 0))) (fConsA (fOp gMod (fBi gInt (fConsA (fOp gPlus (fVar 2) (fOp gMul (fLit (.int 5)) (fOp gMod (fBi gInt (fConsA (fVar 4) fNilA)) (fLit (.int 93199987))))) fNilA)) (fLit (.int 1000000409))) (fConsA (fLit (.int 0)) fNilA))))))))
def F__law_tap : FnS := mkF 2 5 0 b__law_tap
def b__law_from : FS := (fSeq (fIfS (fTru (fOp (gCmp fun i j => decide (j < i)) (fCix 0 (fLit (.int 0))) (fLit (.int 0)))) (fSeq (fSetc2 0 (fLit (.int 0)) 3 (fBi gDivmod (fConsA (fCix 0 (fLit (.int 0))) (fConsA (fVar 1) fNilA))))
  (fRet (fVar 3))) fSkip)
  (fSeq (fSetc 0 (fLit (.int 2)) (fOp gPlus (fCix 0 (fLit (.int 2))) (fLit (.int 1))))
  (fSeq (fSet 2 (fOp gMod (fBi gInt (fConsA (fOp gPlus (fOp gPlus (fCix 0 (fLit (.int 1))) (fOp gMul (fLit (.int 70657)) (fCix 0 (fLit (.int 2))))) (fLit (.int 13))) fNilA)) (fLit (.int 1000000409))))
  (fSeq (fSetc 0 (fLit (.int 1)) (fOp gMod (fBi gInt (fConsA (fOp gPlus (fOp gMul (fVar 2) (fOp gPlus (fOp gMod (fBi gInt (fConsA (fVar 2) fNilA)) (fLit (.int 6007))) (fLit (.int 17011)))) (fOp gMul (fLit (.int 19)) (fCix 0 (fLit (.int 2))))) fNilA)) (fLit (.int 1000000409))))
  (fRet (fOp gMod (fBi gInt (fConsA (fOp gDiv (fCix 0 (fLit (.int 1))) (fLit (.int 113))) fNilA)) (fVar 1)))))))
def F__law_from : FnS := mkF 2 4 1 b__law_from
def b__law_turns : FS := (fRet (fBi gMax (fConsA (fLit (.int 2)) (fConsA (fBi gMin (fConsA (fBi gLen (fConsA (fVar 0) fNilA)) (fConsA (fVar 1) fNilA))) fNilA))))
def F__law_turns : FnS := mkF 2 2 0 b__law_turns
def b__law_pick : FS := (fRet (fOp gIx (fVar 1) (fCall F__law_from (fCelA 0 (fConsA (fBi gLen (fConsA (fVar 1) fNilA)) fNilA)))))
def F__law_pick : FnS := mkF 2 2 1 b__law_pick
def b__law_low : FS := (fSeq (fSet 1 (fCall F__law_from (fCelA 0 (fConsA (fLit (.int 10)) fNilA))))
  (fSeq (fIfS (fTru (fOp (gCmp fun i j => decide (i < j)) (fVar 1) (fLit (.int 8)))) (fRet (fOp gSub (fCall F__law_from (fCelA 0 (fConsA (fLit (.int 7)) fNilA))) (fLit (.int 3)))) fSkip)
  (fRet (fIf (fTru (fOp gEq (fVar 1) (fLit (.int 8)))) (fOp gSub (fCall F__law_from (fCelA 0 (fConsA (fLit (.int 25)) fNilA))) (fLit (.int 12))) (fOp gSub (fCall F__law_from (fCelA 0 (fConsA (fLit (.int 199)) fNilA))) (fLit (.int 99)))))))
def F__law_low : FnS := mkF 1 2 1 b__law_low
def b__law_common : FS := (fSeq (fSet 1 (fLit (.int 0)))
  (fSeq (fFor (fIt (fVar 0)) (aName 2) (fSeq (fPar 4 5 (fConsA (fVar 1) (fConsA (fBi gAbs (fConsA (fVar 2) fNilA)) fNilA)))
  (fSeq (fFor (fRng1 (fConsA (fLit (.int 3000)) fNilA)) (aName 3) (fSeq (fIfS (fTru (fOp gEq (fVar 5) (fLit (.int 0)))) (fun st => some (.bk st)) fSkip)
  (fPar 4 5 (fConsA (fVar 5) (fConsA (fOp gMod (fBi gInt (fConsA (fVar 4) fNilA)) (fVar 5)) fNilA)))))
  (fSet 1 (fVar 4)))))
  (fRet (fVar 1))))
def F__law_common : FnS := mkF 1 6 0 b__law_common
def b__law_least : FS := (fSeq (fSet 1 (fBi gMax (fConsA (fLit (.int 1)) (fConsA (fCall F__law_common (fConsA (fVar 0) fNilA)) fNilA))))
  (fRet (fBi gTuple (fConsA (fOfL (fLc (fIt (fVar 0)) (aName 2) fYes (fOp gDiv (fVar 2) (fVar 1)) [2])) fNilA))))
def F__law_least : FnS := mkF 1 3 0 b__law_least
def b__law_ratio : FS := (fSeq (fAsg (aTup 2 (aCons (aName 2) (aCons (aName 3) aNil))) (fCall F__law_least (fConsA (fTup (fConsA (fVar 0) (fConsA (fVar 1) fNilA))) fNilA)))
  (fRet (fIf (fTru (fOp (gCmp fun i j => decide (j < i)) (fVar 3) (fLit (.int 0)))) (fTup (fConsA (fVar 2) (fConsA (fVar 3) fNilA))) (fTup (fConsA (fOp gSub (fLit (.int 0)) (fVar 2)) (fConsA (fOp gSub (fLit (.int 0)) (fVar 3)) fNilA))))))
def F__law_ratio : FnS := mkF 2 4 0 b__law_ratio
def b__law_plus : FS := (fRet (fCall F__law_ratio (fConsA (fOp gPlus (fOp gMul (fOp gIx (fVar 0) (fLit (.int 0))) (fOp gIx (fVar 1) (fLit (.int 1)))) (fOp gMul (fOp gIx (fVar 1) (fLit (.int 0))) (fOp gIx (fVar 0) (fLit (.int 1))))) (fConsA (fOp gMul (fOp gIx (fVar 0) (fLit (.int 1))) (fOp gIx (fVar 1) (fLit (.int 1)))) fNilA))))
def F__law_plus : FnS := mkF 2 2 0 b__law_plus
def b__law_by : FS := (fRet (fCall F__law_ratio (fConsA (fOp gMul (fOp gIx (fVar 0) (fLit (.int 0))) (fOp gIx (fVar 1) (fLit (.int 0)))) (fConsA (fOp gMul (fOp gIx (fVar 0) (fLit (.int 1))) (fOp gIx (fVar 1) (fLit (.int 1)))) fNilA))))
def F__law_by : FnS := mkF 2 2 0 b__law_by
def b__law_root : FS := (fSeq (fAsg (aTup 2 (aCons (aName 2) (aCons (aName 3) aNil))) (fTup (fConsA (fLit (.int 0)) (fConsA (fLit (.int 1)) fNilA))))
  (fSeq (fFor (fRng1 (fConsA (fLit (.int 600)) fNilA)) (aName 1) (fSeq (fIfS (fTru (fOp (gCmp fun i j => decide (j < i)) (fOp gMul (fVar 3) (fVar 3)) (fVar 0))) (fun st => some (.bk st)) fSkip)
  (fSet 3 (fOp gMul (fVar 3) (fLit (.int 2))))))
  (fSeq (fFor (fRng1 (fConsA (fLit (.int 600)) fNilA)) (aName 1) (fSeq (fIfS (fTru (fOp (gCmp fun i j => decide (i < j)) (fOp gSub (fVar 3) (fVar 2)) (fLit (.int 2)))) (fun st => some (.bk st)) fSkip)
  (fSeq (fSet 4 (fOp gDiv (fOp gPlus (fVar 2) (fVar 3)) (fLit (.int 2))))
  (fIfS (fTru (fOp (gCmp fun i j => decide (j < i)) (fOp gMul (fVar 4) (fVar 4)) (fVar 0))) (fSet 3 (fVar 4)) (fSet 2 (fVar 4))))))
  (fRet (fVar 2)))))
def F__law_root : FnS := mkF 1 5 0 b__law_root
def b__law_are_whole : FS := (fRet (fOp gEq (fOfL (fLc (fIt (fVar 0)) (aName 1) (fOrT (fNotT (fTru (fUn (gIsi "int") (fVar 1)))) (fTru (fUn (gIsi "bool") (fVar 1)))) (fVar 1) [1])) (fOfL (fLst fNilA))))
def F__law_are_whole : FnS := mkF 1 2 0 b__law_are_whole
def b__law_is_row : FS := (fRet (fAndV (fUn (gIsi "tuple") (fVar 0)) (fAndV (fOp gEq (fBi gLen (fConsA (fVar 0) fNilA)) (fVar 1)) (fAndV (fCall F__law_are_whole (fConsA (fVar 0) fNilA)) (fOp gEq (fCall F__law_common (fConsA (fVar 0) fNilA)) (fLit (.int 1)))))))
def F__law_is_row : FnS := mkF 2 2 0 b__law_is_row
def b__law_cone : FS := (fSeq (fAsg (aTup 4 (aCons (aName 1) (aCons (aName 2) (aCons (aName 3) (aCons (aName 4) aNil))))) (fSl (fVar 0) fNoPart (fPart (fLit (.int 4)))))
  (fRet (fOp gSub (fOp gSub (fOp gSub (fOp gMul (fVar 1) (fVar 1)) (fOp gMul (fVar 2) (fVar 2))) (fOp gMul (fVar 3) (fVar 3))) (fOp gMul (fVar 4) (fVar 4)))))
def F__law_cone : FnS := mkF 1 5 0 b__law_cone
def b__law_is_shine : FS := (fRet (fAndV (fCall F__law_is_row (fConsA (fVar 0) (fConsA (fLit (.int 5)) fNilA))) (fAndV (fOp (gCmp fun i j => decide (j < i)) (fOp gIx (fVar 0) (fLit (.int 4))) (fLit (.int 0))) (fAndV (fOp (gCmp fun i j => decide (j ≤ i)) (fOp gIx (fVar 0) (fLit (.int 0))) (fLit (.int 0))) (fOp (gCmp fun i j => decide (j ≤ i)) (fCall F__law_cone (fConsA (fVar 0) fNilA)) (fLit (.int 0)))))))
def F__law_is_shine : FnS := mkF 1 1 0 b__law_is_shine
def b__law_dot : FS := (fRet (fBi gSum (fConsA (fOfL (fLc (fZip (fConsA (fVar 0) (fConsA (fVar 1) fNilA))) (aTup 2 (aCons (aName 2) (aCons (aName 3) aNil))) fYes (fOp gMul (fVar 2) (fVar 3)) [2, 3])) fNilA)))
def F__law_dot : FnS := mkF 2 4 0 b__law_dot
def b__law_hue : FS := (fSeq (fSet 1 (fCall F__law_from (fCelA 0 (fConsA (fLit (.int 9)) fNilA))))
  (fSeq (fIfS (fTru (fOp (gCmp fun i j => decide (i < j)) (fVar 1) (fLit (.int 6)))) (fRet (fOp gIx (fOfL (fLst (fConsA (fTup (fConsA (fLit (.int 1)) (fConsA (fLit (.int 0)) (fConsA (fLit (.int 0)) (fConsA (fLit (.int 1)) fNilA))))) (fConsA (fTup (fConsA (fUn gNeg (fLit (.int 1))) (fConsA (fLit (.int 0)) (fConsA (fLit (.int 0)) (fConsA (fLit (.int 1)) fNilA))))) (fConsA (fTup (fConsA (fLit (.int 0)) (fConsA (fLit (.int 1)) (fConsA (fLit (.int 0)) (fConsA (fLit (.int 1)) fNilA))))) (fConsA (fTup (fConsA (fLit (.int 0)) (fConsA (fUn gNeg (fLit (.int 1))) (fConsA (fLit (.int 0)) (fConsA (fLit (.int 1)) fNilA))))) (fConsA (fTup (fConsA (fLit (.int 0)) (fConsA (fLit (.int 0)) (fConsA (fLit (.int 1)) (fConsA (fLit (.int 1)) fNilA))))) (fConsA (fTup (fConsA (fLit (.int 0)) (fConsA (fLit (.int 0)) (fConsA (fUn gNeg (fLit (.int 1))) (fConsA (fLit (.int 1)) fNilA))))) fNilA)))))))) (fVar 1))) fSkip)
  (fSeq (fSet 2 (fCall F__law_pick (fCelA 0 (fConsA (fTup (fConsA (fLit (.int 2)) (fConsA (fLit (.int 2)) (fConsA (fLit (.int 5)) fNilA)))) fNilA))))
  (fSeq (fPar 4 5 (fConsA (fOp gSub (fCall F__law_from (fCelA 0 (fConsA (fOp gPlus (fOp gMul (fLit (.int 2)) (fVar 2)) (fLit (.int 1))) fNilA))) (fVar 2)) (fConsA (fOp gSub (fCall F__law_from (fCelA 0 (fConsA (fOp gPlus (fOp gMul (fLit (.int 2)) (fVar 2)) (fLit (.int 1))) fNilA))) (fVar 2)) fNilA)))
  (fSeq (fSet 3 (fOp gPlus (fLit (.int 1)) (fCall F__law_from (fCelA 0 (fConsA (fVar 2) fNilA)))))
  (fRet (fCall F__law_least (fConsA (fTup (fConsA (fOp gMul (fOp gMul (fLit (.int 2)) (fVar 4)) (fVar 3)) (fConsA (fOp gMul (fOp gMul (fLit (.int 2)) (fVar 5)) (fVar 3)) (fConsA (fOp gSub (fOp gSub (fOp gMul (fVar 3) (fVar 3)) (fOp gMul (fVar 4) (fVar 4))) (fOp gMul (fVar 5) (fVar 5))) (fConsA (fOp gPlus (fOp gPlus (fOp gMul (fVar 3) (fVar 3)) (fOp gMul (fVar 4) (fVar 4))) (fOp gMul (fVar 5) (fVar 5))) fNilA))))) fNilA))))))))
def F__law_hue : FnS := mkF 1 6 1 b__law_hue
def b__law_shine : FS := (fSeq (fPar 5 6 (fConsA (fCall F__law_from (fCelA 0 (fConsA (fLit (.int 9)) fNilA))) (fConsA (fOp gPlus (fLit (.int 1)) (fCall F__law_from (fCelA 0 (fConsA (fCall F__law_pick (fCelA 0 (fConsA (fTup (fConsA (fLit (.int 1)) (fConsA (fLit (.int 3)) (fConsA (fLit (.int 3)) (fConsA (fLit (.int 20)) fNilA))))) fNilA))) fNilA)))) fNilA)))
  (fSeq (fIfS (fTru (fOp gEq (fVar 5) (fLit (.int 0)))) (fRet (fTup (fConsA (fLit (.int 0)) (fConsA (fLit (.int 0)) (fConsA (fLit (.int 0)) (fConsA (fLit (.int 0)) (fConsA (fLit (.int 1)) fNilA))))))) fSkip)
  (fSeq (fIfS (fTru (fOp gEq (fVar 5) (fLit (.int 1)))) (fRet (fCall F__law_least (fConsA (fTup (fConsA (fOp gPlus (fLit (.int 1)) (fCall F__law_from (fCelA 0 (fConsA (fLit (.int 5)) fNilA)))) (fConsA (fLit (.int 0)) (fConsA (fLit (.int 0)) (fConsA (fLit (.int 0)) (fConsA (fVar 6) fNilA)))))) fNilA))) fSkip)
  (fSeq (fIfS (fTru (fOp (gCmp fun i j => decide (i < j)) (fVar 5) (fLit (.int 5)))) (fSeq (fPar 7 8 (fConsA (fCall F__law_hue (fCelA 0 fNilA)) (fConsA (fOp gPlus (fLit (.int 1)) (fCall F__law_from (fCelA 0 (fConsA (fLit (.int 4)) fNilA)))) fNilA)))
  (fRet (fCall F__law_least (fConsA (fTup (fConsA (fOp gMul (fVar 8) (fOp gIx (fVar 7) (fLit (.int 3)))) (fConsA (fOp gMul (fVar 8) (fOp gIx (fVar 7) (fLit (.int 0)))) (fConsA (fOp gMul (fVar 8) (fOp gIx (fVar 7) (fLit (.int 1)))) (fConsA (fOp gMul (fVar 8) (fOp gIx (fVar 7) (fLit (.int 2)))) (fConsA (fVar 6) fNilA)))))) fNilA)))) fSkip)
  (fSeq (fSet 1 (fTup (fConsA (fCall F__law_low (fCelA 0 fNilA)) (fConsA (fCall F__law_low (fCelA 0 fNilA)) (fConsA (fCall F__law_low (fCelA 0 fNilA)) fNilA)))))
  (fSeq (fSet 2 (fCall F__law_dot (fConsA (fVar 1) (fConsA (fVar 1) fNilA))))
  (fSeq (fSet 3 (fCall F__law_root (fConsA (fVar 2) fNilA)))
  (fSeq (fSet 4 (fOp gPlus (fOp gPlus (fVar 3) (fBi gInt (fConsA (fOp (gCmp fun i j => decide (i < j)) (fOp gMul (fVar 3) (fVar 3)) (fVar 2)) fNilA))) (fCall F__law_pick (fCelA 0 (fConsA (fTup (fConsA (fLit (.int 0)) (fConsA (fLit (.int 0)) (fConsA (fLit (.int 1)) (fConsA (fLit (.int 2)) (fConsA (fLit (.int 9)) fNilA)))))) fNilA)))))
  (fRet (fCall F__law_least (fConsA (fOp gPlus (fOp gPlus (fTup (fConsA (fVar 4) fNilA)) (fVar 1)) (fTup (fConsA (fVar 6) fNilA))) fNilA)))))))))))
def F__law_shine : FnS := mkF 1 9 1 b__law_shine
def b__law_lit : FS := (fSeq (fSet 1 (fCall F__law_shine (fCelA 0 fNilA)))
  (fRet (fIf (fTru (fOp (gCmp fun i j => decide (j < i)) (fOp gIx (fVar 1) (fLit (.int 0))) (fLit (.int 0)))) (fVar 1) (fTup (fConsA (fOp gPlus (fLit (.int 1)) (fCall F__law_from (fCelA 0 (fConsA (fLit (.int 3)) fNilA)))) (fConsA (fLit (.int 1)) (fConsA (fLit (.int 0)) (fConsA (fLit (.int 0)) (fConsA (fLit (.int 1)) fNilA)))))))))
def F__law_lit : FnS := mkF 1 2 1 b__law_lit
def b__law_eye : FS := (fSeq (fSet 1 (fCall F__law_lit (fCelA 0 fNilA)))
  (fRet (fCall F__law_least (fConsA (fSl (fVar 1) fNoPart (fPart (fLit (.int 4)))) fNilA))))
def F__law_eye : FnS := mkF 1 2 1 b__law_eye
def b__law_level : FS := (fSeq (fPar 2 3 (fConsA (fCall F__law_from (fCelA 0 (fConsA (fLit (.int 6)) fNilA))) (fConsA (fCall F__law_from (fCelA 0 (fConsA (fCall F__law_pick (fCelA 0 (fConsA (fTup (fConsA (fLit (.int 5)) (fConsA (fLit (.int 12)) (fConsA (fLit (.int 200)) fNilA)))) fNilA))) fNilA))) fNilA)))
  (fSeq (fSet 1 (fOp gPlus (fLit (.int 1)) (fCall F__law_from (fCelA 0 (fConsA (fCall F__law_pick (fCelA 0 (fConsA (fTup (fConsA (fLit (.int 1)) (fConsA (fLit (.int 4)) (fConsA (fLit (.int 20)) fNilA)))) fNilA))) fNilA)))))
  (fSeq (fIfS (fTru (fOp (gCmp fun i j => decide (i < j)) (fVar 2) (fLit (.int 2)))) (fRet (fCall F__law_ratio (fConsA (fOp gMul (fVar 3) (fVar 3)) (fConsA (fOp gMul (fVar 1) (fVar 1)) fNilA)))) fSkip)
  (fRet (fIf (fTru (fOp gEq (fVar 2) (fLit (.int 2)))) (fCall F__law_ratio (fConsA (fOp gPlus (fOp gMul (fVar 3) (fVar 3)) (fCall F__law_from (fCelA 0 (fConsA (fLit (.int 3)) fNilA)))) (fConsA (fOp gMul (fVar 1) (fVar 1)) fNilA))) (fCall F__law_ratio (fConsA (fVar 3) (fConsA (fVar 1) fNilA))))))))
def F__law_level : FnS := mkF 1 4 1 b__law_level
def b__law_kin : FS := (fSeq (fPar 3 4 (fConsA (fCall F_kind_of (fConsA (fVar 1) fNilA)) (fConsA (fCall F__law_from (fCelA 0 (fConsA (fLit (.int 4)) fNilA))) fNilA)))
  (fSeq (fIfS (fOrT (fTru (fOp gIsN (fVar 3) (fLit .none))) (fTru (fOp (gCmp fun i j => decide (j < i)) (fVar 4) (fLit (.int 1))))) (fRet (fCall F__law_shine (fCelA 0 fNilA))) fSkip)
  (fSeq (fSet 2 (fIf (fTru (fOp gEq (fVar 4) (fLit (.int 0)))) (fTup (fConsA (fOp gIx (fVar 3) (fLit (.int 3))) (fConsA (fOp gIx (fVar 3) (fLit (.int 0))) (fConsA (fOp gIx (fVar 3) (fLit (.int 1))) (fConsA (fOp gIx (fVar 3) (fLit (.int 2))) fNilA))))) (fTup (fConsA (fOp gIx (fVar 3) (fLit (.int 3))) (fConsA (fOp gSub (fLit (.int 0)) (fOp gIx (fVar 3) (fLit (.int 0)))) (fConsA (fOp gSub (fLit (.int 0)) (fOp gIx (fVar 3) (fLit (.int 1)))) (fConsA (fOp gSub (fLit (.int 0)) (fOp gIx (fVar 3) (fLit (.int 2)))) fNilA)))))))
  (fSeq (fAsg (aTup 2 (aCons (aName 5) (aCons (aName 6) aNil))) (fTup (fConsA (fOp gPlus (fLit (.int 1)) (fCall F__law_from (fCelA 0 (fConsA (fLit (.int 4)) fNilA)))) (fConsA (fOp gPlus (fLit (.int 1)) (fCall F__law_from (fCelA 0 (fConsA (fLit (.int 6)) fNilA)))) fNilA))))
  (fRet (fCall F__law_least (fConsA (fOp gPlus (fBi gTuple (fConsA (fOfL (fLc (fIt (fVar 2)) (aName 7) fYes (fOp gMul (fVar 5) (fVar 7)) [7])) fNilA)) (fTup (fConsA (fVar 6) fNilA))) fNilA)))))))
def F__law_kin : FnS := mkF 2 8 1 b__law_kin
def b__law_sum : FS := (fSeq (fSet 2 (fOfL (fLc (fZip (fConsA (fSl (fVar 0) fNoPart (fPart (fLit (.int 4)))) (fConsA (fSl (fVar 1) fNoPart (fPart (fLit (.int 4)))) fNilA))) (aTup 2 (aCons (aName 3) (aCons (aName 4) aNil))) fYes (fOp gPlus (fOp gMul (fVar 3) (fOp gIx (fVar 1) (fLit (.int 4)))) (fOp gMul (fVar 4) (fOp gIx (fVar 0) (fLit (.int 4))))) [3, 4])))
  (fRet (fCall F__law_least (fConsA (fOp gPlus (fVar 2) (fOfL (fLst (fConsA (fOp gMul (fOp gIx (fVar 0) (fLit (.int 4))) (fOp gIx (fVar 1) (fLit (.int 4)))) fNilA)))) fNilA))))
def F__law_sum : FnS := mkF 2 5 0 b__law_sum
def b__law_inner : FS := (fRet (fCall F__law_ratio (fConsA (fOp gSub (fOp gMul (fOp gIx (fVar 0) (fLit (.int 0))) (fOp gIx (fVar 1) (fLit (.int 0)))) (fCall F__law_dot (fConsA (fSl (fVar 0) (fPart (fLit (.int 1))) (fPart (fLit (.int 4)))) (fConsA (fSl (fVar 1) (fPart (fLit (.int 1))) (fPart (fLit (.int 4)))) fNilA)))) (fConsA (fOp gMul (fOp gIx (fVar 0) (fLit (.int 4))) (fOp gIx (fVar 1) (fLit (.int 4)))) fNilA))))
def F__law_inner : FnS := mkF 2 2 0 b__law_inner
def b__law_pair_right : FS := (fSeq (fPar 3 4 (fConsA (fCall F_added (fConsA (fVar 0) (fConsA (fVar 1) fNilA))) (fConsA (fCall F_product (fConsA (fVar 0) (fConsA (fVar 1) fNilA))) fNilA)))
  (fSeq (fIfS (fOrT (fNotT (fTru (fCall F__law_is_shine (fConsA (fVar 3) fNilA)))) (fTru (fOp gNe (fBi gRepr (fConsA (fOfL (fLst (fConsA (fVar 3) (fConsA (fCall F_added (fConsA (fVar 1) (fConsA (fVar 0) fNilA))) fNilA)))) fNilA)) (fBi gRepr (fConsA (fRep (fLst (fConsA (fCall F__law_sum (fConsA (fVar 0) (fConsA (fVar 1) fNilA))) fNilA)) (fLit (.int 2))) fNilA))))) (fRet (fLit (.bool false))) fSkip)
  (fSeq (fIfS (fOrT (fTru (fOp gNe (fBi gRepr (fConsA (fOfL (fLst (fConsA (fVar 4) (fConsA (fCall F_product (fConsA (fVar 1) (fConsA (fVar 0) fNilA))) fNilA)))) fNilA)) (fBi gRepr (fConsA (fRep (fLst (fConsA (fCall F__law_inner (fConsA (fVar 0) (fConsA (fVar 1) fNilA))) fNilA)) (fLit (.int 2))) fNilA)))) (fTru (fOp (gCmp fun i j => decide (i < j)) (fOp gIx (fVar 4) (fLit (.int 0))) (fLit (.int 0))))) (fRet (fLit (.bool false))) fSkip)
  (fSeq (fSet 2 (fOfL (fLst (fConsA (fCall F_kind_of (fConsA (fVar 0) fNilA)) (fConsA (fCall F_kind_of (fConsA (fVar 1) fNilA)) fNilA)))))
  (fRet (fOp gEq (fOp gEq (fOp gIx (fVar 4) (fLit (.int 0))) (fLit (.int 0))) (fOrV (fOp gEq (fOp gIx (fVar 0) (fLit (.int 0))) (fLit (.int 0))) (fOrV (fOp gEq (fOp gIx (fVar 1) (fLit (.int 0))) (fLit (.int 0))) (fAndV (fOp gNotN (fOp gIx (fVar 2) (fLit (.int 0))) (fLit .none)) (fOp gEq (fOp gIx (fVar 2) (fLit (.int 0))) (fOp gIx (fVar 2) (fLit (.int 1)))))))))))))
def F__law_pair_right : FnS := mkF 2 5 0 b__law_pair_right
def b__law_times_right : FS := (fSeq (fSet 2 (fCall F_times (fConsA (fVar 0) (fConsA (fVar 1) fNilA))))
  (fSeq (fSet 3 (fOp gPlus (fOfL (fLc (fIt (fSl (fVar 0) fNoPart (fPart (fLit (.int 4))))) (aName 4) fYes (fOp gMul (fOp gIx (fVar 1) (fLit (.int 0))) (fVar 4)) [4])) (fOfL (fLst (fConsA (fOp gMul (fOp gIx (fVar 1) (fLit (.int 1))) (fOp gIx (fVar 0) (fLit (.int 4)))) fNilA)))))
  (fSeq (fIfS (fOrT (fNotT (fTru (fCall F__law_is_shine (fConsA (fVar 2) fNilA)))) (fTru (fOp gNe (fBi gRepr (fConsA (fOfL (fLst (fConsA (fVar 2) (fConsA (fCall F_times (fConsA (fVar 0) (fConsA (fVar 1) fNilA))) fNilA)))) fNilA)) (fBi gRepr (fConsA (fRep (fLst (fConsA (fCall F__law_least (fConsA (fVar 3) fNilA)) fNilA)) (fLit (.int 2))) fNilA))))) (fRet (fLit (.bool false))) fSkip)
  (fSeq (fIfS (fOrT (fTru (fOp gEq (fOp gIx (fVar 1) (fLit (.int 0))) (fLit (.int 0)))) (fTru (fOp gEq (fOp gIx (fVar 0) (fLit (.int 0))) (fLit (.int 0))))) (fRet (fOp gEq (fVar 2) (fTup (fConsA (fLit (.int 0)) (fConsA (fLit (.int 0)) (fConsA (fLit (.int 0)) (fConsA (fLit (.int 0)) (fConsA (fLit (.int 1)) fNilA)))))))) fSkip)
  (fRet (fOp gEq (fBi gRepr (fConsA (fOfL (fLst (fConsA (fCall F_kind_of (fConsA (fVar 2) fNilA)) (fConsA (fCall F_purity (fConsA (fVar 2) fNilA)) fNilA)))) fNilA)) (fBi gRepr (fConsA (fOfL (fLst (fConsA (fCall F_kind_of (fConsA (fVar 0) fNilA)) (fConsA (fCall F_purity (fConsA (fVar 0) fNilA)) fNilA)))) fNilA))))))))
def F__law_times_right : FnS := mkF 2 5 0 b__law_times_right
def b__law_right : FS := (fSeq (fSet 1 (fCall F__law_shine (fCelA 0 fNilA)))
  (fSeq (fPar 5 6 (fConsA (fCall F__law_kin (fCelA 0 (fConsA (fVar 1) fNilA))) (fConsA (fCall F__law_kin (fCelA 0 (fConsA (fVar 1) fNilA))) fNilA)))
  (fSeq (fPar 7 8 (fConsA (fCall F__law_level (fCelA 0 fNilA)) (fConsA (fCall F__law_eye (fCelA 0 fNilA)) fNilA)))
  (fSeq (fFor (fIt (fOfL (fLst (fConsA (fTup (fConsA (fVar 1) (fConsA (fVar 5) fNilA))) (fConsA (fTup (fConsA (fVar 5) (fConsA (fVar 6) fNilA))) (fConsA (fTup (fConsA (fVar 1) (fConsA (fVar 1) fNilA))) (fConsA (fTup (fConsA (fVar 6) (fConsA (fTup (fConsA (fLit (.int 0)) (fConsA (fLit (.int 0)) (fConsA (fLit (.int 0)) (fConsA (fLit (.int 0)) (fConsA (fLit (.int 1)) fNilA)))))) fNilA))) fNilA))))))) (aTup 2 (aCons (aName 9) (aCons (aName 10) aNil))) (fIfS (fNotT (fTru (fCall F__law_pair_right (fConsA (fVar 9) (fConsA (fVar 10) fNilA))))) (fRet (fLit (.bool false))) fSkip))
  (fSeq (fIfS (fOrT (fNotT (fTru (fCall F__law_times_right (fConsA (fVar 1) (fConsA (fVar 7) fNilA))))) (fNotT (fTru (fCall F__law_times_right (fConsA (fVar 6) (fConsA (fTup (fConsA (fLit (.int 1)) (fConsA (fLit (.int 1)) fNilA))) fNilA)))))) (fRet (fLit (.bool false))) fSkip)
  (fSeq (fIfS (fNotT (fTru (fCall F__law_times_right (fConsA (fVar 5) (fConsA (fTup (fConsA (fLit (.int 0)) (fConsA (fLit (.int 1)) fNilA))) fNilA))))) (fRet (fLit (.bool false))) fSkip)
  (fSeq (fIfS (fTru (fOp gNe (fBi gRepr (fConsA (fCall F_added (fConsA (fCall F_added (fConsA (fVar 1) (fConsA (fVar 5) fNilA))) (fConsA (fVar 6) fNilA))) fNilA)) (fBi gRepr (fConsA (fCall F_added (fConsA (fVar 1) (fConsA (fCall F_added (fConsA (fVar 5) (fConsA (fVar 6) fNilA))) fNilA))) fNilA)))) (fRet (fLit (.bool false))) fSkip)
  (fSeq (fSet 2 (fCall F__law_plus (fConsA (fCall F_product (fConsA (fVar 1) (fConsA (fVar 6) fNilA))) (fConsA (fCall F_product (fConsA (fVar 5) (fConsA (fVar 6) fNilA))) fNilA))))
  (fSeq (fIfS (fTru (fOp gNe (fBi gRepr (fConsA (fCall F_product (fConsA (fCall F_added (fConsA (fVar 1) (fConsA (fVar 5) fNilA))) (fConsA (fVar 6) fNilA))) fNilA)) (fBi gRepr (fConsA (fVar 2) fNilA)))) (fRet (fLit (.bool false))) fSkip)
  (fSeq (fIfS (fTru (fOp gNe (fBi gRepr (fConsA (fCall F_product (fConsA (fCall F_times (fConsA (fVar 1) (fConsA (fVar 7) fNilA))) (fConsA (fVar 5) fNilA))) fNilA)) (fBi gRepr (fConsA (fCall F__law_by (fConsA (fVar 7) (fConsA (fCall F_product (fConsA (fVar 1) (fConsA (fVar 5) fNilA))) fNilA))) fNilA)))) (fRet (fLit (.bool false))) fSkip)
  (fSeq (fSet 3 (fCall F__law_plus (fConsA (fCall F_read_level (fConsA (fVar 8) (fConsA (fVar 1) fNilA))) (fConsA (fCall F_read_level (fConsA (fVar 8) (fConsA (fVar 5) fNilA))) fNilA))))
  (fSeq (fIfS (fTru (fOp gNe (fBi gRepr (fConsA (fCall F_read_level (fConsA (fVar 8) (fConsA (fCall F_added (fConsA (fVar 1) (fConsA (fVar 5) fNilA))) fNilA))) fNilA)) (fBi gRepr (fConsA (fVar 3) fNilA)))) (fRet (fLit (.bool false))) fSkip)
  (fSeq (fSet 4 (fCall F__law_hue (fCelA 0 fNilA)))
  (fSeq (fIfS (fTru (fOp gNe (fBi gRepr (fConsA (fCall F_product (fConsA (fCall F_pure_light (fConsA (fVar 4) fNilA)) (fConsA (fCall F_pure_light (fConsA (fVar 4) fNilA)) fNilA))) fNilA)) (fBi gRepr (fConsA (fTup (fConsA (fLit (.int 0)) (fConsA (fLit (.int 1)) fNilA))) fNilA)))) (fRet (fLit (.bool false))) fSkip)
  (fRet (fOp gEq (fBi gRepr (fConsA (fCall F_added (fConsA (fVar 1) (fConsA (fTup (fConsA (fLit (.int 0)) (fConsA (fLit (.int 0)) (fConsA (fLit (.int 0)) (fConsA (fLit (.int 0)) (fConsA (fLit (.int 1)) fNilA)))))) fNilA))) fNilA)) (fBi gRepr (fConsA (fVar 1) fNilA))))))))))))))))))
def F__law_right : FnS := mkF 1 11 1 b__law_right
def b_law : FS := (fRet (fBi gAll (fConsA (fOfL (fLc (fRng1 (fConsA (fCall F__law_turns (fConsA (fVar 0) (fConsA (fLit (.int 4)) fNilA))) fNilA)) (aName 1) fYes (fCallFr F__law_right (fCallL F__law_tap (fConsA (fVar 0) (fConsA (fVar 1) fNilA)))) [1])) fNilA)))
def F_law : FnS := mkF 1 2 0 b_law
end PL


set_option Elab.async false
set_option linter.all false
set_option maxRecDepth 100000
set_option maxHeartbeats 400000
set_option exponentiation.threshold 20000
namespace PL
open PySem PySem.Spec L2 DL
local macro_rules | `(tactic| simp! [$as,*]) => `(tactic| simp only [fThaw, fThawT, fThawL, thawD, thawO, noL, noLAll, fAug, gAug, fRev, fFnA, fCallV, fBot, fZip, zipD, gSum, intsOf, List.foldl_cons, List.foldl_nil, mkF, fRet, fRetL, fRetN, fSkip, fSeq, fNever, fSet, fAsg, fNew, fIfS, fDrop, fPar, fPar3, fSetc, fSetc2, fVar, fLit, fOp, fUn, fTup, fTup.datsOf, fLst, fNilA, fConsA, fStarA, fCelA, fOfL, fTru, fAndT, fOrT, fNotT, fAndV, fOrV, fNotV, fIf, fBi, fCall, fCallL, fCallFr, fPerm, callF, celOf, celsOk, norm, aName, aNil, aCons, aTup, setD, fSl, fIt, fItL, fItT, fFor, forGo, fLc, lcGo, fYes, wipeD, fCix, fList, fSlL, fPart, fNoPart, fChain, List.length_cons, List.length_nil, List.getElem?_cons_zero, List.getElem?_cons_succ, List.getElem?_nil, List.set_cons_zero, List.set_cons_succ, List.map_cons, List.map_nil, List.cons_append, List.nil_append, List.append_nil, List.replicate, List.take_zero, List.take_nil, List.take_succ_cons, ↓bsome, ↓msome, Option.bind_some, Option.map_some, Option.bind_none, Option.map_none, Nat.sub_self, Int.cast_ofNat_Int, Nat.reduceAdd, Nat.reduceMul, Nat.reduceSub, Nat.reduceLeDiff, Nat.reduceLT, Nat.zero_add, Nat.add_zero, and_self, and_true, true_and, if_true, if_false, ↓reduceIte, ite_true, Bool.true_eq_false, Bool.false_eq_true, beq_self_eq_true, Bool.and_self, Bool.not_true, Bool.not_false, decide_true, decide_false, gLen, gTyIs, gTyNot, tyOf, gNeg, gPlus, DL.gSub, gCmp, gInt, gAbs, gTuple, gMax, gMin, gGcd, LIM, gIx, $as,*])
local macro_rules | `(tactic| simpa! [$as,*]) => `(tactic| simp (maxDischargeDepth := 40) only [fThaw, fThawT, fThawL, thawD, thawO, noL, noLAll, fAug, gAug, fRev, fFnA, fCallV, fBot, fZip, zipD, gSum, intsOf, List.foldl_cons, List.foldl_nil, mkF, fRet, fRetL, fRetN, fSkip, fSeq, fNever, fSet, fAsg, fNew, fIfS, fDrop, fPar, fPar3, fSetc, fSetc2, fVar, fLit, fOp, fUn, fTup, fTup.datsOf, fLst, fNilA, fConsA, fStarA, fCelA, fOfL, fTru, fAndT, fOrT, fNotT, fAndV, fOrV, fNotV, fIf, fBi, fCall, fCallL, fCallFr, fPerm, callF, celOf, celsOk, norm, aName, aNil, aCons, aTup, setD, fSl, fIt, fItL, fItT, fFor, forGo, fLc, lcGo, fYes, wipeD, fCix, fList, fSlL, fPart, fNoPart, fChain, List.length_cons, List.length_nil, List.getElem?_cons_zero, List.getElem?_cons_succ, List.getElem?_nil, List.set_cons_zero, List.set_cons_succ, List.map_cons, List.map_nil, List.cons_append, List.nil_append, List.append_nil, List.replicate, List.take_zero, List.take_nil, List.take_succ_cons, ↓bsome, ↓msome, Option.bind_some, Option.map_some, Option.bind_none, Option.map_none, Nat.sub_self, Int.cast_ofNat_Int, Nat.reduceAdd, Nat.reduceMul, Nat.reduceSub, Nat.reduceLeDiff, Nat.reduceLT, Nat.zero_add, Nat.add_zero, and_self, and_true, true_and, if_true, if_false, ↓reduceIte, ite_true, Bool.true_eq_false, Bool.false_eq_true, beq_self_eq_true, Bool.and_self, Bool.not_true, Bool.not_false, decide_true, decide_false, gLen, gTyIs, gTyNot, tyOf, gNeg, gPlus, DL.gSub, gCmp, gInt, gAbs, gTuple, gMax, gMin, gGcd, LIM, gIx, ix1_0, ix2_0, ix2_1, ix3_0, ix3_1, ix3_2, ix4_0, ix4_1, ix4_2, ix4_3, ix5_0, ix5_1, ix5_2, ix5_3, ix5_4, ix6_0, ix6_1, ix6_2, ix6_3, ix6_4, ix6_5, cut5_04, cut5_14, cut4_04, cut4_03, cut4_14, Sm.mul, Sm.add, Sm.sub, Sm.neg, Sm.div, Sm.lit, sz_0, sz_1, sz_2, sz_3, sz_4, sz_8, Nat.reduceDiv, Nat.reduceSub, Nat.reduceLT, Nat.reduceLeDiff, Int.reduceLT, Int.reduceNeg, Int.mul_pos, gMul_ok, gDiv_ok, gMod_ok, $as,*])
/-! wholes and ratios of the program -/
inductive IsRow (v : List Int) : PyData → Prop
  | t : IsRow v (.tuple (v.map .int))
  | l : IsRow v (.list (v.map .int))
abbrev DivB : FS := (fSet 1 (fBi gGcd (fConsA (fVar 1) (fConsA (fVar 2) fNilA))))
theorem div_for (x0 : Option SV) (c : Cs) : ∀ (v : List Int) (g : Nat) (x2 : Option SV), ∃ y2, forGo (aName 2) DivB (v.map .int) ⟨[x0, some (.dat (.int (g : Nat))), x2], c⟩ = some (.nx ⟨[x0, some (.dat (.int ((Nat.gcd g (gL v) : Nat) : Int))), y2], c⟩)
  | [], g, x2 => ⟨x2, by simp [forGo, gL]⟩
  | x :: v, g, x2 => by
    obtain ⟨y2, ih⟩ := div_for x0 c v (Nat.gcd g x.natAbs) (some (.dat (.int x)))
    refine ⟨y2, ?_⟩
    have e : DivB ⟨[x0, some (.dat (.int (g : Nat))), some (.dat (.int x))], c⟩ = some (.nx ⟨[x0, some (.dat (.int ((Nat.gcd g x.natAbs : Nat) : Int))), some (.dat (.int x))], c⟩) := by
      simp! [Int.natAbs_natCast]
    rw [Nat.gcd_assoc] at ih
    generalize DivB = b at e ih ⊢
    simp only [List.map_cons, forGo, aName, setD, List.set_cons_succ, List.set_cons_zero, Option.bind_some, e]
    exact ih
theorem e_div {v : List Int} {r : PyData} (h : IsRow v r) : F_divisor_of [.dat r] [] = some (.dat (.int (gL v : Nat)), []) := by
  obtain ⟨y2, e⟩ := div_for (some (.dat r)) [] v 0 none
  rw [Nat.gcd_zero_left] at e
  have e0 : b_divisor_of = (fSeq (fSet 1 (fLit (.int (0 : Nat)))) (fSeq (fFor (fIt (fVar 0)) (aName 2) DivB) (fRet (fVar 1)))) := rfl
  generalize DivB = b at e e0
  cases h <;> simp only [F_divisor_of, mkF, e0, fSeq, fSet, fLit, fFor, fIt, fVar, List.length_cons, List.length_nil, List.map_cons, List.map_nil, List.replicate, List.cons_append, List.nil_append, List.set_cons_zero, List.set_cons_succ, List.getElem?_cons_zero, List.getElem?_cons_succ, Option.bind_some, Option.map_some, e, fRet, Nat.reduceAdd, Nat.reduceSub, and_self, if_true, List.take_zero, Nat.zero_add]
theorem mL_max (v : List Int) : (if (1 : Int) > ((gL v : Nat) : Int) then (1 : Int) else ((gL v : Nat) : Int)) = mL v := by
  unfold mL; split <;> split <;> omega
theorem mL_max' (v : List Int) : (if ((gL v : Nat) : Int) > 1 then ((gL v : Nat) : Int) else 1) = mL v := by
  unfold mL; split <;> split <;> omega
theorem lc_div (x0 : Option SV) {m : Int} (hm : 0 < m) (hs : Sm 4000 m) (c : Cs) : ∀ v : List Int, lcGo (aName 2) fYes (fOp gDiv (fVar 2) (fVar 1)) [x0, some (.dat (.int m)), none] (v.map .int) c = some ((v.map (· / m)).map .int, c)
  | [] => rfl
  | x :: v => by
    have ih := lc_div x0 hm hs c v
    simpa! [*, ih]
theorem e_reduced {v : List Int} {r : PyData} (h : IsRow v r) (hs : ∀ x ∈ v, Sm 4000 x) (hl : v.length ≤ 100000) : F_reduced [.dat r] [] = some (.dat (.tuple ((red v).map .int)), []) := by
  have h1 := mL_pos v
  have h2 := sm_mL (n := 4000) (by decide) hs
  have h3 := e_div h
  have h4 := lc_div (some (.dat r)) h1 h2 [] v
  have h5 : (v.map PyData.int).length ≤ 100000 := by rw [List.length_map]; exact hl
  have h6 := mL_max v
  unfold red
  cases h <;> simp! [F_reduced, b_reduced, h3, h6, h4, h5]
section
variable {a b c d e : Int}
theorem m2 {n : Nat} (ha : Sm n a) (hb : Sm n b) : ∀ x ∈ [a, b], Sm n x := fun x m => by
  simp only [List.mem_cons, List.not_mem_nil, or_false] at m
  rcases m with rfl | rfl <;> assumption
theorem m4 {n : Nat} (ha : Sm n a) (hb : Sm n b) (hc : Sm n c) (hd : Sm n d) : ∀ x ∈ [a, b, c, d], Sm n x := fun x m => by
  simp only [List.mem_cons, List.not_mem_nil, or_false] at m
  rcases m with rfl | rfl | rfl | rfl <;> assumption
theorem m5 {n : Nat} (ha : Sm n a) (hb : Sm n b) (hc : Sm n c) (hd : Sm n d) (he : Sm n e) : ∀ x ∈ [a, b, c, d, e], Sm n x := fun x m => by
  simp only [List.mem_cons, List.not_mem_nil, or_false] at m
  rcases m with rfl | rfl | rfl | rfl | rfl <;> assumption
end
/-- reduced rows, written out -/
abbrev R4 (a b c d : Int) : PyData := T4 (a / mL [a, b, c, d]) (b / mL [a, b, c, d]) (c / mL [a, b, c, d]) (d / mL [a, b, c, d])
abbrev R5 (a b c d e : Int) : PyData := T5 (a / mL [a, b, c, d, e]) (b / mL [a, b, c, d, e]) (c / mL [a, b, c, d, e]) (d / mL [a, b, c, d, e]) (e / mL [a, b, c, d, e])
section
variable {a b c d e : Int}
theorem e_div2 : F_divisor_of [.dat (T2 a b)] [] = some (.dat (.int (gL [a, b] : Nat)), []) := e_div (v := [a, b]) .t
theorem e_div4 : F_divisor_of [.dat (T4 a b c d)] [] = some (.dat (.int (gL [a, b, c, d] : Nat)), []) := e_div (v := [a, b, c, d]) .t
theorem e_div5 : F_divisor_of [.dat (T5 a b c d e)] [] = some (.dat (.int (gL [a, b, c, d, e] : Nat)), []) := e_div (v := [a, b, c, d, e]) .t
theorem e_red4 (ha : Sm 4000 a) (hb : Sm 4000 b) (hc : Sm 4000 c) (hd : Sm 4000 d) : F_reduced [.dat (T4 a b c d)] [] = some (.dat (R4 a b c d), []) := e_reduced (v := [a, b, c, d]) .t (m4 ha hb hc hd) (by simp)
theorem e_red5 (ha : Sm 4000 a) (hb : Sm 4000 b) (hc : Sm 4000 c) (hd : Sm 4000 d) (he : Sm 4000 e) : F_reduced [.dat (T5 a b c d e)] [] = some (.dat (R5 a b c d e), []) := e_reduced (v := [a, b, c, d, e]) .t (m5 ha hb hc hd he) (by simp)
theorem e_row2 : F_is_row [.dat (T2 a b), .dat (.int 2)] [] = some (.dat (.bool true), []) := rfl
theorem e_row4 : F_is_row [.dat (T4 a b c d), .dat (.int 4)] [] = some (.dat (.bool true), []) := rfl
theorem e_row5 : F_is_row [.dat (T5 a b c d e), .dat (.int 5)] [] = some (.dat (.bool true), []) := rfl
theorem e_rrow2 : F_is_reduced_row [.dat (T2 a b), .dat (.int 2)] [] = some (.dat (.bool ((gL [a, b] : Int) == 1)), []) := by
  simpa! [*, F_is_reduced_row, b_is_reduced_row, e_row2, e_div2, gEq_int]
theorem e_rrow4 : F_is_reduced_row [.dat (T4 a b c d), .dat (.int 4)] [] = some (.dat (.bool ((gL [a, b, c, d] : Int) == 1)), []) := by
  simpa! [*, F_is_reduced_row, b_is_reduced_row, e_row4, e_div4, gEq_int]
theorem e_rrow5 : F_is_reduced_row [.dat (T5 a b c d e), .dat (.int 5)] [] = some (.dat (.bool ((gL [a, b, c, d, e] : Int) == 1)), []) := by
  simpa! [*, F_is_reduced_row, b_is_reduced_row, e_row5, e_div5, gEq_int]
end
section
variable {a b c d a' b' c' d' s t : Int}
theorem e_dot2 (ha : Sm 4000 a) (hb : Sm 4000 b) (ha' : Sm 4000 a') (hb' : Sm 4000 b') : F_dot [.dat (T2 a b), .dat (T2 a' b')] [] = some (.dat (.int (a * a' + b * b')), []) := by
  simpa! [*, F_dot, b_dot, List.sum_cons, List.sum_nil, Int.add_zero, Int.add_assoc]
theorem e_dot3 (ha : Sm 4000 a) (hb : Sm 4000 b) (hc : Sm 4000 c) (ha' : Sm 4000 a') (hb' : Sm 4000 b') (hc' : Sm 4000 c') : F_dot [.dat (T3 a b c), .dat (T3 a' b' c')] [] = some (.dat (.int (a * a' + b * b' + c * c')), []) := by
  simpa! [*, F_dot, b_dot, List.sum_cons, List.sum_nil, Int.add_zero, Int.add_assoc]
theorem e_dot4 (ha : Sm 4000 a) (hb : Sm 4000 b) (hc : Sm 4000 c) (hd : Sm 4000 d) (ha' : Sm 4000 a') (hb' : Sm 4000 b') (hc' : Sm 4000 c') (hd' : Sm 4000 d') : F_dot [.dat (T4 a b c d), .dat (T4 a' b' c' d')] [] = some (.dat (.int (a * a' + b * b' + c * c' + d * d')), []) := by
  simpa! [*, F_dot, b_dot, List.sum_cons, List.sum_nil, Int.add_zero, Int.add_assoc]
theorem e_comb4 (ha : Sm 4000 a) (hb : Sm 4000 b) (hc : Sm 4000 c) (hd : Sm 4000 d) (ha' : Sm 4000 a') (hb' : Sm 4000 b') (hc' : Sm 4000 c') (hd' : Sm 4000 d') (hs : Sm 4000 s) (ht : Sm 4000 t) :
    F_combined [.dat (.int s), .dat (T4 a b c d), .dat (.int t), .dat (T4 a' b' c' d')] [] = some (.dat (T4 (s * a + t * a') (s * b + t * b') (s * c + t * c') (s * d + t * d')), []) := by
  simpa! [*, F_combined, b_combined]
end
/-! ratios: p / q, q not 0 -/
def rg (p q : Int) : Int := if 0 < q then (Nat.gcd p.natAbs q.natAbs : Nat) else -((Nat.gcd p.natAbs q.natAbs : Nat) : Int)
abbrev Rt (p q : Int) : PyData := T2 (p / rg p q) (q / rg p q)
theorem e_ratio {p q : Int} (hq : 0 < q) (hp : Sm 4000 p) (hq' : Sm 4000 q) : F_ratio [.dat (.int p), .dat (.int q)] [] = some (.dat (Rt p q), []) := by
  have h1 : (0 : Int) < (Nat.gcd p.natAbs q.natAbs : Nat) := by
    have := Nat.gcd_pos_of_pos_right p.natAbs (Int.natAbs_pos.mpr (show q ≠ 0 by omega)); omega
  have h2 : Sm 4000 ((Nat.gcd p.natAbs q.natAbs : Nat) : Int) := by
    have := Nat.le_of_dvd (Int.natAbs_pos.mpr (show q ≠ 0 by omega)) (Nat.gcd_dvd_right p.natAbs q.natAbs)
    exact Nat.lt_of_le_of_lt (by rw [Int.natAbs_natCast]; exact this) hq'
  have e : rg p q = (Nat.gcd p.natAbs q.natAbs : Nat) := if_pos hq
  have hq2 : (decide (0 < q)) = true := decide_eq_true hq
  unfold Rt
  rw [e]
  simpa! [*, F_ratio, b_ratio, hq2]
theorem rg_red {p q : Int} (hq : 0 < q) : [p / rg p q, q / rg p q] = red [p, q] := by
  have h1 : 0 < Nat.gcd p.natAbs q.natAbs := Nat.gcd_pos_of_pos_right p.natAbs (Int.natAbs_pos.mpr (show q ≠ 0 by omega))
  have e : mL [p, q] = rg p q := by
    have : gL [p, q] = Nat.gcd p.natAbs q.natAbs := by simp [gL]
    rw [mL_eq (by omega), this]; exact (if_pos hq).symm
  unfold red
  rw [e]; rfl
theorem rt_eq {p q p' q' : Int} (hq : 0 < q) (hq' : 0 < q') (h : p * q' = p' * q) : Rt p q = Rt p' q' := by
  have h1 : red [p, q] = red [p', q'] := red_par hq' hq (by
    simp only [List.map_cons, List.map_nil]
    rw [Int.mul_comm q' p, h, Int.mul_comm p' q, Int.mul_comm q' q])
  rw [← rg_red hq, ← rg_red hq'] at h1
  simp only [List.cons.injEq, and_true] at h1
  unfold Rt
  rw [h1.1, h1.2]
/-- a fraction -/
structure Fr (n : Nat) (p q : Int) : Prop where
  q0 : 0 < q
  one : gL [p, q] = 1
  sp : Sz n p
  sq : Sz n q
theorem rt_fr {n : Nat} {p q : Int} (hq : 0 < q) (sp : Sz n p) (sq : Sz n q) : Fr n (p / rg p q) (q / rg p q) := by
  have e := rg_red (p := p) hq
  have h1 : gL [p, q] ≠ 0 := gL_ne (x := q) (by simp) (by omega)
  have h2 := gL_red h1
  rw [← e] at h2
  refine ⟨?_, h2, sp.div, sq.div⟩
  have h3 : rg p q ∣ q := by
    unfold rg; rw [if_pos hq]
    exact Int.natAbs_dvd_natAbs.mp (by rw [Int.natAbs_natCast]; exact Nat.gcd_dvd_right ..)
  have h4 : 0 < rg p q := by
    unfold rg; rw [if_pos hq]
    have := Nat.gcd_pos_of_pos_right p.natAbs (Int.natAbs_pos.mpr (show q ≠ 0 by omega)); omega
  exact Int.ediv_pos_of_pos_of_dvd hq (by omega) h3
theorem rg_pos {p q : Int} (hq : 0 < q) : 0 < rg p q := by
  unfold rg; rw [if_pos hq]
  have := Nat.gcd_pos_of_pos_right p.natAbs (Int.natAbs_pos.mpr (show q ≠ 0 by omega)); omega
theorem rg_p {p q : Int} (hq : 0 < q) : p / rg p q * rg p q = p := Int.ediv_mul_cancel (by
  unfold rg; rw [if_pos hq]
  exact Int.natAbs_dvd_natAbs.mp (by rw [Int.natAbs_natCast]; exact Nat.gcd_dvd_left ..))
theorem rg_q {p q : Int} (hq : 0 < q) : q / rg p q * rg p q = q := Int.ediv_mul_cancel (by
  unfold rg; rw [if_pos hq]
  exact Int.natAbs_dvd_natAbs.mp (by rw [Int.natAbs_natCast]; exact Nat.gcd_dvd_right ..))
theorem one_eq {v : List Int} (h : gL v = 1) : (((gL v : Nat) : Int) == 1) = true := by rw [h]; rfl
theorem e_frac {n : Nat} {p q : Int} (h : Fr n p q) : F_is_fraction [.dat (T2 p q)] [] = some (.dat (.bool true), []) := by
  have h1 := one_eq h.one
  have h2 := h.q0
  simpa! [*, F_is_fraction, b_is_fraction, e_rrow2, h1, h2]
theorem e_posfrac {n : Nat} {p q : Int} (h : Fr n p q) (h0 : 0 ≤ p) : F_check_positive_fraction [.dat (T2 p q)] [] = some (.dat .none, []) := by
  have h1 : ¬ (p < 0) := by omega
  simpa! [*, F_check_positive_fraction, b_check_positive_fraction, e_frac h, h1]
/-! lights -/
structure Lt (m : Nat) (i q u v n : Int) : Prop where
  i0 : 0 ≤ i
  n0 : 0 < n
  cone : 0 ≤ i * i - (q * q + u * u + v * v)
  one : gL [i, q, u, v, n] = 1
  si : Sz m i
  sq : Sz m q
  su : Sz m u
  sv : Sz m v
  sn : Sz m n
structure Kd (m : Nat) (q u v n : Int) : Prop where
  n0 : 0 < n
  sph : q * q + u * u + v * v = n * n
  one : gL [q, u, v, n] = 1
  sq : Sz m q
  su : Sz m u
  sv : Sz m v
  sn : Sz m n
structure Lk (m : Nat) (a b c d : Int) : Prop where
  a0 : 0 ≤ a
  cone : 0 ≤ a * a - (b * b + c * c + d * d)
  one : gL [a, b, c, d] = 1
  sa : Sz m a
  sb : Sz m b
  sc : Sz m c
  sd : Sz m d
section
variable {m n' : Nat} {i q u v n i' q' u' v' k' a b c d : Int}
theorem Lt.up {k : Nat} (h : Lt m i q u v n) (hk : m ≤ k) : Lt k i q u v n := ⟨h.i0, h.n0, h.cone, h.one, h.si.by k hk, h.sq.by k hk, h.su.by k hk, h.sv.by k hk, h.sn.by k hk⟩
theorem e_cross (hi : Sm 4000 i) (hq : Sm 4000 q) (hu : Sm 4000 u) (hv : Sm 4000 v) (hi' : Sm 4000 i') (hq' : Sm 4000 q') (hu' : Sm 4000 u') (hv' : Sm 4000 v') :
    F_crossed [.dat (T4 i q u v), .dat (T4 i' q' u' v')] [] = some (.dat (.int (i * i' - (q * q' + u * u' + v * v'))), []) := by
  simpa! [*, F_crossed, b_crossed, e_dot3]
theorem e_cone (hi : Sm 4000 i) (hq : Sm 4000 q) (hu : Sm 4000 u) (hv : Sm 4000 v) (i0 : 0 ≤ i) (hc : 0 ≤ i * i - (q * q + u * u + v * v)) : F_in_cone [.dat (T4 i q u v)] [] = some (.dat (.bool true), []) := by
  simpa! [*, F_in_cone, b_in_cone, e_cross, i0, hc]
theorem e_light (h : Lt 4000 i q u v n) : F_is_light [.dat (T5 i q u v n)] [] = some (.dat (.bool true), []) := by
  have h1 := one_eq h.one
  obtain ⟨i0, n0, hc, ho, si, sq, su, sv, sn⟩ := h
  clear ho
  simpa! [*, F_is_light, b_is_light, e_rrow5, e_cone]
theorem e_chl (h : Lt 4000 i q u v n) : F_check_light [.dat (T5 i q u v n)] [] = some (.dat .none, []) := by
  simpa! [*, F_check_light, b_check_light, e_light h]
theorem e_kind (h : Kd 4000 q u v n) : F_is_kind [.dat (T4 q u v n)] [] = some (.dat (.bool true), []) := by
  have h1 := one_eq h.one
  have h4 : (q * q + u * u + v * v == n * n) = true := beq_iff_eq.mpr h.sph
  obtain ⟨n0, hs, ho, sq, su, sv, sn⟩ := h
  clear hs ho
  simpa! [*, F_is_kind, b_is_kind, e_rrow4, e_dot3, gEq_int]
theorem e_chk (h : Kd 4000 q u v n) : F_check_kind [.dat (T4 q u v n)] [] = some (.dat .none, []) := by
  simpa! [*, F_check_kind, b_check_kind, e_kind h]
theorem e_look (h : Lk 4000 a b c d) : F_is_look [.dat (T4 a b c d)] [] = some (.dat (.bool true), []) := by
  have h1 := one_eq h.one
  obtain ⟨a0, hc, ho, sa, sb, sc, sd⟩ := h
  clear ho
  simpa! [*, F_is_look, b_is_look, e_rrow4, e_cone]
theorem e_chlk (h : Lk 4000 a b c d) : F_check_look [.dat (T4 a b c d)] [] = some (.dat .none, []) := by
  simpa! [*, F_check_look, b_check_look, e_look h]
theorem e_level (h : Lk 1000 a b c d) (g : Lt 1000 i q u v n) : F_read_level [.dat (T4 a b c d), .dat (T5 i q u v n)] [] = some (.dat (Rt (a * i + b * q + c * u + d * v) n), []) := by
  obtain ⟨a0, hc, h1, sa, sb, sc, sd⟩ := h
  have e1 := e_chl (g.up (by decide : 1000 ≤ 4000))
  have e2 := e_chlk ⟨a0, hc, h1, sa.by 4000 (by decide), sb.by 4000 (by decide), sc.by 4000 (by decide), sd.by 4000 (by decide)⟩
  obtain ⟨i0, n0, gc, g1, si, sq, su, sv, sn⟩ := g
  simpa! [*, F_read_level, b_read_level, e1, e2, e_dot4, e_ratio]
theorem e_added (h : Lt 1000 i q u v n) (g : Lt 1000 i' q' u' v' k') :
    F_added [.dat (T5 i q u v n), .dat (T5 i' q' u' v' k')] [] = some (.dat (R5 (k' * i + n * i') (k' * q + n * q') (k' * u + n * u') (k' * v + n * v') (n * k')), []) := by
  have e1 := e_chl (h.up (by decide : 1000 ≤ 4000))
  have e2 := e_chl (g.up (by decide : 1000 ≤ 4000))
  obtain ⟨i0, n0, hc, h1, si, sq, su, sv, sn⟩ := h
  obtain ⟨i0', n0', hc', h1', si', sq', su', sv', sn'⟩ := g
  simpa! [*, F_added, b_added, e1, e2, e_comb4, e_red5]
theorem e_times {p r : Int} (h : Lt 1000 i q u v n) (g : Fr 1000 p r) (p0 : 0 ≤ p) :
    F_times [.dat (T5 i q u v n), .dat (T2 p r)] [] = some (.dat (R5 (p * i) (p * q) (p * u) (p * v) (r * n)), []) := by
  have e1 := e_chl (h.up (by decide : 1000 ≤ 4000))
  have e2 := e_posfrac g p0
  obtain ⟨i0, n0, hc, h1, si, sq, su, sv, sn⟩ := h
  obtain ⟨r0, g1, sp, sr⟩ := g
  simpa! [*, F_times, b_times, e1, e2, e_red5]
theorem e_pure (h : Kd 4000 q u v n) : F_pure_light [.dat (T4 q u v n)] [] = some (.dat (T5 n q u v n), []) := by
  simpa! [*, F_pure_light, b_pure_light, e_chk h]
theorem e_product (h : Lt 1000 i q u v n) (g : Lt 1000 i' q' u' v' k') :
    F_product [.dat (T5 i q u v n), .dat (T5 i' q' u' v' k')] [] = some (.dat (Rt (i * i' - (q * q' + u * u' + v * v')) (n * k')), []) := by
  have e1 := e_chl (h.up (by decide : 1000 ≤ 4000))
  have e2 := e_chl (g.up (by decide : 1000 ≤ 4000))
  obtain ⟨i0, n0, hc, h1, si, sq, su, sv, sn⟩ := h
  obtain ⟨i0', n0', hc', h1', si', sq', su', sv', sn'⟩ := g
  have hn := Int.mul_pos n0 n0'
  simpa! [*, F_product, b_product, e1, e2, e_cross, e_ratio]
/-- dark, told by its first number -/
theorem lt_dark (h : Lt m 0 q u v n) : q = 0 ∧ u = 0 ∧ v = 0 ∧ n = 1 := by
  have hc := h.cone
  have h1 : q * q ≥ 0 := sq_nn q
  have h2 : u * u ≥ 0 := sq_nn u
  have h3 : v * v ≥ 0 := sq_nn v
  have e1 : q = 0 := sq_z (by omega)
  have e2 : u = 0 := sq_z (by omega)
  have e3 : v = 0 := sq_z (by omega)
  refine ⟨e1, e2, e3, ?_⟩
  have ho := h.one
  subst e1 e2 e3
  have hn := h.n0
  simp only [gL, Int.natAbs_zero, Nat.gcd_zero_left, Nat.gcd_zero_right] at ho
  omega
theorem dark_eq (h : Lt m i q u v n) : gEq (T5 i q u v n) c__DARK = some (.bool (decide (i = 0))) := by
  show gEq (T5 i q u v n) (T5 0 0 0 0 1) = _
  rw [gEq_T5]
  by_cases hi : i = 0
  · subst hi
    obtain ⟨rfl, rfl, rfl, rfl⟩ := lt_dark h
    rfl
  · rw [decide_eq_false hi]
    congr 2
    exact beq_eq_false_iff_ne.mpr fun z => hi (by simpa using congrArg List.head? z)
theorem e_purity (h : Lt 1000 i q u v n) (hi : i ≠ 0) : F_purity [.dat (T5 i q u v n)] [] = some (.dat (Rt (q * q + u * u + v * v) (i * i)), []) := by
  have e1 := e_chl (h.up (by decide : 1000 ≤ 4000))
  have e2 := dark_eq h
  rw [decide_eq_false hi] at e2
  obtain ⟨i0, n0, hc, h1, si, sq, su, sv, sn⟩ := h
  have hn : 0 < i * i := Int.mul_pos (by omega) (by omega)
  simpa! [*, F_purity, b_purity, e1, e2, e_dot3, e_ratio]
theorem e_kindof_none (h : Lt 1000 i q u v n) (hi : i = 0 ∨ 0 < i * i - (q * q + u * u + v * v)) : F_kind_of [.dat (T5 i q u v n)] [] = some (.dat .none, []) := by
  have e1 := e_chl (h.up (by decide : 1000 ≤ 4000))
  have e2 := dark_eq h
  obtain ⟨i0, n0, hc, h1, si, sq, su, sv, sn⟩ := h
  by_cases hz : i = 0
  · rw [decide_eq_true hz] at e2
    clear hz hi
    simpa! [*, F_kind_of, b_kind_of, e1, e2]
  · rw [decide_eq_false hz] at e2
    have h2 : 0 < i * i - (q * q + u * u + v * v) := by rcases hi with hi | hi; exact absurd hi hz; exact hi
    simpa! [*, F_kind_of, b_kind_of, e1, e2, e_cross, h2]
theorem e_kindof (h : Lt 1000 i q u v n) (hi : i ≠ 0) (hp : i * i - (q * q + u * u + v * v) = 0) : F_kind_of [.dat (T5 i q u v n)] [] = some (.dat (R4 q u v i), []) := by
  have e1 := e_chl (h.up (by decide : 1000 ≤ 4000))
  have e2 := dark_eq h
  rw [decide_eq_false hi] at e2
  obtain ⟨i0, n0, hc, h1, si, sq, su, sv, sn⟩ := h
  have h2 : ¬ (0 < i * i - (q * q + u * u + v * v)) := by omega
  simpa! [*, F_kind_of, b_kind_of, e1, e2, e_cross, h2, e_red4]
end
end PL


set_option Elab.async false
set_option linter.all false
set_option maxRecDepth 100000
set_option maxHeartbeats 400000
set_option exponentiation.threshold 20000
namespace PL
open PySem PySem.Spec L2 DL
local macro_rules | `(tactic| simp! [$as,*]) => `(tactic| simp only [fThaw, fThawT, fThawL, thawD, thawO, noL, noLAll, fAug, gAug, fRev, fFnA, fCallV, fBot, fZip, zipD, gSum, intsOf, List.foldl_cons, List.foldl_nil, mkF, fRet, fRetL, fRetN, fSkip, fSeq, fNever, fSet, fAsg, fNew, fIfS, fDrop, fPar, fPar3, fSetc, fSetc2, fVar, fLit, fOp, fUn, fTup, fTup.datsOf, fLst, fNilA, fConsA, fStarA, fCelA, fOfL, fTru, fAndT, fOrT, fNotT, fAndV, fOrV, fNotV, fIf, fBi, fCall, fCallL, fCallFr, fPerm, callF, celOf, celsOk, norm, aName, aNil, aCons, aTup, setD, fSl, fIt, fItL, fItT, fFor, forGo, fLc, lcGo, fYes, wipeD, fCix, fList, fSlL, fPart, fNoPart, fChain, List.length_cons, List.length_nil, List.getElem?_cons_zero, List.getElem?_cons_succ, List.getElem?_nil, List.set_cons_zero, List.set_cons_succ, List.map_cons, List.map_nil, List.cons_append, List.nil_append, List.append_nil, List.replicate, List.take_zero, List.take_nil, List.take_succ_cons, ↓bsome, ↓msome, Option.bind_some, Option.map_some, Option.bind_none, Option.map_none, Nat.sub_self, Int.cast_ofNat_Int, Nat.reduceAdd, Nat.reduceMul, Nat.reduceSub, Nat.reduceLeDiff, Nat.reduceLT, Nat.zero_add, Nat.add_zero, and_self, and_true, true_and, if_true, if_false, ↓reduceIte, ite_true, Bool.true_eq_false, Bool.false_eq_true, beq_self_eq_true, Bool.and_self, Bool.not_true, Bool.not_false, decide_true, decide_false, gLen, gTyIs, gTyNot, tyOf, gNeg, gPlus, DL.gSub, gCmp, gInt, gAbs, gTuple, gMax, gMin, gGcd, LIM, gIx, $as,*])
local macro_rules | `(tactic| simpa! [$as,*]) => `(tactic| simp (maxDischargeDepth := 40) only [fThaw, fThawT, fThawL, thawD, thawO, noL, noLAll, fAug, gAug, fRev, fFnA, fCallV, fBot, fZip, zipD, gSum, intsOf, List.foldl_cons, List.foldl_nil, mkF, fRet, fRetL, fRetN, fSkip, fSeq, fNever, fSet, fAsg, fNew, fIfS, fDrop, fPar, fPar3, fSetc, fSetc2, fVar, fLit, fOp, fUn, fTup, fTup.datsOf, fLst, fNilA, fConsA, fStarA, fCelA, fOfL, fTru, fAndT, fOrT, fNotT, fAndV, fOrV, fNotV, fIf, fBi, fCall, fCallL, fCallFr, fPerm, callF, celOf, celsOk, norm, aName, aNil, aCons, aTup, setD, fSl, fIt, fItL, fItT, fFor, forGo, fLc, lcGo, fYes, wipeD, fCix, fList, fSlL, fPart, fNoPart, fChain, List.length_cons, List.length_nil, List.getElem?_cons_zero, List.getElem?_cons_succ, List.getElem?_nil, List.set_cons_zero, List.set_cons_succ, List.map_cons, List.map_nil, List.cons_append, List.nil_append, List.append_nil, List.replicate, List.take_zero, List.take_nil, List.take_succ_cons, ↓bsome, ↓msome, Option.bind_some, Option.map_some, Option.bind_none, Option.map_none, Nat.sub_self, Int.cast_ofNat_Int, Nat.reduceAdd, Nat.reduceMul, Nat.reduceSub, Nat.reduceLeDiff, Nat.reduceLT, Nat.zero_add, Nat.add_zero, and_self, and_true, true_and, if_true, if_false, ↓reduceIte, ite_true, Bool.true_eq_false, Bool.false_eq_true, beq_self_eq_true, Bool.and_self, Bool.not_true, Bool.not_false, decide_true, decide_false, gLen, gTyIs, gTyNot, tyOf, gNeg, gPlus, DL.gSub, gCmp, gInt, gAbs, gTuple, gMax, gMin, gGcd, LIM, gIx, ix1_0, ix2_0, ix2_1, ix3_0, ix3_1, ix3_2, ix4_0, ix4_1, ix4_2, ix4_3, ix5_0, ix5_1, ix5_2, ix5_3, ix5_4, ix6_0, ix6_1, ix6_2, ix6_3, ix6_4, ix6_5, cut5_04, cut5_14, cut4_04, cut4_03, cut4_14, Sm.mul, Sm.add, Sm.sub, Sm.neg, Sm.div, Sm.lit, sz_0, sz_1, sz_2, sz_3, sz_4, sz_8, Nat.reduceDiv, Nat.reduceSub, Nat.reduceLT, Nat.reduceLeDiff, Int.reduceLT, Int.reduceNeg, Int.mul_pos, gMul_ok, gDiv_ok, gMod_ok, $as,*])
/-! what is drawn: the first family of laws -/
structure TapO (k : Nat) (a s n : Int) : Prop where
  a0 : 0 ≤ a
  s0 : 0 ≤ s
  s1 : s < 1000000409
  n0 : 0 ≤ n
  n1 : n + k < 2 ^ 40
def Tap (k : Nat) (t : List PyData) : Prop := ∃ a s n, t = L3 a s n ∧ TapO k a s n
theorem Tap.le {k m : Nat} {t : List PyData} (h : Tap k t) (hm : m ≤ k) : Tap m t := by
  obtain ⟨a, s, n, e, h⟩ := h
  exact ⟨a, s, n, e, h.a0, h.s0, h.s1, h.n0, by have := h.n1; omega⟩
theorem gMul_sm {x y : Int} (h0 : 0 ≤ x) (h1 : x < 2 ^ 60) (g0 : 0 ≤ y) (g1 : y < 2 ^ 60) : gMul (.int x) (.int y) = some (.int (x * y)) := gMul_ok (sz_of h0 h1).sm (sz_of g0 g1).sm
theorem e_from {k : Nat} {t : List PyData} {m : Int} (h : Tap (k + 1) t) (hm : 0 < m) (hm2 : m < 2 ^ 40) :
    ∃ v t', F__law_from [.cel 0, .dat (.int m)] [t] = some (.dat (.int v), [t']) ∧ Tap k t' ∧ 0 ≤ v ∧ v < m := by
  obtain ⟨a, s, n, rfl, ha, h0, h1, h2, h3⟩ := h
  have st := (sz_of (by omega) (by omega : m < 2 ^ 60)).sm (m := 1000)
  by_cases hp : 0 < a
  · refine ⟨a % m, L3 (a / m) s n, ?_, ⟨_, _, _, rfl, Int.ediv_nonneg ha (by omega), h0, h1, h2, by omega⟩, Int.emod_nonneg _ (by omega), Int.emod_lt_of_pos _ hm⟩
    have hd := dm_ok (i := a) hm st
    simpa! [F__law_from, b__law_from, ixN3_0, hp, hd]
  · have p1 : (0 : Int) < 1000000409 := by decide
    have p2 : (0 : Int) < 6007 := by decide
    have m2 := gMul_sm (by decide : (0 : Int) ≤ 70657) (by decide) (by omega : 0 ≤ n + 1) (by omega : n + 1 < 2 ^ 60)
    have d1 := fun i : Int => gMod_ok (i := i) p1
    have d2 := fun i : Int => gMod_ok (i := i) p2
    have d3 := fun i : Int => gMod_ok (i := i) hm
    generalize hx : (s + 70657 * (n + 1) + 13) % 1000000409 = x
    have x0 : 0 ≤ x := by omega
    have x1 : x < 1000000409 := by omega
    have m3 := gMul_sm x0 (by omega) (by omega : 0 ≤ x % 6007 + 17011) (by omega)
    have m4 := gMul_sm (by decide : (0 : Int) ≤ 19) (by decide) (by omega : 0 ≤ n + 1) (by omega : n + 1 < 2 ^ 60)
    generalize hy : (x * (x % 6007 + 17011) + 19 * (n + 1)) % 1000000409 = y
    have q2 : gDiv (.int y) (.int 113) = some (.int (y / 113)) := gDiv_ok (by decide) (Sz.of40 (by decide)).sm
    refine ⟨y / 113 % m, L3 a y (n + 1), ?_, ⟨_, _, _, rfl, ha, by omega, by omega, by omega, by push_cast at h3; omega⟩, Int.emod_nonneg _ (by omega), Int.emod_lt_of_pos _ hm⟩
    simp! [F__law_from, b__law_from, gIx, ix3_0, ix3_1, ix3_2, ixN3_0, ixN3_1, ixN3_2, hp, m2, d1, d2, d3, hx, m3, m4, hy, q2]
theorem e_pick {k : Nat} {t : List PyData} {xs : List PyData} (h : Tap (k + 1) t) (h0 : 0 < xs.length) (h1 : xs.length < 1000) :
    ∃ x t', F__law_pick [.cel 0, .dat (.tuple xs)] [t] = some (.dat x, [t']) ∧ Tap k t' ∧ x ∈ xs := by
  obtain ⟨v, t', e, h', v0, v1⟩ := e_from (m := (xs.length : Nat)) h (by omega) (by omega)
  obtain ⟨x, hx, ex⟩ := atI_in v0 v1
  refine ⟨x, t', ?_, h', hx⟩
  simp! [F__law_pick, b__law_pick, e, gIx, ex]
theorem e_pickl {k : Nat} {t : List PyData} {xs : List PyData} (h : Tap (k + 1) t) (h0 : 0 < xs.length) (h1 : xs.length < 1000) :
    ∃ x t', F__law_pick [.cel 0, .dat (.list xs)] [t] = some (.dat x, [t']) ∧ Tap k t' ∧ x ∈ xs := by
  obtain ⟨v, t', e, h', v0, v1⟩ := e_from (m := (xs.length : Nat)) h (by omega) (by omega)
  obtain ⟨x, hx, ex⟩ := atI_in v0 v1
  refine ⟨x, t', ?_, h', hx⟩
  simp! [F__law_pick, b__law_pick, e, gIx, ex]
/-- one of some numbers -/
theorem e_pickn {k : Nat} {t : List PyData} (ns : List Int) (h : Tap (k + 1) t) (h0 : 0 < ns.length) (h1 : ns.length < 1000) :
    ∃ x t', F__law_pick [.cel 0, .dat (.tuple (ns.map .int))] [t] = some (.dat (.int x), [t']) ∧ Tap k t' ∧ x ∈ ns := by
  obtain ⟨x, t', e, h', hx⟩ := e_pick (xs := ns.map .int) h (by simpa using h0) (by simpa using h1)
  obtain ⟨n, hn, rfl⟩ := List.mem_map.mp hx
  exact ⟨n, t', e, h', hn⟩
theorem e_low {k : Nat} {t : List PyData} (h : Tap (k + 2) t) : ∃ v t', F__law_low [.cel 0] [t] = some (.dat (.int v), [t']) ∧ Tap k t' ∧ -100 ≤ v ∧ v ≤ 100 := by
  obtain ⟨w, t1, e1, h1, w0, w1⟩ := e_from (m := 10) h (by decide) (by decide)
  by_cases hw : w < 8
  · obtain ⟨v, t2, e2, h2, v0, v1⟩ := e_from (m := 7) h1 (by decide) (by decide)
    refine ⟨v - 3, t2, ?_, h2, by omega, by omega⟩
    simpa! [F__law_low, b__law_low, e1, e2, hw]
  · by_cases h8 : w = 8
    · subst h8
      obtain ⟨v, t2, e2, h2, v0, v1⟩ := e_from (m := 25) h1 (by decide) (by decide)
      refine ⟨v - 12, t2, ?_, h2, by omega, by omega⟩
      simpa! [F__law_low, b__law_low, e1, e2, gEq_int]
    · obtain ⟨v, t2, e2, h2, v0, v1⟩ := e_from (m := 199) h1 (by decide) (by decide)
      refine ⟨v - 99, t2, ?_, h2, by omega, by omega⟩
      have hb : (w == 8) = false := beq_eq_false_iff_ne.mpr h8
      simpa! [F__law_low, b__law_low, e1, e2, hw, gEq_int, hb]
/-! the law's own greatest divisor -/
abbrev EucB : FS := (fSeq (fIfS (fTru (fOp gEq (fVar 5) (fLit (.int 0)))) (fun st => some (.bk st)) fSkip) (fPar 4 5 (fConsA (fVar 5) (fConsA (fOp gMod (fBi gInt (fConsA (fVar 4) fNilA)) (fVar 5)) fNilA))))
abbrev eSt (x0 x1 x2 x3 : Option SV) (p q : Nat) : Sta := ⟨[x0, x1, x2, x3, some (.dat (.int (p : Nat))), some (.dat (.int (q : Nat)))], []⟩
theorem euc_0 (x0 x1 x2 x3 : Option SV) (p : Nat) (k : PyData) (ks : List PyData) : forGo (aName 3) EucB (k :: ks) (eSt x0 x1 x2 x3 p 0) = some (.nx (eSt x0 x1 x2 (some (.dat k)) p 0)) := by
  simp! [gEq_int, Int.natCast_zero, Int.ofNat_zero, Int.cast_ofNat_Int]
  rfl
theorem euc_1 (x0 x1 x2 x3 : Option SV) (p q : Nat) (hq : q ≠ 0) (k : PyData) (ks : List PyData) : forGo (aName 3) EucB (k :: ks) (eSt x0 x1 x2 x3 p q) = forGo (aName 3) EucB ks (eSt x0 x1 x2 (some (.dat k)) q (p % q)) := by
  have e : EucB (eSt x0 x1 x2 (some (.dat k)) p q) = some (.nx (eSt x0 x1 x2 (some (.dat k)) q (p % q))) := by
    have hq' : ((q : Int) == 0) = false := beq_eq_false_iff_ne.mpr (by omega)
    have hm : (0 : Int) < q := by omega
    have hd : gMod (.int (p : Int)) (.int (q : Int)) = some (.int ((p % q : Nat) : Int)) := gMod_ok hm
    simp! [gEq_int, hq', hd]
  generalize EucB = b at e ⊢
  simp only [forGo, aName, setD, List.set_cons_succ, List.set_cons_zero, Option.bind_some, e]
theorem euc_go (x0 x1 x2 : Option SV) : ∀ (n : Nat) (p q : Nat) (x3 : Option SV) (ks : List PyData), q < 2 ^ n → 2 * n + 1 ≤ ks.length → ∃ y3, forGo (aName 3) EucB ks (eSt x0 x1 x2 x3 p q) = some (.nx (eSt x0 x1 x2 y3 (Nat.gcd p q) 0))
  | 0, p, q, x3, ks, h, hl => by
    cases ks with
    | nil => simp at hl
    | cons k ks =>
      have : q = 0 := by simpa using h
      subst this
      exact ⟨_, by rw [euc_0, Nat.gcd_zero_right]⟩
  | n + 1, p, q, x3, ks, h, hl => by
    match ks, hl with
    | k1 :: k2 :: ks, hl =>
      by_cases hq : q = 0
      · subst hq
        exact ⟨_, by rw [euc_0, Nat.gcd_zero_right]⟩
      · rw [euc_1 _ _ _ _ _ _ hq]
        have eg : Nat.gcd p q = Nat.gcd q (p % q) := by rw [Nat.gcd_comm p q, Nat.gcd_rec q p, Nat.gcd_comm]
        by_cases hr : p % q = 0
        · rw [hr, euc_0]
          exact ⟨_, by rw [eg, hr, Nat.gcd_zero_right]⟩
        · rw [euc_1 _ _ _ _ _ _ hr]
          have eg2 : Nat.gcd q (p % q) = Nat.gcd (p % q) (q % (p % q)) := by rw [Nat.gcd_comm q (p % q), Nat.gcd_rec (p % q) q, Nat.gcd_comm]
          have h1 : p % q < q := Nat.mod_lt _ (by omega)
          have h2 : q % (p % q) < p % q := Nat.mod_lt _ (by omega)
          have h3 : q % (p % q) + (p % q) ≤ q := by
            have := Nat.div_add_mod q (p % q)
            have h4 : 1 ≤ q / (p % q) := Nat.div_pos (by omega) (by omega)
            have h5 : (p % q) * 1 ≤ (p % q) * (q / (p % q)) := Nat.mul_le_mul_left _ h4
            omega
          have h6 : q % (p % q) < 2 ^ n := by rw [Nat.pow_succ] at h; omega
          obtain ⟨y3, e⟩ := euc_go x0 x1 x2 n (p % q) (q % (p % q)) (some (.dat k2)) ks h6 (by simp only [List.length_cons] at hl; omega)
          exact ⟨y3, by rw [e, eg, eg2]⟩
abbrev ComB : FS := (fSeq (fPar 4 5 (fConsA (fVar 1) (fConsA (fBi gAbs (fConsA (fVar 2) fNilA)) fNilA))) (fSeq (fFor (fRng1 (fConsA (fLit (.int 3000)) fNilA)) (aName 3) EucB) (fSet 1 (fVar 4))))
theorem rng_ok {n : Int} (h0 : 0 ≤ n) (h1 : n ≤ 5000) : rngOk n = true := by
  unfold rngOk
  rw [decide_eq_true_eq]
  omega
theorem rng1_eq {a : FA} {st : Sta} {j : Int} {c : Cs} (h : a st = some ([.dat (.int j)], c)) (b : Bool) (hb : rngOk j = b) : fRng1 a st = if b = true then some (rangeD 0 j.toNat, c) else none := by
  unfold fRng1
  rw [h, Option.bind_some]
  simp only [hb]
theorem rg_of {e : FE} {st : Sta} {c : Cs} {J : Nat} (h : e st = some (.int (J : Nat), c)) (hJ : J ≤ 5000) : fRng1 (fConsA e fNilA) st = some (rangeD 0 J, c) := by
  have e1 : fConsA e fNilA st = some ([.dat (.int (J : Nat))], c) := by
    simp only [fConsA, fNilA, h, Option.bind_some, Option.map_some]
  rw [rng1_eq e1 true (rng_ok (by omega) (by omega)), Int.toNat_natCast]
  rfl
theorem rangeD_len (lo : Int) (n : Nat) : (rangeD lo n).length = n := by unfold rangeD; rw [List.length_map, List.length_range]
theorem com_1 (x0 x2 x3 x4 x5 : Option SV) (g : Nat) (x : Int) (h : Sm 1400 x) : ∃ y3 y4 y5, ComB ⟨[x0, some (.dat (.int (g : Nat))), some (.dat (.int x)), x3, x4, x5], []⟩ = some (.nx ⟨[x0, some (.dat (.int ((Nat.gcd g x.natAbs : Nat) : Int))), some (.dat (.int x)), y3, y4, y5], []⟩) := by
  obtain ⟨y3, e⟩ := euc_go x0 (some (.dat (.int (g : Nat)))) (some (.dat (.int x))) 1400 g x.natAbs x3 (rangeD 0 3000) h (by rw [rangeD_len]; omega)
  refine ⟨y3, some (.dat (.int ((Nat.gcd g x.natAbs : Nat) : Int))), some (.dat (.int (0 : Nat))), ?_⟩
  have a1 : (fPar 4 5 (fConsA (fVar 1) (fConsA (fBi gAbs (fConsA (fVar 2) fNilA)) fNilA))) ⟨[x0, some (.dat (.int (g : Nat))), some (.dat (.int x)), x3, x4, x5], []⟩ = some (.nx (eSt x0 (some (.dat (.int (g : Nat)))) (some (.dat (.int x))) x3 g x.natAbs)) := by
    have ea : (if x < 0 then -x else x) = ((x.natAbs : Nat) : Int) := by split <;> omega
    simp! [ea]
  have a2 : (fFor (fRng1 (fConsA (fLit (.int 3000)) fNilA)) (aName 3) EucB) (eSt x0 (some (.dat (.int (g : Nat)))) (some (.dat (.int x))) x3 g x.natAbs) = some (.nx (eSt x0 (some (.dat (.int (g : Nat)))) (some (.dat (.int x))) y3 (Nat.gcd g x.natAbs) 0)) := by
    unfold fFor
    rw [rg_of (J := 3000) rfl (by decide)]
    exact e
  exact (seq_nx a1).trans ((seq_nx a2).trans (by simp! []))
theorem com_for (x0 : Option SV) : ∀ (v : List Int) (g : Nat) (x2 x3 x4 x5 : Option SV), (∀ x ∈ v, Sm 1400 x) → ∃ y2 y3 y4 y5, forGo (aName 2) ComB (v.map .int) ⟨[x0, some (.dat (.int (g : Nat))), x2, x3, x4, x5], []⟩ = some (.nx ⟨[x0, some (.dat (.int ((Nat.gcd g (gL v) : Nat) : Int))), y2, y3, y4, y5], []⟩)
  | [], g, x2, x3, x4, x5, _ => ⟨x2, x3, x4, x5, by simp [forGo, gL]⟩
  | x :: v, g, x2, x3, x4, x5, h => by
    obtain ⟨z3, z4, z5, e⟩ := com_1 x0 x2 x3 x4 x5 g x (h x List.mem_cons_self)
    obtain ⟨y2, y3, y4, y5, ih⟩ := com_for x0 v (Nat.gcd g x.natAbs) (some (.dat (.int x))) z3 z4 z5 fun y m => h y (List.mem_cons_of_mem _ m)
    refine ⟨y2, y3, y4, y5, ?_⟩
    rw [Nat.gcd_assoc] at ih
    generalize ComB = b at e ih ⊢
    simp only [List.map_cons, forGo, aName, setD, List.set_cons_succ, List.set_cons_zero, Option.bind_some, e]
    exact ih
theorem e_lcommon {v : List Int} {r : PyData} (h : IsRow v r) (hs : ∀ x ∈ v, Sm 1400 x) : F__law_common [.dat r] [] = some (.dat (.int (gL v : Nat)), []) := by
  obtain ⟨y2, y3, y4, y5, e⟩ := com_for (some (.dat r)) v 0 none none none none hs
  rw [Nat.gcd_zero_left] at e
  have e0 : b__law_common = (fSeq (fSet 1 (fLit (.int (0 : Nat)))) (fSeq (fFor (fIt (fVar 0)) (aName 2) ComB) (fRet (fVar 1)))) := rfl
  generalize ComB = b at e e0
  cases h <;> simp only [F__law_common, mkF, e0, fSeq, fSet, fLit, fFor, fIt, fVar, List.length_cons, List.length_nil, List.map_cons, List.map_nil, List.replicate, List.cons_append, List.nil_append, List.set_cons_zero, List.set_cons_succ, List.getElem?_cons_zero, List.getElem?_cons_succ, Option.bind_some, Option.map_some, e, fRet, Nat.reduceAdd, Nat.reduceSub, and_self, if_true, List.take_zero, Nat.zero_add]
theorem e_lleast {v : List Int} {r : PyData} (h : IsRow v r) (hs : ∀ x ∈ v, Sm 1400 x) (hl : v.length ≤ 1000) : F__law_least [.dat r] [] = some (.dat (.tuple ((red v).map .int)), []) := by
  have h1 := mL_pos v
  have h2 := sm_mL (n := 4000) (by decide) fun x m => (hs x m).up 4000 (by decide)
  have h3 := e_lcommon h hs
  have h4 := lc_div (some (.dat r)) h1 h2 [] v
  have h5 : (v.map PyData.int).length ≤ 100000 := by rw [List.length_map]; omega
  have h6 := mL_max' v
  unfold red
  cases h <;> simp! [F__law_least, b__law_least, h3, h6, h4, h5]
section
variable {a b c d e : Int}
theorem e_ll2 (ha : Sm 1400 a) (hb : Sm 1400 b) : F__law_least [.dat (T2 a b)] [] = some (.dat (T2 (a / mL [a, b]) (b / mL [a, b])), []) := e_lleast (v := [a, b]) .t (m2 ha hb) (by simp)
theorem e_ll4 (ha : Sm 1400 a) (hb : Sm 1400 b) (hc : Sm 1400 c) (hd : Sm 1400 d) : F__law_least [.dat (T4 a b c d)] [] = some (.dat (R4 a b c d), []) := e_lleast (v := [a, b, c, d]) .t (m4 ha hb hc hd) (by simp)
theorem e_ll5 (ha : Sm 1400 a) (hb : Sm 1400 b) (hc : Sm 1400 c) (hd : Sm 1400 d) (he : Sm 1400 e) : F__law_least [.dat (T5 a b c d e)] [] = some (.dat (R5 a b c d e), []) := e_lleast (v := [a, b, c, d, e]) .t (m5 ha hb hc hd he) (by simp)
theorem e_lll5 (ha : Sm 1400 a) (hb : Sm 1400 b) (hc : Sm 1400 c) (hd : Sm 1400 d) (he : Sm 1400 e) : F__law_least [.dat (L5 a b c d e)] [] = some (.dat (R5 a b c d e), []) := e_lleast (v := [a, b, c, d, e]) .l (m5 ha hb hc hd he) (by simp)
end
theorem e_lratio {p q : Int} (hq : 0 < q) (hp : Sm 1400 p) (hq' : Sm 1400 q) : F__law_ratio [.dat (.int p), .dat (.int q)] [] = some (.dat (Rt p q), []) := by
  have e1 := e_ll2 hp hq'
  have e2 := rg_red (p := p) hq
  simp only [red, List.map_cons, List.map_nil, List.cons.injEq, and_true] at e2
  rw [← e2.1, ← e2.2] at e1
  have h3 : 0 < q / rg p q := (rt_fr (n := 1400) hq hp.sz hq'.sz).q0
  simp! [F__law_ratio, b__law_ratio, e1, h3]
/-! lights and kinds out of any row -/
theorem div_mul {v : List Int} {x : Int} (h : x ∈ v) : x = x / mL v * mL v := (Int.ediv_mul_cancel (mL_dvd h)).symm
theorem lt_R5 {m : Nat} {i q u v n : Int} (i0 : 0 ≤ i) (n0 : 0 < n) (hc : 0 ≤ i * i - (q * q + u * u + v * v)) (si : Sz m i) (sq : Sz m q) (su : Sz m u) (sv : Sz m v) (sn : Sz m n) :
    Lt m (i / mL [i, q, u, v, n]) (q / mL [i, q, u, v, n]) (u / mL [i, q, u, v, n]) (v / mL [i, q, u, v, n]) (n / mL [i, q, u, v, n]) := by
  have hM := mL_pos [i, q, u, v, n]
  have hg := gL_red (v := [i, q, u, v, n]) (gL_ne (x := n) (by simp) (by omega))
  have d1 := div_mul (v := [i, q, u, v, n]) (x := i) (by simp)
  have d2 := div_mul (v := [i, q, u, v, n]) (x := q) (by simp)
  have d3 := div_mul (v := [i, q, u, v, n]) (x := u) (by simp)
  have d4 := div_mul (v := [i, q, u, v, n]) (x := v) (by simp)
  have d5 := div_mul (v := [i, q, u, v, n]) (x := n) (by simp)
  refine ⟨Int.ediv_nonneg i0 (by omega), Int.ediv_pos_of_pos_of_dvd n0 (by omega) (mL_dvd (by simp)), ?_, hg, si.div, sq.div, su.div, sv.div, sn.div⟩
  generalize mL [i, q, u, v, n] = M at *
  generalize i / M = i', q / M = q', u / M = u', v / M = v' at *
  subst d1 d2 d3 d4
  have e : i' * M * (i' * M) - (q' * M * (q' * M) + u' * M * (u' * M) + v' * M * (v' * M)) = (M * M) * (i' * i' - (q' * q' + u' * u' + v' * v')) := by grind
  rw [e] at hc
  exact Int.nonneg_of_mul_nonneg_right hc (Int.mul_pos hM hM)
theorem kd_R4 {m : Nat} {q u v n : Int} (n0 : 0 < n) (hc : q * q + u * u + v * v = n * n) (sq : Sz m q) (su : Sz m u) (sv : Sz m v) (sn : Sz m n) :
    Kd m (q / mL [q, u, v, n]) (u / mL [q, u, v, n]) (v / mL [q, u, v, n]) (n / mL [q, u, v, n]) := by
  have hM := mL_pos [q, u, v, n]
  have hg := gL_red (v := [q, u, v, n]) (gL_ne (x := n) (by simp) (by omega))
  have d2 := div_mul (v := [q, u, v, n]) (x := q) (by simp)
  have d3 := div_mul (v := [q, u, v, n]) (x := u) (by simp)
  have d4 := div_mul (v := [q, u, v, n]) (x := v) (by simp)
  have d5 := div_mul (v := [q, u, v, n]) (x := n) (by simp)
  refine ⟨Int.ediv_pos_of_pos_of_dvd n0 (by omega) (mL_dvd (by simp)), ?_, hg, sq.div, su.div, sv.div, sn.div⟩
  generalize mL [q, u, v, n] = M at *
  generalize q / M = q', u / M = u', v / M = v', n / M = n' at *
  subst d2 d3 d4 d5
  have hMM : M * M ≠ 0 := Int.ne_of_gt (Int.mul_pos hM hM)
  refine Int.eq_of_mul_eq_mul_left hMM ?_
  grind
theorem lk_R4 {m : Nat} {a b c d : Int} (a0 : 0 < a) (hc : 0 ≤ a * a - (b * b + c * c + d * d)) (sa : Sz m a) (sb : Sz m b) (sc : Sz m c) (sd : Sz m d) :
    Lk m (a / mL [a, b, c, d]) (b / mL [a, b, c, d]) (c / mL [a, b, c, d]) (d / mL [a, b, c, d]) := by
  have hM := mL_pos [a, b, c, d]
  have hg := gL_red (v := [a, b, c, d]) (gL_ne (x := a) (by simp) (by omega))
  have d1 := div_mul (v := [a, b, c, d]) (x := a) (by simp)
  have d2 := div_mul (v := [a, b, c, d]) (x := b) (by simp)
  have d3 := div_mul (v := [a, b, c, d]) (x := c) (by simp)
  have d4 := div_mul (v := [a, b, c, d]) (x := d) (by simp)
  refine ⟨Int.ediv_nonneg (by omega) (by omega), ?_, hg, sa.div, sb.div, sc.div, sd.div⟩
  generalize mL [a, b, c, d] = M at *
  generalize a / M = i', b / M = q', c / M = u', d / M = v' at *
  subst d1 d2 d3 d4
  have e : i' * M * (i' * M) - (q' * M * (q' * M) + u' * M * (u' * M) + v' * M * (v' * M)) = (M * M) * (i' * i' - (q' * q' + u' * u' + v' * v')) := by grind
  rw [e] at hc
  exact Int.nonneg_of_mul_nonneg_right hc (Int.mul_pos hM hM)
end PL


set_option Elab.async false
set_option linter.all false
set_option maxRecDepth 100000
set_option maxHeartbeats 400000
set_option exponentiation.threshold 20000
namespace PL
open PySem PySem.Spec L2 DL
local macro_rules | `(tactic| simp! [$as,*]) => `(tactic| simp only [fThaw, fThawT, fThawL, thawD, thawO, noL, noLAll, fAug, gAug, fRev, fFnA, fCallV, fBot, fZip, zipD, gSum, intsOf, List.foldl_cons, List.foldl_nil, mkF, fRet, fRetL, fRetN, fSkip, fSeq, fNever, fSet, fAsg, fNew, fIfS, fDrop, fPar, fPar3, fSetc, fSetc2, fVar, fLit, fOp, fUn, fTup, fTup.datsOf, fLst, fNilA, fConsA, fStarA, fCelA, fOfL, fTru, fAndT, fOrT, fNotT, fAndV, fOrV, fNotV, fIf, fBi, fCall, fCallL, fCallFr, fPerm, callF, celOf, celsOk, norm, aName, aNil, aCons, aTup, setD, fSl, fIt, fItL, fItT, fFor, forGo, fLc, lcGo, fYes, wipeD, fCix, fList, fSlL, fPart, fNoPart, fChain, List.length_cons, List.length_nil, List.getElem?_cons_zero, List.getElem?_cons_succ, List.getElem?_nil, List.set_cons_zero, List.set_cons_succ, List.map_cons, List.map_nil, List.cons_append, List.nil_append, List.append_nil, List.replicate, List.take_zero, List.take_nil, List.take_succ_cons, ↓bsome, ↓msome, Option.bind_some, Option.map_some, Option.bind_none, Option.map_none, Nat.sub_self, Int.cast_ofNat_Int, Nat.reduceAdd, Nat.reduceMul, Nat.reduceSub, Nat.reduceLeDiff, Nat.reduceLT, Nat.zero_add, Nat.add_zero, and_self, and_true, true_and, if_true, if_false, ↓reduceIte, ite_true, Bool.true_eq_false, Bool.false_eq_true, beq_self_eq_true, Bool.and_self, Bool.not_true, Bool.not_false, decide_true, decide_false, gLen, gTyIs, gTyNot, tyOf, gNeg, gPlus, DL.gSub, gCmp, gInt, gAbs, gTuple, gMax, gMin, gGcd, LIM, gIx, $as,*])
local macro_rules | `(tactic| simpa! [$as,*]) => `(tactic| simp (maxDischargeDepth := 40) only [fThaw, fThawT, fThawL, thawD, thawO, noL, noLAll, fAug, gAug, fRev, fFnA, fCallV, fBot, fZip, zipD, gSum, intsOf, List.foldl_cons, List.foldl_nil, mkF, fRet, fRetL, fRetN, fSkip, fSeq, fNever, fSet, fAsg, fNew, fIfS, fDrop, fPar, fPar3, fSetc, fSetc2, fVar, fLit, fOp, fUn, fTup, fTup.datsOf, fLst, fNilA, fConsA, fStarA, fCelA, fOfL, fTru, fAndT, fOrT, fNotT, fAndV, fOrV, fNotV, fIf, fBi, fCall, fCallL, fCallFr, fPerm, callF, celOf, celsOk, norm, aName, aNil, aCons, aTup, setD, fSl, fIt, fItL, fItT, fFor, forGo, fLc, lcGo, fYes, wipeD, fCix, fList, fSlL, fPart, fNoPart, fChain, List.length_cons, List.length_nil, List.getElem?_cons_zero, List.getElem?_cons_succ, List.getElem?_nil, List.set_cons_zero, List.set_cons_succ, List.map_cons, List.map_nil, List.cons_append, List.nil_append, List.append_nil, List.replicate, List.take_zero, List.take_nil, List.take_succ_cons, ↓bsome, ↓msome, Option.bind_some, Option.map_some, Option.bind_none, Option.map_none, Nat.sub_self, Int.cast_ofNat_Int, Nat.reduceAdd, Nat.reduceMul, Nat.reduceSub, Nat.reduceLeDiff, Nat.reduceLT, Nat.zero_add, Nat.add_zero, and_self, and_true, true_and, if_true, if_false, ↓reduceIte, ite_true, Bool.true_eq_false, Bool.false_eq_true, beq_self_eq_true, Bool.and_self, Bool.not_true, Bool.not_false, decide_true, decide_false, gLen, gTyIs, gTyNot, tyOf, gNeg, gPlus, DL.gSub, gCmp, gInt, gAbs, gTuple, gMax, gMin, gGcd, LIM, gIx, ix1_0, ix2_0, ix2_1, ix3_0, ix3_1, ix3_2, ix4_0, ix4_1, ix4_2, ix4_3, ix5_0, ix5_1, ix5_2, ix5_3, ix5_4, ix6_0, ix6_1, ix6_2, ix6_3, ix6_4, ix6_5, cut5_04, cut5_14, cut4_04, cut4_03, cut4_14, Sm.mul, Sm.add, Sm.sub, Sm.neg, Sm.div, Sm.lit, sz_0, sz_1, sz_2, sz_3, sz_4, sz_8, Nat.reduceDiv, Nat.reduceSub, Nat.reduceLT, Nat.reduceLeDiff, Int.reduceLT, Int.reduceNeg, Int.mul_pos, gMul_ok, gDiv_ok, gMod_ok, $as,*])
/-! the law's own root -/
abbrev RtA : FS := (fSeq (fIfS (fTru (fOp (gCmp fun i j => decide (j < i)) (fOp gMul (fVar 3) (fVar 3)) (fVar 0))) (fun st => some (.bk st)) fSkip) (fSet 3 (fOp gMul (fVar 3) (fLit (.int 2)))))
abbrev RtB : FS := (fSeq (fIfS (fTru (fOp (gCmp fun i j => decide (i < j)) (fOp gSub (fVar 3) (fVar 2)) (fLit (.int 2)))) (fun st => some (.bk st)) fSkip) (fSeq (fSet 4 (fOp gDiv (fOp gPlus (fVar 2) (fVar 3)) (fLit (.int 2)))) (fIfS (fTru (fOp (gCmp fun i j => decide (j < i)) (fOp gMul (fVar 4) (fVar 4)) (fVar 0))) (fSet 3 (fVar 4)) (fSet 2 (fVar 4)))))
abbrev rSt (T : Int) (x1 : Option SV) (lo hi : Int) (x4 : Option SV) : Sta := ⟨[some (.dat (.int T)), x1, some (.dat (.int lo)), some (.dat (.int hi)), x4], []⟩
theorem sm_pow {j : Nat} (h : j ≤ 700) : Sm 4000 ((2 : Int) ^ j) := by
  unfold Sm
  rw [Int.natAbs_pow]
  exact Nat.pow_lt_pow_right (by decide) (by omega)
theorem rtA_go (T : Int) (lo : Int) (x4 : Option SV) : ∀ (d j : Nat) (x1 : Option SV) (ks : List PyData), T < (2 : Int) ^ (j + d) * (2 : Int) ^ (j + d) → d < ks.length → j + d ≤ 300 →
    ∃ (J : Nat) (y1 : Option SV), forGo (aName 1) RtA ks (rSt T x1 lo (2 ^ j) x4) = some (.nx (rSt T y1 lo (2 ^ J) x4)) ∧ T < (2 : Int) ^ J * (2 : Int) ^ J ∧ J ≤ 300
  | d, j, x1, [], h, hl, hj => by simp at hl
  | d, j, x1, k :: ks, h, hl, hj => by
    have hs := sm_pow (show j ≤ 700 by omega)
    have hm := gMul_ok hs hs
    by_cases hb : T < (2 : Int) ^ j * (2 : Int) ^ j
    · refine ⟨j, some (.dat k), ?_, hb, by omega⟩
      have hb' : (decide (T < (2 : Int) ^ j * (2 : Int) ^ j)) = true := decide_eq_true hb
      simp! [hm, hb']
    · cases d with
      | zero => exact absurd (by simpa using h) hb
      | succ d =>
        have hb' : (decide (T < (2 : Int) ^ j * (2 : Int) ^ j)) = false := decide_eq_false hb
        have hm2 : gMul (.int ((2 : Int) ^ j)) (.int 2) = some (.int ((2 : Int) ^ (j + 1))) := by
          rw [gMul_ok hs (Sz.lit2 (by decide)).sm, Int.pow_succ]
        have e : RtA (rSt T (some (.dat k)) lo (2 ^ j) x4) = some (.nx (rSt T (some (.dat k)) lo (2 ^ (j + 1)) x4)) := by
          simp! [hm, hb', hm2]
        obtain ⟨J, y1, ih, hJ⟩ := rtA_go T lo x4 d (j + 1) (some (.dat k)) ks (by rw [show j + 1 + d = j + (d + 1) by omega]; exact h) (by simp only [List.length_cons] at hl; omega) (by omega)
        refine ⟨J, y1, ?_, hJ⟩
        generalize RtA = b at e ih ⊢
        simp only [forGo, aName, setD, List.set_cons_succ, List.set_cons_zero, Option.bind_some, e]
        exact ih
theorem sq_lt {a b : Int} (h0 : 0 ≤ a) (h : a * a < b * b) (hb : 0 ≤ b) : a < b := Classical.byContradiction fun n => by
  have := Int.mul_le_mul (show b ≤ a by omega) (show b ≤ a by omega) hb h0
  omega
theorem rtB_go (T : Int) : ∀ (d : Nat) (lo hi : Int) (x1 x4 : Option SV) (ks : List PyData), 0 ≤ lo → lo < hi → Sz 301 hi → lo * lo ≤ T → T < hi * hi → hi - lo ≤ (2 : Int) ^ d → d < ks.length →
    ∃ (r : Int) (y1 y3 y4 : Option SV), forGo (aName 1) RtB ks (rSt T x1 lo hi x4) = some (.nx ⟨[some (.dat (.int T)), y1, some (.dat (.int r)), y3, y4], []⟩) ∧ 0 ≤ r ∧ r * r ≤ T ∧ T < (r + 1) * (r + 1)
  | d, lo, hi, x1, x4, [], h0, h1, hs, h2, h3, h4, hl => by simp at hl
  | d, lo, hi, x1, x4, k :: ks, h0, h1, hs, h2, h3, h4, hl => by
    by_cases hb : hi - lo < 2
    · refine ⟨lo, some (.dat k), some (.dat (.int hi)), x4, ?_, h0, h2, ?_⟩
      · have hb' : (decide (hi - lo < 2)) = true := decide_eq_true hb
        simp! [hb']
      · have : hi = lo + 1 := by omega
        rw [← this]; exact h3
    · cases d with
      | zero => simp at h4; omega
      | succ d =>
        have hb' : (decide (hi - lo < 2)) = false := decide_eq_false hb
        have hd : gDiv (.int (lo + hi)) (.int 2) = some (.int ((lo + hi) / 2)) := gDiv_ok (by decide) (Sz.lit2 (by decide)).sm
        generalize hmid : (lo + hi) / 2 = mid at hd
        have m1 : lo < mid := by omega
        have m2 : mid < hi := by omega
        have sm : Sz 301 mid := Sm.sz (by
          have := hs.sm (m := 301)
          unfold Sm at *; omega)
        have hm := gMul_ok (sm.sm (m := 4000)) (sm.sm (m := 4000))
        rw [Int.pow_succ] at h4
        by_cases hT : T < mid * mid
        · have hT' : (decide (T < mid * mid)) = true := decide_eq_true hT
          have e : RtB (rSt T (some (.dat k)) lo hi x4) = some (.nx (rSt T (some (.dat k)) lo mid (some (.dat (.int mid))))) := by
            simp! [hb', hd, hm, hT']
          obtain ⟨r, y1, y3, y4, ih, hr⟩ := rtB_go T d lo mid (some (.dat k)) (some (.dat (.int mid))) ks h0 m1 sm h2 hT (by omega) (by simp only [List.length_cons] at hl; omega)
          refine ⟨r, y1, y3, y4, ?_, hr⟩
          generalize RtB = b at e ih ⊢
          simp only [forGo, aName, setD, List.set_cons_succ, List.set_cons_zero, Option.bind_some, e]
          exact ih
        · have hT' : (decide (T < mid * mid)) = false := decide_eq_false hT
          have e : RtB (rSt T (some (.dat k)) lo hi x4) = some (.nx (rSt T (some (.dat k)) mid hi (some (.dat (.int mid))))) := by
            simp! [hb', hd, hm, hT']
          obtain ⟨r, y1, y3, y4, ih, hr⟩ := rtB_go T d mid hi (some (.dat k)) (some (.dat (.int mid))) ks (by omega) m2 hs (by omega) h3 (by omega) (by simp only [List.length_cons] at hl; omega)
          refine ⟨r, y1, y3, y4, ?_, hr⟩
          generalize RtB = b at e ih ⊢
          simp only [forGo, aName, setD, List.set_cons_succ, List.set_cons_zero, Option.bind_some, e]
          exact ih
theorem e_lroot {T : Int} (h0 : 0 ≤ T) (h1 : Sm 500 T) : ∃ r, F__law_root [.dat (.int T)] [] = some (.dat (.int r), []) ∧ 0 ≤ r ∧ r * r ≤ T ∧ T < (r + 1) * (r + 1) := by
  have hT : T < (2 : Int) ^ (0 + 250) * (2 : Int) ^ (0 + 250) := by
    rw [← Int.pow_add]
    have : (T.natAbs : Int) < ((2 ^ 500 : Nat) : Int) := Int.ofNat_lt.mpr h1
    rw [Int.natCast_pow] at this
    have e : ((2 : Nat) : Int) ^ 500 = (2 : Int) ^ (0 + 250 + (0 + 250)) := rfl
    rw [← e]
    omega
  obtain ⟨J, y1, e1, hJ, hJ3⟩ := rtA_go T 0 none 250 0 none (rangeD 0 600) hT (by rw [rangeD_len]; omega) (by omega)
  have hp : (0 : Int) < 2 ^ J := Int.pow_pos (by decide)
  have hs : Sz 301 ((2 : Int) ^ J) := Sm.sz (by
    unfold Sm
    rw [Int.natAbs_pow]
    exact Nat.pow_lt_pow_right (by decide) (by omega))
  have hd : (2 : Int) ^ J - 0 ≤ 2 ^ J := by omega
  obtain ⟨r, z1, z3, z4, e2, hr⟩ := rtB_go T J 0 (2 ^ J) y1 none (rangeD 0 600) (by decide) hp hs (by simpa using h0) hJ hd (by rw [rangeD_len]; omega)
  refine ⟨r, ?_, hr⟩
  have a1 : (fAsg (aTup 2 (aCons (aName 2) (aCons (aName 3) aNil))) (fTup (fConsA (fLit (.int 0)) (fConsA (fLit (.int 1)) fNilA)))) ⟨[some (.dat (.int T)), none, none, none, none], []⟩ = some (.nx (rSt T none 0 (2 ^ 0) none)) := by
    simp! []
    rfl
  have a2 : (fFor (fRng1 (fConsA (fLit (.int 600)) fNilA)) (aName 1) RtA) (rSt T none 0 (2 ^ 0) none) = some (.nx (rSt T y1 0 (2 ^ J) none)) := by
    unfold fFor
    rw [rg_of (J := 600) rfl (by decide)]
    exact e1
  have a3 : (fFor (fRng1 (fConsA (fLit (.int 600)) fNilA)) (aName 1) RtB) (rSt T y1 0 (2 ^ J) none) = some (.nx ⟨[some (.dat (.int T)), z1, some (.dat (.int r)), z3, z4], []⟩) := by
    unfold fFor
    rw [rg_of (J := 600) rfl (by decide)]
    exact e2
  have e0 : b__law_root = fSeq (fAsg (aTup 2 (aCons (aName 2) (aCons (aName 3) aNil))) (fTup (fConsA (fLit (.int 0)) (fConsA (fLit (.int 1)) fNilA)))) (fSeq (fFor (fRng1 (fConsA (fLit (.int 600)) fNilA)) (aName 1) RtA) (fSeq (fFor (fRng1 (fConsA (fLit (.int 600)) fNilA)) (aName 1) RtB) (fRet (fVar 2)))) := rfl
  have hall : b__law_root ⟨[.dat (.int T)].map some ++ List.replicate (5 - 1) none, []⟩ = some (.rt (.dat (.int r)) []) := by
    rw [e0]
    exact (seq_nx a1).trans ((seq_nx a2).trans ((seq_nx a3).trans rfl))
  unfold F__law_root mkF
  simp only [List.length_cons, List.length_nil, Nat.reduceAdd, and_self, if_true]
  rw [hall]; rfl
/-! what is drawn, further -/
theorem e_ldot3 {a b c a' b' c' : Int} (ha : Sm 4000 a) (hb : Sm 4000 b) (hc : Sm 4000 c) (ha' : Sm 4000 a') (hb' : Sm 4000 b') (hc' : Sm 4000 c') : F__law_dot [.dat (T3 a b c), .dat (T3 a' b' c')] [] = some (.dat (.int (a * a' + b * b' + c * c')), []) := by
  simpa! [*, F__law_dot, b__law_dot, List.sum_cons, List.sum_nil, Int.add_zero, Int.add_assoc]
theorem mem6 {x a b c d e f : PyData} (h : x ∈ [a, b, c, d, e, f]) : x = a ∨ x = b ∨ x = c ∨ x = d ∨ x = e ∨ x = f := by simpa using h
theorem kd1 {q u v : Int} (h : (q, u, v) ∈ [((1 : Int), (0 : Int), (0 : Int)), (-1, 0, 0), (0, 1, 0), (0, -1, 0), (0, 0, 1), (0, 0, -1)]) : Kd 30 q u v 1 := by
  simp only [List.mem_cons, Prod.mk.injEq, List.not_mem_nil, or_false] at h
  rcases h with ⟨rfl, rfl, rfl⟩ | ⟨rfl, rfl, rfl⟩ | ⟨rfl, rfl, rfl⟩ | ⟨rfl, rfl, rfl⟩ | ⟨rfl, rfl, rfl⟩ | ⟨rfl, rfl, rfl⟩ <;>
    exact ⟨by decide, by decide, by decide, (Sz.lit2 (by decide)).by _ (by decide), (Sz.lit2 (by decide)).by _ (by decide), (Sz.lit2 (by decide)).by _ (by decide), (Sz.lit2 (by decide)).by _ (by decide)⟩
theorem sz30 {x : Int} (h : x.natAbs < 2 ^ 30) : Sz 30 x := Sm.sz h
theorem e_hue {k : Nat} {t : List PyData} (h : Tap (k + 5) t) : ∃ q u v n t', F__law_hue [.cel 0] [t] = some (.dat (T4 q u v n), [t']) ∧ Tap k t' ∧ Kd 30 q u v n := by
  obtain ⟨w, t1, e1, h1, w0, w1⟩ := e_from (m := 9) h (by decide) (by decide)
  by_cases hw : w < 6
  · have hx : ∃ q u v : Int, atI [T4 1 0 0 1, T4 (-1) 0 0 1, T4 0 1 0 1, T4 0 (-1) 0 1, T4 0 0 1 1, T4 0 0 (-1) 1] w = some (T4 q u v 1) ∧ (q, u, v) ∈ [((1 : Int), (0 : Int), (0 : Int)), (-1, 0, 0), (0, 1, 0), (0, -1, 0), (0, 0, 1), (0, 0, -1)] := by
      have hc : w = 0 ∨ w = 1 ∨ w = 2 ∨ w = 3 ∨ w = 4 ∨ w = 5 := by omega
      rcases hc with rfl | rfl | rfl | rfl | rfl | rfl
      · exact ⟨_, _, _, rfl, by simp⟩
      · exact ⟨_, _, _, rfl, by simp⟩
      · exact ⟨_, _, _, rfl, by simp⟩
      · exact ⟨_, _, _, rfl, by simp⟩
      · exact ⟨_, _, _, rfl, by simp⟩
      · exact ⟨_, _, _, rfl, by simp⟩
    obtain ⟨q, u, v, ex, hm⟩ := hx
    refine ⟨q, u, v, 1, t1, ?_, h1.le (by omega), kd1 hm⟩
    simpa! [F__law_hue, b__law_hue, e1, hw, ex]
  · obtain ⟨z, t2, e2, h2, hz⟩ := e_pickn [2, 2, 5] h1 (by decide) (by decide)
    have z0 : 0 < z ∧ z ≤ 5 := by simp only [List.mem_cons, List.not_mem_nil, or_false] at hz; omega
    have hm : gMul (.int 2) (.int z) = some (.int (2 * z)) := gMul_sm (by decide) (by decide) (by omega) (by omega)
    obtain ⟨x, t3, e3, h3, x0, x1⟩ := e_from (m := 2 * z + 1) h2 (by omega) (by omega)
    obtain ⟨y, t4, e4, h4, y0, y1⟩ := e_from (m := 2 * z + 1) h3 (by omega) (by omega)
    obtain ⟨r, t5, e5, h5, r0, r1⟩ := e_from (m := z) h4 (by omega) (by omega)
    have sx : Sz 5 (x - z) := Sm.sz (by unfold Sm; omega)
    have sy : Sz 5 (y - z) := Sm.sz (by unfold Sm; omega)
    have sr : Sz 5 (1 + r) := Sm.sz (by unfold Sm; omega)
    have hr : 0 < 1 + r := by omega
    simp only [List.map_cons, List.map_nil] at e2
    have hp := Int.mul_pos hr hr
    have hX := sq_nn (x - z)
    have hY := sq_nn (y - z)
    refine ⟨_, _, _, _, t5, ?_, h5, kd_R4 (m := 30) (q := 2 * (x - z) * (1 + r)) (u := 2 * (y - z) * (1 + r)) (v := (1 + r) * (1 + r) - (x - z) * (x - z) - (y - z) * (y - z)) (n := (1 + r) * (1 + r) + (x - z) * (x - z) + (y - z) * (y - z)) (by omega) ?_ (by (apply Sz.by; (repeat (first | assumption | exact sz_0 | exact sz_1 | exact sz_2 | exact sz_3 | exact sz_4 | exact sz_8 | exact Sz.of40 (by decide) | apply Sz.mul | apply Sz.add | apply Sz.sub | apply Sz.neg | apply Sz.div)); decide)) (by (apply Sz.by; (repeat (first | assumption | exact sz_0 | exact sz_1 | exact sz_2 | exact sz_3 | exact sz_4 | exact sz_8 | exact Sz.of40 (by decide) | apply Sz.mul | apply Sz.add | apply Sz.sub | apply Sz.neg | apply Sz.div)); decide)) (by (apply Sz.by; (repeat (first | assumption | exact sz_0 | exact sz_1 | exact sz_2 | exact sz_3 | exact sz_4 | exact sz_8 | exact Sz.of40 (by decide) | apply Sz.mul | apply Sz.add | apply Sz.sub | apply Sz.neg | apply Sz.div)); decide)) (by (apply Sz.by; (repeat (first | assumption | exact sz_0 | exact sz_1 | exact sz_2 | exact sz_3 | exact sz_4 | exact sz_8 | exact Sz.of40 (by decide) | apply Sz.mul | apply Sz.add | apply Sz.sub | apply Sz.neg | apply Sz.div)); decide))⟩
    · simpa! [F__law_hue, b__law_hue, e1, hw, e2, hm, e3, e4, e5, e_ll4, sx, sy, sr]
    · generalize x - z = X
      generalize y - z = Y
      generalize 1 + r = R
      grind
theorem lt_dark0 : Lt 40 0 0 0 0 1 := ⟨by decide, by decide, by decide, by decide, (Sz.lit2 (by decide)).by _ (by decide), (Sz.lit2 (by decide)).by _ (by decide), (Sz.lit2 (by decide)).by _ (by decide), (Sz.lit2 (by decide)).by _ (by decide), (Sz.lit2 (by decide)).by _ (by decide)⟩
theorem sz10 {x : Int} (h0 : -500 ≤ x) (h1 : x ≤ 500) : Sz 9 x := Sm.sz (by unfold Sm; omega)
theorem e_shine {k : Nat} {t : List PyData} (h : Tap (k + 10) t) : ∃ i q u v n t', F__law_shine [.cel 0] [t] = some (.dat (T5 i q u v n), [t']) ∧ Tap k t' ∧ Lt 40 i q u v n := by
  obtain ⟨w, t1, e1, h1, w0, w1⟩ := e_from (m := 9) h (by decide) (by decide)
  obtain ⟨z, t2, e2, h2, hz⟩ := e_pickn [1, 3, 3, 20] h1 (by decide) (by decide)
  have z0 : 0 < z ∧ z ≤ 20 := by simp only [List.mem_cons, List.not_mem_nil, or_false] at hz; omega
  obtain ⟨b, t3, e3, h3, b0, b1⟩ := e_from (m := z) h2 (by omega) (by omega)
  simp only [List.map_cons, List.map_nil] at e2
  have sb : Sz 9 (1 + b) := sz10 (by omega) (by omega)
  have hb : 0 < 1 + b := by omega
  have s0 : Sz 2 (0 : Int) := Sz.lit2 (by decide)
  by_cases c0 : w = 0
  · subst c0
    refine ⟨_, _, _, _, _, t3, ?_, h3.le (by omega), lt_dark0⟩
    simpa! [F__law_shine, b__law_shine, e1, e2, e3, gEq_int]
  have n0 : (w == 0) = false := beq_eq_false_iff_ne.mpr c0
  by_cases c1 : w = 1
  · subst c1
    obtain ⟨x, t4, e4, h4, x0, x1⟩ := e_from (m := 5) h3 (by decide) (by decide)
    have sx : Sz 9 (1 + x) := sz10 (by omega) (by omega)
    have hx := sq_nn (1 + x)
    refine ⟨_, _, _, _, _, t4, ?_, h4.le (by omega), lt_R5 (m := 40) (i := 1 + x) (q := 0) (u := 0) (v := 0) (n := 1 + b) (by omega) (by omega) (by omega) (by (apply Sz.by; (repeat (first | assumption | exact sz_0 | exact sz_1 | exact sz_2 | exact sz_3 | exact sz_4 | exact sz_8 | exact Sz.of40 (by decide) | apply Sz.mul | apply Sz.add | apply Sz.sub | apply Sz.neg | apply Sz.div)); decide)) (by (apply Sz.by; (repeat (first | assumption | exact sz_0 | exact sz_1 | exact sz_2 | exact sz_3 | exact sz_4 | exact sz_8 | exact Sz.of40 (by decide) | apply Sz.mul | apply Sz.add | apply Sz.sub | apply Sz.neg | apply Sz.div)); decide)) (by (apply Sz.by; (repeat (first | assumption | exact sz_0 | exact sz_1 | exact sz_2 | exact sz_3 | exact sz_4 | exact sz_8 | exact Sz.of40 (by decide) | apply Sz.mul | apply Sz.add | apply Sz.sub | apply Sz.neg | apply Sz.div)); decide)) (by (apply Sz.by; (repeat (first | assumption | exact sz_0 | exact sz_1 | exact sz_2 | exact sz_3 | exact sz_4 | exact sz_8 | exact Sz.of40 (by decide) | apply Sz.mul | apply Sz.add | apply Sz.sub | apply Sz.neg | apply Sz.div)); decide)) (by (apply Sz.by; (repeat (first | assumption | exact sz_0 | exact sz_1 | exact sz_2 | exact sz_3 | exact sz_4 | exact sz_8 | exact Sz.of40 (by decide) | apply Sz.mul | apply Sz.add | apply Sz.sub | apply Sz.neg | apply Sz.div)); decide))⟩
    simpa! [F__law_shine, b__law_shine, e1, e2, e3, e4, gEq_int, n0, e_ll5, sx, sb]
  have n1 : (w == 1) = false := beq_eq_false_iff_ne.mpr c1
  by_cases c5 : w < 5
  · obtain ⟨q, u, v, n, t4, e4, h4, hk⟩ := e_hue (k := k + 1) (h3.le (by omega))
    obtain ⟨x, t5, e5, h5, x0, x1⟩ := e_from (m := 4) h4 (by decide) (by decide)
    obtain ⟨kn, ks, ko, sq, su, sv, sn⟩ := hk
    have sx : Sz 9 (1 + x) := sz10 (by omega) (by omega)
    refine ⟨_, _, _, _, _, t5, ?_, h5.le (by omega), lt_R5 (m := 40) (i := (1 + x) * n) (q := (1 + x) * q) (u := (1 + x) * u) (v := (1 + x) * v) (n := 1 + b) (Int.mul_nonneg (by omega) (by omega)) (by omega) ?_ (by (apply Sz.by; (repeat (first | assumption | exact sz_0 | exact sz_1 | exact sz_2 | exact sz_3 | exact sz_4 | exact sz_8 | exact Sz.of40 (by decide) | apply Sz.mul | apply Sz.add | apply Sz.sub | apply Sz.neg | apply Sz.div)); decide)) (by (apply Sz.by; (repeat (first | assumption | exact sz_0 | exact sz_1 | exact sz_2 | exact sz_3 | exact sz_4 | exact sz_8 | exact Sz.of40 (by decide) | apply Sz.mul | apply Sz.add | apply Sz.sub | apply Sz.neg | apply Sz.div)); decide)) (by (apply Sz.by; (repeat (first | assumption | exact sz_0 | exact sz_1 | exact sz_2 | exact sz_3 | exact sz_4 | exact sz_8 | exact Sz.of40 (by decide) | apply Sz.mul | apply Sz.add | apply Sz.sub | apply Sz.neg | apply Sz.div)); decide)) (by (apply Sz.by; (repeat (first | assumption | exact sz_0 | exact sz_1 | exact sz_2 | exact sz_3 | exact sz_4 | exact sz_8 | exact Sz.of40 (by decide) | apply Sz.mul | apply Sz.add | apply Sz.sub | apply Sz.neg | apply Sz.div)); decide)) (by (apply Sz.by; (repeat (first | assumption | exact sz_0 | exact sz_1 | exact sz_2 | exact sz_3 | exact sz_4 | exact sz_8 | exact Sz.of40 (by decide) | apply Sz.mul | apply Sz.add | apply Sz.sub | apply Sz.neg | apply Sz.div)); decide))⟩
    · simpa! [F__law_shine, b__law_shine, e1, e2, e3, e4, e5, gEq_int, n0, n1, c5, e_ll5, sx, sb, sq, su, sv, sn]
    · have : (1 + x) * n * ((1 + x) * n) - ((1 + x) * q * ((1 + x) * q) + (1 + x) * u * ((1 + x) * u) + (1 + x) * v * ((1 + x) * v)) = (1 + x) * (1 + x) * (n * n - (q * q + u * u + v * v)) := by
        generalize 1 + x = X
        grind
      rw [this, ks, Int.sub_self, Int.mul_zero]
      exact Int.le_refl 0
  · obtain ⟨x, t4, e4, h4, x0, x1⟩ := e_low (k := k + 5) (h3.le (by omega))
    obtain ⟨y, t5, e5, h5, y0, y1⟩ := e_low (k := k + 3) h4
    obtain ⟨r, t6, e6, h6, r0, r1⟩ := e_low (k := k + 1) h5
    have sx : Sz 9 x := sz10 (by omega) (by omega)
    have sy : Sz 9 y := sz10 (by omega) (by omega)
    have sr : Sz 9 r := sz10 (by omega) (by omega)
    have hx := sq_nn x
    have hy := sq_nn y
    have hr := sq_nn r
    have sT : Sz 20 (x * x + y * y + r * r) := by (apply Sz.by; (repeat (first | assumption | exact sz_0 | exact sz_1 | exact sz_2 | exact sz_3 | exact sz_4 | exact sz_8 | exact Sz.of40 (by decide) | apply Sz.mul | apply Sz.add | apply Sz.sub | apply Sz.neg | apply Sz.div)); decide)
    have hd := e_ldot3 sx.sm sy.sm sr.sm sx.sm sy.sm sr.sm
    generalize hT : x * x + y * y + r * r = T at hd sT
    obtain ⟨l, e7, l0, l1, l2⟩ := e_lroot (T := T) (by omega) sT.sm
    have sl : Sz 30 l := Sm.sz (by
      have hT2 := sT.sm (m := 20)
      have : l < 2 ^ 30 := sq_lt l0 (Int.lt_of_le_of_lt l1 (by unfold Sm at hT2; omega)) (by decide)
      unfold Sm; omega)
    have hll := gMul_ok (sl.sm (m := 4000)) (sl.sm (m := 4000))
    obtain ⟨g, t7, e8, h7, hg⟩ := e_pickn [0, 0, 1, 2, 9] h6 (by decide) (by decide)
    have hg' : 0 ≤ g ∧ g ≤ 9 := by simp only [List.mem_cons, List.not_mem_nil, or_false] at hg; omega
    simp only [List.map_cons, List.map_nil] at e8
    have key : ∀ c : Int, 0 ≤ c → c ≤ 1 → T ≤ (l + c) * (l + c) → Lt 40 ((l + c + g) / mL [l + c + g, x, y, r, 1 + b]) (x / mL [l + c + g, x, y, r, 1 + b]) (y / mL [l + c + g, x, y, r, 1 + b]) (r / mL [l + c + g, x, y, r, 1 + b]) ((1 + b) / mL [l + c + g, x, y, r, 1 + b]) := fun c c0 c1 hc => by
      have sc : Sz 9 c := sz10 (by omega) (by omega)
      have sg : Sz 9 g := sz10 (by omega) (by omega)
      have h1 : (l + c) * (l + c) ≤ (l + c + g) * (l + c + g) := Int.mul_le_mul (by omega) (by omega) (by omega) (by omega)
      exact lt_R5 (by omega) (by omega) (by omega) (by (apply Sz.by; (repeat (first | assumption | exact sz_0 | exact sz_1 | exact sz_2 | exact sz_3 | exact sz_4 | exact sz_8 | exact Sz.of40 (by decide) | apply Sz.mul | apply Sz.add | apply Sz.sub | apply Sz.neg | apply Sz.div)); decide)) (by (apply Sz.by; (repeat (first | assumption | exact sz_0 | exact sz_1 | exact sz_2 | exact sz_3 | exact sz_4 | exact sz_8 | exact Sz.of40 (by decide) | apply Sz.mul | apply Sz.add | apply Sz.sub | apply Sz.neg | apply Sz.div)); decide)) (by (apply Sz.by; (repeat (first | assumption | exact sz_0 | exact sz_1 | exact sz_2 | exact sz_3 | exact sz_4 | exact sz_8 | exact Sz.of40 (by decide) | apply Sz.mul | apply Sz.add | apply Sz.sub | apply Sz.neg | apply Sz.div)); decide)) (by (apply Sz.by; (repeat (first | assumption | exact sz_0 | exact sz_1 | exact sz_2 | exact sz_3 | exact sz_4 | exact sz_8 | exact Sz.of40 (by decide) | apply Sz.mul | apply Sz.add | apply Sz.sub | apply Sz.neg | apply Sz.div)); decide)) (by (apply Sz.by; (repeat (first | assumption | exact sz_0 | exact sz_1 | exact sz_2 | exact sz_3 | exact sz_4 | exact sz_8 | exact Sz.of40 (by decide) | apply Sz.mul | apply Sz.add | apply Sz.sub | apply Sz.neg | apply Sz.div)); decide))
    have sg : Sz 9 g := sz10 (by omega) (by omega)
    by_cases hlT : l * l < T
    · have hlT' : (decide (l * l < T)) = true := decide_eq_true hlT
      refine ⟨_, _, _, _, _, t7, ?_, h7.le (by omega), key 1 (by decide) (by decide) (by omega)⟩
      simpa! [F__law_shine, b__law_shine, e1, e2, e3, e4, e5, e6, gEq_int, n0, n1, c5, hd, e7, hll, hlT', e8, e_ll5, sx, sy, sr, sb, sg, sl]
    · have hlT' : (decide (l * l < T)) = false := decide_eq_false hlT
      refine ⟨_, _, _, _, _, t7, ?_, h7.le (by omega), key 0 (by decide) (by decide) (by rw [Int.add_zero]; omega)⟩
      simpa! [F__law_shine, b__law_shine, e1, e2, e3, e4, e5, e6, gEq_int, n0, n1, c5, hd, e7, hll, hlT', e8, e_ll5, sx, sy, sr, sb, sg, sl]
theorem e_lit {k : Nat} {t : List PyData} (h : Tap (k + 11) t) : ∃ i q u v n t', F__law_lit [.cel 0] [t] = some (.dat (T5 i q u v n), [t']) ∧ Tap k t' ∧ Lt 40 i q u v n ∧ 0 < i := by
  obtain ⟨i, q, u, v, n, t1, e1, h1, hl⟩ := e_shine (k := k + 1) h
  by_cases hi : 0 < i
  · refine ⟨i, q, u, v, n, t1, ?_, h1.le (by omega), hl, hi⟩
    simpa! [F__law_lit, b__law_lit, e1, hi]
  · obtain ⟨x, t2, e2, h2, x0, x1⟩ := e_from (m := 3) h1 (by decide) (by decide)
    refine ⟨1 + x, 1, 0, 0, 1, t2, ?_, h2, ?_, by omega⟩
    · simpa! [F__law_lit, b__law_lit, e1, hi, e2]
    · have hc : x = 0 ∨ x = 1 ∨ x = 2 := by omega
      have s1 : Sz 2 (1 : Int) := Sz.lit2 (by decide)
      have s0 : Sz 2 (0 : Int) := Sz.lit2 (by decide)
      have sx : Sz 9 (1 + x) := sz10 (by omega) (by omega)
      rcases hc with rfl | rfl | rfl <;> exact ⟨by decide, by decide, by decide, by decide, sx.by _ (by decide), s1.by _ (by decide), s0.by _ (by decide), s0.by _ (by decide), s1.by _ (by decide)⟩
theorem e_eye {k : Nat} {t : List PyData} (h : Tap (k + 11) t) : ∃ a b c d t', F__law_eye [.cel 0] [t] = some (.dat (T4 a b c d), [t']) ∧ Tap k t' ∧ Lk 40 a b c d := by
  obtain ⟨i, q, u, v, n, t1, e1, h1, hl, hi⟩ := e_lit (k := k) h
  obtain ⟨i0, n0, hc, h1', si, sq, su, sv, sn⟩ := hl
  refine ⟨_, _, _, _, t1, ?_, h1, lk_R4 (m := 40) hi hc si sq su sv⟩
  simpa! [F__law_eye, b__law_eye, e1, e_ll4, si, sq, su, sv]
theorem e_level' {k : Nat} {t : List PyData} (h : Tap (k + 6) t) : ∃ p q t', F__law_level [.cel 0] [t] = some (.dat (T2 p q), [t']) ∧ Tap k t' ∧ Fr 40 p q ∧ 0 ≤ p := by
  obtain ⟨w, t1, e1, h1, w0, w1⟩ := e_from (m := 6) h (by decide) (by decide)
  obtain ⟨z, t2, e2, h2, hz⟩ := e_pickn [5, 12, 200] h1 (by decide) (by decide)
  have z0 : 0 < z ∧ z ≤ 200 := by simp only [List.mem_cons, List.not_mem_nil, or_false] at hz; omega
  obtain ⟨p, t3, e3, h3, p0, p1⟩ := e_from (m := z) h2 (by omega) (by omega)
  obtain ⟨y, t4, e4, h4, hy⟩ := e_pickn [1, 4, 20] h3 (by decide) (by decide)
  have y0 : 0 < y ∧ y ≤ 20 := by simp only [List.mem_cons, List.not_mem_nil, or_false] at hy; omega
  obtain ⟨b, t5, e5, h5, b0, b1⟩ := e_from (m := y) h4 (by omega) (by omega)
  simp only [List.map_cons, List.map_nil] at e2 e4
  have sp : Sz 9 p := sz10 (by omega) (by omega)
  have sb : Sz 9 (1 + b) := sz10 (by omega) (by omega)
  have hb : 0 < 1 + b := by omega
  have hbb := Int.mul_pos hb hb
  have hpp := sq_nn p
  have fin : ∀ P Q : Int, 0 ≤ P → 0 < Q → Sz 40 P → Sz 40 Q → Fr 40 (P / rg P Q) (Q / rg P Q) ∧ 0 ≤ P / rg P Q := fun P Q h0 hq sP sQ => ⟨rt_fr hq sP sQ, Int.ediv_nonneg h0 (Int.le_of_lt (rg_pos hq))⟩
  by_cases c2 : w < 2
  · obtain ⟨f1, f2⟩ := fin (p * p) ((1 + b) * (1 + b)) hpp hbb (by (apply Sz.by; (repeat (first | assumption | exact sz_0 | exact sz_1 | exact sz_2 | exact sz_3 | exact sz_4 | exact sz_8 | exact Sz.of40 (by decide) | apply Sz.mul | apply Sz.add | apply Sz.sub | apply Sz.neg | apply Sz.div)); decide)) (by (apply Sz.by; (repeat (first | assumption | exact sz_0 | exact sz_1 | exact sz_2 | exact sz_3 | exact sz_4 | exact sz_8 | exact Sz.of40 (by decide) | apply Sz.mul | apply Sz.add | apply Sz.sub | apply Sz.neg | apply Sz.div)); decide))
    refine ⟨_, _, t5, ?_, h5.le (by omega), f1, f2⟩
    simpa! [F__law_level, b__law_level, e1, e2, e3, e4, e5, c2, e_lratio, hbb, sp, sb]
  by_cases c3 : w = 2
  · subst c3
    obtain ⟨x, t6, e6, h6, x0, x1⟩ := e_from (m := 3) h5 (by decide) (by decide)
    have sx : Sz 9 x := sz10 (by omega) (by omega)
    obtain ⟨f1, f2⟩ := fin (p * p + x) ((1 + b) * (1 + b)) (by omega) hbb (by (apply Sz.by; (repeat (first | assumption | exact sz_0 | exact sz_1 | exact sz_2 | exact sz_3 | exact sz_4 | exact sz_8 | exact Sz.of40 (by decide) | apply Sz.mul | apply Sz.add | apply Sz.sub | apply Sz.neg | apply Sz.div)); decide)) (by (apply Sz.by; (repeat (first | assumption | exact sz_0 | exact sz_1 | exact sz_2 | exact sz_3 | exact sz_4 | exact sz_8 | exact Sz.of40 (by decide) | apply Sz.mul | apply Sz.add | apply Sz.sub | apply Sz.neg | apply Sz.div)); decide))
    refine ⟨_, _, t6, ?_, h6, f1, f2⟩
    simpa! [F__law_level, b__law_level, e1, e2, e3, e4, e5, e6, c2, gEq_int, e_lratio, hbb, sp, sb, sx]
  · have c3' : (w == 2) = false := beq_eq_false_iff_ne.mpr c3
    obtain ⟨f1, f2⟩ := fin p (1 + b) p0 hb (by (apply Sz.by; (repeat (first | assumption | exact sz_0 | exact sz_1 | exact sz_2 | exact sz_3 | exact sz_4 | exact sz_8 | exact Sz.of40 (by decide) | apply Sz.mul | apply Sz.add | apply Sz.sub | apply Sz.neg | apply Sz.div)); decide)) (by (apply Sz.by; (repeat (first | assumption | exact sz_0 | exact sz_1 | exact sz_2 | exact sz_3 | exact sz_4 | exact sz_8 | exact Sz.of40 (by decide) | apply Sz.mul | apply Sz.add | apply Sz.sub | apply Sz.neg | apply Sz.div)); decide))
    refine ⟨_, _, t5, ?_, h5.le (by omega), f1, f2⟩
    simpa! [F__law_level, b__law_level, e1, e2, e3, e4, e5, c2, gEq_int, c3', e_lratio, hb, sp, sb]
end PL


set_option Elab.async false
set_option linter.all false
set_option maxRecDepth 100000
set_option maxHeartbeats 400000
set_option exponentiation.threshold 20000
namespace PL
open PySem PySem.Spec L2 DL
local macro_rules | `(tactic| simp! [$as,*]) => `(tactic| simp only [fThaw, fThawT, fThawL, thawD, thawO, noL, noLAll, fAug, gAug, fRev, fFnA, fCallV, fBot, fZip, zipD, gSum, intsOf, List.foldl_cons, List.foldl_nil, mkF, fRet, fRetL, fRetN, fSkip, fSeq, fNever, fSet, fAsg, fNew, fIfS, fDrop, fPar, fPar3, fSetc, fSetc2, fVar, fLit, fOp, fUn, fTup, fTup.datsOf, fLst, fNilA, fConsA, fStarA, fCelA, fOfL, fTru, fAndT, fOrT, fNotT, fAndV, fOrV, fNotV, fIf, fBi, fCall, fCallL, fCallFr, fPerm, callF, celOf, celsOk, norm, aName, aNil, aCons, aTup, setD, fSl, fIt, fItL, fItT, fFor, forGo, fLc, lcGo, fYes, wipeD, fCix, fList, fSlL, fPart, fNoPart, fChain, List.length_cons, List.length_nil, List.getElem?_cons_zero, List.getElem?_cons_succ, List.getElem?_nil, List.set_cons_zero, List.set_cons_succ, List.map_cons, List.map_nil, List.cons_append, List.nil_append, List.append_nil, List.replicate, List.take_zero, List.take_nil, List.take_succ_cons, ↓bsome, ↓msome, Option.bind_some, Option.map_some, Option.bind_none, Option.map_none, Nat.sub_self, Int.cast_ofNat_Int, Nat.reduceAdd, Nat.reduceMul, Nat.reduceSub, Nat.reduceLeDiff, Nat.reduceLT, Nat.zero_add, Nat.add_zero, and_self, and_true, true_and, if_true, if_false, ↓reduceIte, ite_true, Bool.true_eq_false, Bool.false_eq_true, beq_self_eq_true, Bool.and_self, Bool.not_true, Bool.not_false, decide_true, decide_false, gLen, gTyIs, gTyNot, tyOf, gNeg, gPlus, DL.gSub, gCmp, gInt, gAbs, gTuple, gMax, gMin, gGcd, LIM, gIx, $as,*])
local macro_rules | `(tactic| simpa! [$as,*]) => `(tactic| simp (maxDischargeDepth := 40) only [fThaw, fThawT, fThawL, thawD, thawO, noL, noLAll, fAug, gAug, fRev, fFnA, fCallV, fBot, fZip, zipD, gSum, intsOf, List.foldl_cons, List.foldl_nil, mkF, fRet, fRetL, fRetN, fSkip, fSeq, fNever, fSet, fAsg, fNew, fIfS, fDrop, fPar, fPar3, fSetc, fSetc2, fVar, fLit, fOp, fUn, fTup, fTup.datsOf, fLst, fNilA, fConsA, fStarA, fCelA, fOfL, fTru, fAndT, fOrT, fNotT, fAndV, fOrV, fNotV, fIf, fBi, fCall, fCallL, fCallFr, fPerm, callF, celOf, celsOk, norm, aName, aNil, aCons, aTup, setD, fSl, fIt, fItL, fItT, fFor, forGo, fLc, lcGo, fYes, wipeD, fCix, fList, fSlL, fPart, fNoPart, fChain, List.length_cons, List.length_nil, List.getElem?_cons_zero, List.getElem?_cons_succ, List.getElem?_nil, List.set_cons_zero, List.set_cons_succ, List.map_cons, List.map_nil, List.cons_append, List.nil_append, List.append_nil, List.replicate, List.take_zero, List.take_nil, List.take_succ_cons, ↓bsome, ↓msome, Option.bind_some, Option.map_some, Option.bind_none, Option.map_none, Nat.sub_self, Int.cast_ofNat_Int, Nat.reduceAdd, Nat.reduceMul, Nat.reduceSub, Nat.reduceLeDiff, Nat.reduceLT, Nat.zero_add, Nat.add_zero, and_self, and_true, true_and, if_true, if_false, ↓reduceIte, ite_true, Bool.true_eq_false, Bool.false_eq_true, beq_self_eq_true, Bool.and_self, Bool.not_true, Bool.not_false, decide_true, decide_false, gLen, gTyIs, gTyNot, tyOf, gNeg, gPlus, DL.gSub, gCmp, gInt, gAbs, gTuple, gMax, gMin, gGcd, LIM, gIx, ix1_0, ix2_0, ix2_1, ix3_0, ix3_1, ix3_2, ix4_0, ix4_1, ix4_2, ix4_3, ix5_0, ix5_1, ix5_2, ix5_3, ix5_4, ix6_0, ix6_1, ix6_2, ix6_3, ix6_4, ix6_5, cut5_04, cut5_14, cut4_04, cut4_03, cut4_14, Sm.mul, Sm.add, Sm.sub, Sm.neg, Sm.div, Sm.lit, sz_0, sz_1, sz_2, sz_3, sz_4, sz_8, Nat.reduceDiv, Nat.reduceSub, Nat.reduceLT, Nat.reduceLeDiff, Int.reduceLT, Int.reduceNeg, Int.mul_pos, gMul_ok, gDiv_ok, gMod_ok, $as,*])
theorem lt_kin {m : Nat} {q u v n x b : Int} (h : Kd m q u v n) (hx : 0 < x) (hb : 0 < b) (sx : Sz 9 x) (sb : Sz 9 b) : 0 ≤ x * n ∧ 0 ≤ x * n * (x * n) - (x * q * (x * q) + x * u * (x * u) + x * v * (x * v)) := by
  refine ⟨Int.mul_nonneg (by omega) (Int.le_of_lt h.n0), ?_⟩
  have : x * n * (x * n) - (x * q * (x * q) + x * u * (x * u) + x * v * (x * v)) = x * x * (n * n - (q * q + u * u + v * v)) := by grind
  rw [this, h.sph, Int.sub_self, Int.mul_zero]
  exact Int.le_refl 0
theorem Kd.neg {m : Nat} {q u v n : Int} (h : Kd m q u v n) : Kd m (0 - q) (0 - u) (0 - v) n := by
  obtain ⟨n0, hs, ho, sq, su, sv, sn⟩ := h
  have e : ∀ x : Int, (0 - x).natAbs = x.natAbs := fun x => by omega
  refine ⟨n0, ?_, ?_, fun k => ?_, fun k => ?_, fun k => ?_, sn⟩
  · rw [← hs]; grind
  · rw [← ho]; simp only [gL, e]
  · have := sq k; unfold Sm at *; rw [e]; exact this
  · have := su k; unfold Sm at *; rw [e]; exact this
  · have := sv k; unfold Sm at *; rw [e]; exact this
/-- a light, often of the kind of the one that is told or of the opposite one -/
theorem e_kin {k : Nat} {t : List PyData} {i q u v n : Int} (h : Tap (k + 11) t) (hl : Lt 40 i q u v n) : ∃ i' q' u' v' n' t', F__law_kin [.cel 0, .dat (T5 i q u v n)] [t] = some (.dat (T5 i' q' u' v' n'), [t']) ∧ Tap k t' ∧ Lt 60 i' q' u' v' n' := by
  obtain ⟨w, t1, e1, h1, w0, w1⟩ := e_from (m := 4) h (by decide) (by decide)
  by_cases hk : i ≠ 0 ∧ i * i - (q * q + u * u + v * v) = 0
  · have ek := e_kindof (hl.up (by decide : 40 ≤ 1000)) hk.1 hk.2
    have hi := hl.i0
    have hK := kd_R4 (m := 40) (q := q) (u := u) (v := v) (n := i) (by omega) (by omega) hl.sq hl.su hl.sv hl.si
    unfold R4 at ek
    generalize q / mL [q, u, v, i] = a, u / mL [q, u, v, i] = b, v / mL [q, u, v, i] = c, i / mL [q, u, v, i] = d at ek hK
    by_cases hw : 1 < w
    · obtain ⟨i', q', u', v', n', t2, e2, h2, hl2⟩ := e_shine (k := k) h1
      refine ⟨i', q', u', v', n', t2, ?_, h2, hl2.up (by decide)⟩
      simpa! [F__law_kin, b__law_kin, ek, e1, hw, e2, gIsN, isNone]
    · obtain ⟨x, t2, e2, h2, x0, x1⟩ := e_from (m := 4) (h1.le (by omega : k + 2 ≤ k + 10)) (by decide) (by decide)
      obtain ⟨y, t3, e3, h3, y0, y1⟩ := e_from (m := 6) h2 (by decide) (by decide)
      have sx : Sz 9 (1 + x) := sz10 (by omega) (by omega)
      have sy : Sz 9 (1 + y) := sz10 (by omega) (by omega)
      have hx : 0 < 1 + x := by omega
      have hy : 0 < 1 + y := by omega
      have hN := hK.neg
      by_cases hz : w = 0
      · subst hz
        obtain ⟨k0, k1⟩ := lt_kin hK hx hy sx sy
        obtain ⟨n0, hs, ho, sa, sb, sc, sd⟩ := hK
        refine ⟨_, _, _, _, _, t3, ?_, h3, lt_R5 (m := 60) k0 hy k1 (by (apply Sz.by; (repeat (first | assumption | exact sz_0 | exact sz_1 | exact sz_2 | exact sz_3 | exact sz_4 | exact sz_8 | exact Sz.of40 (by decide) | apply Sz.mul | apply Sz.add | apply Sz.sub | apply Sz.neg | apply Sz.div)); decide)) (by (apply Sz.by; (repeat (first | assumption | exact sz_0 | exact sz_1 | exact sz_2 | exact sz_3 | exact sz_4 | exact sz_8 | exact Sz.of40 (by decide) | apply Sz.mul | apply Sz.add | apply Sz.sub | apply Sz.neg | apply Sz.div)); decide)) (by (apply Sz.by; (repeat (first | assumption | exact sz_0 | exact sz_1 | exact sz_2 | exact sz_3 | exact sz_4 | exact sz_8 | exact Sz.of40 (by decide) | apply Sz.mul | apply Sz.add | apply Sz.sub | apply Sz.neg | apply Sz.div)); decide)) (by (apply Sz.by; (repeat (first | assumption | exact sz_0 | exact sz_1 | exact sz_2 | exact sz_3 | exact sz_4 | exact sz_8 | exact Sz.of40 (by decide) | apply Sz.mul | apply Sz.add | apply Sz.sub | apply Sz.neg | apply Sz.div)); decide)) (by (apply Sz.by; (repeat (first | assumption | exact sz_0 | exact sz_1 | exact sz_2 | exact sz_3 | exact sz_4 | exact sz_8 | exact Sz.of40 (by decide) | apply Sz.mul | apply Sz.add | apply Sz.sub | apply Sz.neg | apply Sz.div)); decide))⟩
        simpa! [F__law_kin, b__law_kin, ek, e1, hw, e2, e3, gIsN, isNone, gEq_int, e_ll5, sx, sy, sa, sb, sc, sd]
      · have hz' : (w == 0) = false := beq_eq_false_iff_ne.mpr hz
        obtain ⟨k0, k1⟩ := lt_kin hN hx hy sx sy
        obtain ⟨n0, hs, ho, sa, sb, sc, sd⟩ := hN
        refine ⟨_, _, _, _, _, t3, ?_, h3, lt_R5 (m := 60) k0 hy k1 (by (apply Sz.by; (repeat (first | assumption | exact sz_0 | exact sz_1 | exact sz_2 | exact sz_3 | exact sz_4 | exact sz_8 | exact Sz.of40 (by decide) | apply Sz.mul | apply Sz.add | apply Sz.sub | apply Sz.neg | apply Sz.div)); decide)) (by (apply Sz.by; (repeat (first | assumption | exact sz_0 | exact sz_1 | exact sz_2 | exact sz_3 | exact sz_4 | exact sz_8 | exact Sz.of40 (by decide) | apply Sz.mul | apply Sz.add | apply Sz.sub | apply Sz.neg | apply Sz.div)); decide)) (by (apply Sz.by; (repeat (first | assumption | exact sz_0 | exact sz_1 | exact sz_2 | exact sz_3 | exact sz_4 | exact sz_8 | exact Sz.of40 (by decide) | apply Sz.mul | apply Sz.add | apply Sz.sub | apply Sz.neg | apply Sz.div)); decide)) (by (apply Sz.by; (repeat (first | assumption | exact sz_0 | exact sz_1 | exact sz_2 | exact sz_3 | exact sz_4 | exact sz_8 | exact Sz.of40 (by decide) | apply Sz.mul | apply Sz.add | apply Sz.sub | apply Sz.neg | apply Sz.div)); decide)) (by (apply Sz.by; (repeat (first | assumption | exact sz_0 | exact sz_1 | exact sz_2 | exact sz_3 | exact sz_4 | exact sz_8 | exact Sz.of40 (by decide) | apply Sz.mul | apply Sz.add | apply Sz.sub | apply Sz.neg | apply Sz.div)); decide))⟩
        simpa! [F__law_kin, b__law_kin, ek, e1, hw, e2, e3, gIsN, isNone, gEq_int, hz', e_ll5, sx, sy, sa, sb, sc, sd]
  · have hc := hl.cone
    have ek := e_kindof_none (hl.up (by decide : 40 ≤ 1000)) (by
      by_cases hi : i = 0
      · exact .inl hi
      · exact .inr (by
          have : i * i - (q * q + u * u + v * v) ≠ 0 := fun z => hk ⟨hi, z⟩
          omega))
    obtain ⟨i', q', u', v', n', t2, e2, h2, hl2⟩ := e_shine (k := k) h1
    refine ⟨i', q', u', v', n', t2, ?_, h2, hl2.up (by decide)⟩
    simpa! [F__law_kin, b__law_kin, ek, e1, e2, gIsN, isNone]
/-! what the law reckons itself -/
section
variable {m : Nat} {i q u v n i' q' u' v' n' p r p' r' : Int}
theorem e_lsum (h : Lt 300 i q u v n) (g : Lt 300 i' q' u' v' n') : F__law_sum [.dat (T5 i q u v n), .dat (T5 i' q' u' v' n')] [] = some (.dat (R5 (i * n' + i' * n) (q * n' + q' * n) (u * n' + u' * n) (v * n' + v' * n) (n * n')), []) := by
  obtain ⟨i0, n0, hc, h1, si, sq, su, sv, sn⟩ := h
  obtain ⟨i0', n0', hc', h1', si', sq', su', sv', sn'⟩ := g
  simpa! [F__law_sum, b__law_sum, e_lll5, si, sq, su, sv, sn, si', sq', su', sv', sn']
theorem e_linner (h : Lt 300 i q u v n) (g : Lt 300 i' q' u' v' n') : F__law_inner [.dat (T5 i q u v n), .dat (T5 i' q' u' v' n')] [] = some (.dat (Rt (i * i' - (q * q' + u * u' + v * v')) (n * n')), []) := by
  obtain ⟨i0, n0, hc, h1, si, sq, su, sv, sn⟩ := h
  obtain ⟨i0', n0', hc', h1', si', sq', su', sv', sn'⟩ := g
  simpa! [F__law_inner, b__law_inner, e_ldot3, e_lratio, n0, n0', si, sq, su, sv, sn, si', sq', su', sv', sn']
theorem e_lplus (h : Fr 300 p r) (g : Fr 300 p' r') : F__law_plus [.dat (T2 p r), .dat (T2 p' r')] [] = some (.dat (Rt (p * r' + p' * r) (r * r')), []) := by
  obtain ⟨r0, o, sp, sr⟩ := h
  obtain ⟨r0', o', sp', sr'⟩ := g
  simpa! [F__law_plus, b__law_plus, e_lratio, r0, r0', sp, sr, sp', sr']
theorem e_lby (h : Fr 300 p r) (g : Fr 300 p' r') : F__law_by [.dat (T2 p r), .dat (T2 p' r')] [] = some (.dat (Rt (p * p') (r * r')), []) := by
  obtain ⟨r0, o, sp, sr⟩ := h
  obtain ⟨r0', o', sp', sr'⟩ := g
  simpa! [F__law_by, b__law_by, e_lratio, r0, r0', sp, sr, sp', sr']
/-! what is checked of a light -/
theorem isi_int (a : Int) : gIsi "int" (.int a) = some (.bool true) := rfl
theorem kit_ib : kitB "int" "bool" = some false := by decide +kernel
theorem isi_bool (a : Int) : gIsi "bool" (.int a) = some (.bool false) := by
  show (kitB "int" "bool").map PyData.bool = _
  rw [kit_ib]; rfl
theorem eq_nil : gEq (.list []) (.list []) = some (.bool true) := rfl
theorem lc_whole (c : Cs) : ∀ v : List Int, ∀ x0 : Option SV, lcGo (aName 1) (fOrT (fNotT (fTru (fUn (gIsi "int") (fVar 1)))) (fTru (fUn (gIsi "bool") (fVar 1)))) (fVar 1) [x0, none] (v.map .int) c = some ([], c)
  | [], _ => rfl
  | x :: v, x0 => by
    have ih := lc_whole c v x0
    simpa! [isi_int, isi_bool, ih]
theorem e_whole {v : List Int} {r : PyData} (h : IsRow v r) (hl : v.length ≤ 1000) : F__law_are_whole [.dat r] [] = some (.dat (.bool true), []) := by
  have h1 := lc_whole [] v (some (.dat r))
  have h2 : (v.map PyData.int).length ≤ 100000 := by rw [List.length_map]; omega
  cases h <;> simp! [F__law_are_whole, b__law_are_whole, h1, h2, eq_nil]
theorem e_whole5 {a b c d e : Int} : F__law_are_whole [.dat (T5 a b c d e)] [] = some (.dat (.bool true), []) := e_whole (v := [a, b, c, d, e]) .t (by simp)
theorem e_whole4 {a b c d : Int} : F__law_are_whole [.dat (T4 a b c d)] [] = some (.dat (.bool true), []) := e_whole (v := [a, b, c, d]) .t (by simp)
theorem e_lrow5 {a b c d e : Int} (ho : gL [a, b, c, d, e] = 1) (ha : Sm 1400 a) (hb : Sm 1400 b) (hc : Sm 1400 c) (hd : Sm 1400 d) (he : Sm 1400 e) : F__law_is_row [.dat (T5 a b c d e), .dat (.int 5)] [] = some (.dat (.bool true), []) := by
  have e1 : F__law_common [.dat (T5 a b c d e)] [] = some (.dat (.int (gL [a, b, c, d, e] : Nat)), []) := e_lcommon (v := [a, b, c, d, e]) .t (m5 ha hb hc hd he)
  have e2 : gIsi "tuple" (T5 a b c d e) = some (.bool true) := rfl
  have h1 := one_eq ho
  simpa! [F__law_is_row, b__law_is_row, e1, e2, e_whole5, gEq_int, h1]
theorem e_lcone (si : Sm 4000 i) (sq : Sm 4000 q) (su : Sm 4000 u) (sv : Sm 4000 v) : F__law_cone [.dat (T5 i q u v n)] [] = some (.dat (.int (i * i - q * q - u * u - v * v)), []) := by
  simpa! [*, F__law_cone, b__law_cone]
theorem e_lshine (h : Lt 1400 i q u v n) : F__law_is_shine [.dat (T5 i q u v n)] [] = some (.dat (.bool true), []) := by
  have e1 := e_lrow5 h.one h.si.sm h.sq.sm h.su.sm h.sv.sm h.sn.sm
  have e2 := e_lcone (n := n) (h.si.sm (m := 4000)) (h.sq.sm (m := 4000)) (h.su.sm (m := 4000)) (h.sv.sm (m := 4000))
  have hc : 0 ≤ i * i - q * q - u * u - v * v := by have := h.cone; omega
  obtain ⟨i0, n0, hc', h1, si, sq, su, sv, sn⟩ := h
  simpa! [F__law_is_shine, b__law_is_shine, e1, e2, i0, n0, hc]
/-! Cauchy's inequality -/
theorem cs3 (a b c x y z : Int) : (a * x + b * y + c * z) * (a * x + b * y + c * z) + ((a * y - b * x) * (a * y - b * x) + (a * z - c * x) * (a * z - c * x) + (b * z - c * y) * (b * z - c * y)) = (a * a + b * b + c * c) * (x * x + y * y + z * z) := by grind
theorem le_of_sq {a b : Int} (hb : 0 ≤ b) (h : a * a ≤ b * b) : a ≤ b := Classical.byContradiction fun n => by
  have h1 : b * b < a * a := Int.mul_lt_mul' (by omega) (by omega) (by omega) (by omega)
  omega
theorem cauchy (h0 : 0 ≤ i) (h1 : 0 ≤ i') (hc : 0 ≤ i * i - (q * q + u * u + v * v)) (hc' : 0 ≤ i' * i' - (q' * q' + u' * u' + v' * v')) : 0 ≤ i * i' - (q * q' + u * u' + v * v') := by
  have e := cs3 q u v q' u' v'
  have n1 := sq_nn (q * u' - u * q')
  have n2 := sq_nn (q * v' - v * q')
  have n3 := sq_nn (u * v' - v * u')
  have n4 := sq_nn q'
  have n5 := sq_nn u'
  have n6 := sq_nn v'
  have h2 : (q * q + u * u + v * v) * (q' * q' + u' * u' + v' * v') ≤ (i * i) * (i' * i') := Int.mul_le_mul (by omega) (by omega) (by omega) (sq_nn i)
  have h3 : (i * i) * (i' * i') = (i * i') * (i * i') := by grind
  have := le_of_sq (a := q * q' + u * u' + v * v') (b := i * i') (Int.mul_nonneg h0 h1) (by omega)
  omega
end
end PL


set_option Elab.async false
set_option linter.all false
set_option maxRecDepth 100000
set_option maxHeartbeats 1000000
set_option exponentiation.threshold 20000
namespace PL
open PySem PySem.Spec L2 DL
local macro_rules | `(tactic| simp! [$as,*]) => `(tactic| simp only [fThaw, fThawT, fThawL, thawD, thawO, noL, noLAll, fAug, gAug, fRev, fFnA, fCallV, fBot, fZip, zipD, gSum, intsOf, List.foldl_cons, List.foldl_nil, mkF, fRet, fRetL, fRetN, fSkip, fSeq, fNever, fSet, fAsg, fNew, fIfS, fDrop, fPar, fPar3, fSetc, fSetc2, fVar, fLit, fOp, fUn, fTup, fTup.datsOf, fLst, fNilA, fConsA, fStarA, fCelA, fOfL, fTru, fAndT, fOrT, fNotT, fAndV, fOrV, fNotV, fIf, fBi, fCall, fCallL, fCallFr, fPerm, callF, celOf, celsOk, norm, aName, aNil, aCons, aTup, setD, fSl, fIt, fItL, fItT, fFor, forGo, fLc, lcGo, fYes, wipeD, fCix, fList, fSlL, fPart, fNoPart, fChain, List.length_cons, List.length_nil, List.getElem?_cons_zero, List.getElem?_cons_succ, List.getElem?_nil, List.set_cons_zero, List.set_cons_succ, List.map_cons, List.map_nil, List.cons_append, List.nil_append, List.append_nil, List.replicate, List.take_zero, List.take_nil, List.take_succ_cons, ↓bsome, ↓msome, Option.bind_some, Option.map_some, Option.bind_none, Option.map_none, Nat.sub_self, Int.cast_ofNat_Int, Nat.reduceAdd, Nat.reduceMul, Nat.reduceSub, Nat.reduceLeDiff, Nat.reduceLT, Nat.zero_add, Nat.add_zero, and_self, and_true, true_and, if_true, if_false, ↓reduceIte, ite_true, Bool.true_eq_false, Bool.false_eq_true, beq_self_eq_true, Bool.and_self, Bool.not_true, Bool.not_false, decide_true, decide_false, gLen, gTyIs, gTyNot, tyOf, gNeg, gPlus, DL.gSub, gCmp, gInt, gAbs, gTuple, gMax, gMin, gGcd, LIM, gIx, $as,*])
theorem rng2 : rngOk 2 = true := rng_ok (by decide) (by decide)
theorem tn2 : (2 : Int).toNat = 2 := rfl
theorem gEq_bool (a b : Bool) : gEq (.bool a) (.bool b) = some (.bool (a == b)) := rfl
theorem gEq_tn (v : List Int) : gEq (.tuple (nts v)) .none = some (.bool false) := by
  unfold gEq
  rw [if_pos ⟨shaped_tup v, rfl⟩]; rfl
theorem gEq_T4n (a b c d : Int) : gEq (T4 a b c d) .none = some (.bool false) := gEq_tn [a, b, c, d]
theorem R5c {a b c d e a' b' c' d' e' : Int} (h1 : a = a') (h2 : b = b') (h3 : c = c') (h4 : d = d') (h5 : e = e') : R5 a b c d e = R5 a' b' c' d' e' := by rw [h1, h2, h3, h4, h5]
theorem R4c {a b c d a' b' c' d' : Int} (h1 : a = a') (h2 : b = b') (h3 : c = c') (h4 : d = d') : R4 a b c d = R4 a' b' c' d' := by rw [h1, h2, h3, h4]
theorem Rtc {a b a' b' : Int} (h1 : a = a') (h2 : b = b') : Rt a b = Rt a' b' := by rw [h1, h2]
/-! short data -/
theorem nice_int {n : Nat} {x : Int} (h : Sz n x) : Nice n (.int x) := by simpa only [Nice] using h.sm (Nat.le_refl n)
theorem nice_nil {n : Nat} : NiceAll n [] := by simp only [NiceAll]
theorem nice_cons {n : Nat} {d : PyData} {ds : List PyData} (h : Nice n d) (g : NiceAll n ds) : NiceAll n (d :: ds) := by simp only [NiceAll]; exact ⟨h, g⟩
theorem nice_tup {n : Nat} {ds : List PyData} (h : NiceAll n ds) : Nice n (.tuple ds) := by simpa only [Nice] using h
theorem nice_list {n : Nat} {ds : List PyData} (h : NiceAll n ds) : Nice n (.list ds) := by simpa only [Nice] using h
theorem nice_none {n : Nat} : Nice n .none := by simp only [Nice]
theorem nice_bool {n : Nat} {b : Bool} : Nice n (.bool b) := by simp only [Nice]
section
variable {m : Nat} {a b c d e : Int}
theorem nice2 (ha : Sz m a) (hb : Sz m b) : Nice m (T2 a b) := nice_tup (nice_cons (nice_int ha) (nice_cons (nice_int hb) nice_nil))
theorem nice4 (ha : Sz m a) (hb : Sz m b) (hc : Sz m c) (hd : Sz m d) : Nice m (T4 a b c d) := nice_tup (nice_cons (nice_int ha) (nice_cons (nice_int hb) (nice_cons (nice_int hc) (nice_cons (nice_int hd) nice_nil))))
theorem nice5 (ha : Sz m a) (hb : Sz m b) (hc : Sz m c) (hd : Sz m d) (he : Sz m e) : Nice m (T5 a b c d e) := nice_tup (nice_cons (nice_int ha) (nice_cons (nice_int hb) (nice_cons (nice_int hc) (nice_cons (nice_int hd) (nice_cons (nice_int he) nice_nil)))))
theorem Lt.nice {i q u v n : Int} (h : Lt m i q u v n) : Nice m (T5 i q u v n) := nice5 h.si h.sq h.su h.sv h.sn
theorem Kd.nice {q u v n : Int} (h : Kd m q u v n) : Nice m (T4 q u v n) := nice4 h.sq h.su h.sv h.sn
theorem Fr.nice {p q : Int} (h : Fr m p q) : Nice m (T2 p q) := nice2 h.sp h.sq
end
mutual
theorem Nice.up {m n : Nat} (hn : m ≤ n) : ∀ d : PyData, Nice m d → Nice n d
  | .none, _ => by simp only [Nice]
  | .bool _, _ => by simp only [Nice]
  | .int _, h => by simp only [Nice] at h ⊢; exact Sm.up n h hn
  | .str _, h => by simp only [Nice] at h
  | .list ds, h => by simp only [Nice] at h ⊢; exact NiceAll.up hn ds h
  | .tuple ds, h => by simp only [Nice] at h ⊢; exact NiceAll.up hn ds h
  | .dict _, h => by simp only [Nice] at h
theorem NiceAll.up {m n : Nat} (hn : m ≤ n) : ∀ ds : List PyData, NiceAll m ds → NiceAll n ds
  | [], _ => by simp only [NiceAll]
  | d :: ds, h => by simp only [NiceAll] at h ⊢; exact ⟨Nice.up hn d h.1, NiceAll.up hn ds h.2⟩
end
/-- of one, of two data -/
theorem rep_1 {n : Nat} {d : PyData} (h : Nice n d) (hn : n ≤ 1500) (hb : d.bulk ≤ 500 := by exact Nat.le_of_ble_eq_true rfl) (hd : d.depth ≤ 60 := by exact Nat.le_of_ble_eq_true rfl) : ∃ t, Rep d t := rep_ok h (by omega) (by
  have : (n + 11) * d.bulk ≤ 1511 * 500 := Nat.mul_le_mul (by omega) hb
  omega) hd
theorem rep_l2 {n : Nat} {x y : PyData} (h : Nice n x) (g : Nice n y) (hn : n ≤ 1500) (hb : (PyData.list [x, y]).bulk ≤ 500) (hd : (PyData.list [x, y]).depth ≤ 60) : ∃ t, Rep (.list [x, y]) t :=
  rep_1 (nice_list (nice_cons h (nice_cons g nice_nil))) hn hb hd
/-! sums of lights -/
section
variable {m m' : Nat} {i q u v n i' q' u' v' n' : Int}
theorem lt_added (h : Lt m i q u v n) (g : Lt m' i' q' u' v' n') : Lt (m + m' + 1) ((n' * i + n * i') / mL [n' * i + n * i', n' * q + n * q', n' * u + n * u', n' * v + n * v', n * n']) ((n' * q + n * q') / mL [n' * i + n * i', n' * q + n * q', n' * u + n * u', n' * v + n * v', n * n'])
    ((n' * u + n * u') / mL [n' * i + n * i', n' * q + n * q', n' * u + n * u', n' * v + n * v', n * n']) ((n' * v + n * v') / mL [n' * i + n * i', n' * q + n * q', n' * u + n * u', n' * v + n * v', n * n']) ((n * n') / mL [n' * i + n * i', n' * q + n * q', n' * u + n * u', n' * v + n * v', n * n']) := by
  obtain ⟨i0, n0, hc, h1, si, sq, su, sv, sn⟩ := h
  obtain ⟨i0', n0', hc', h1', si', sq', su', sv', sn'⟩ := g
  have hx := cauchy i0 i0' hc hc'
  have z : ∀ x x' : Int, Sz m x → Sz m' x' → Sz (m + m' + 1) (n' * x + n * x') := fun x x' s s' => ((sn'.mul s).add (sn.mul s')).by _ (by omega)
  refine lt_R5 ?_ (Int.mul_pos n0 n0') ?_ (z _ _ si si') (z _ _ sq sq') (z _ _ su su') (z _ _ sv sv') ((sn.mul sn').by _ (by omega))
  · have a1 := Int.mul_nonneg (Int.le_of_lt n0') i0
    have a2 := Int.mul_nonneg (Int.le_of_lt n0) i0'
    omega
  · have e : (n' * i + n * i') * (n' * i + n * i') - ((n' * q + n * q') * (n' * q + n * q') + (n' * u + n * u') * (n' * u + n * u') + (n' * v + n * v') * (n' * v + n * v')) = (n' * n') * (i * i - (q * q + u * u + v * v)) + (n * n) * (i' * i' - (q' * q' + u' * u' + v' * v')) + 2 * ((n * n') * (i * i' - (q * q' + u * u' + v * v'))) := by grind
    rw [e]
    have b1 := Int.mul_nonneg (sq_nn n') hc
    have b2 := Int.mul_nonneg (sq_nn n) hc'
    have b3 := Int.mul_nonneg (Int.le_of_lt (Int.mul_pos n0 n0')) hx
    omega
/-- lights whose product is 0: both pure and along one line -/
theorem prod_zero (i0 : 0 < i) (i0' : 0 < i') (hc : 0 ≤ i * i - (q * q + u * u + v * v)) (hc' : 0 ≤ i' * i' - (q' * q' + u' * u' + v' * v')) (hp : i * i' - (q * q' + u * u' + v * v') = 0) :
    i * i - (q * q + u * u + v * v) = 0 ∧ i' * i' - (q' * q' + u' * u' + v' * v') = 0 ∧ i' * q = i * q' ∧ i' * u = i * u' ∧ i' * v = i * v' := by
  have e := cs3 q u v q' u' v'
  have hdot : q * q' + u * u' + v * v' = i * i' := by omega
  rw [hdot] at e
  have n1 := sq_nn (q * u' - u * q')
  have n2 := sq_nn (q * v' - v * q')
  have n3 := sq_nn (u * v' - v * u')
  have n4 := sq_nn q
  have n5 := sq_nn u
  have n6 := sq_nn v
  have n7 := sq_nn q'
  have n8 := sq_nn u'
  have n9 := sq_nn v'
  have hii := Int.mul_pos i0 i0
  have hii' := Int.mul_pos i0' i0'
  have e3 : (i * i') * (i * i') = (i * i) * (i' * i') := by grind
  have hA : q * q + u * u + v * v ≤ i * i := by omega
  have hB : q' * q' + u' * u' + v' * v' ≤ i' * i' := by omega
  have l1 : (q * q + u * u + v * v) * (q' * q' + u' * u' + v' * v') ≤ (q * q + u * u + v * v) * (i' * i') := Int.mul_le_mul_of_nonneg_left hB (by omega)
  have l2 : (q * q + u * u + v * v) * (i' * i') ≤ (i * i) * (i' * i') := Int.mul_le_mul_of_nonneg_right hA (by omega)
  have f1 : q * q + u * u + v * v = i * i := by
    have : (q * q + u * u + v * v) * (i' * i') = (i * i) * (i' * i') := by omega
    exact Int.eq_of_mul_eq_mul_right (Int.ne_of_gt hii') this
  have f2 : q' * q' + u' * u' + v' * v' = i' * i' := by
    have l3 : (q * q + u * u + v * v) * (q' * q' + u' * u' + v' * v') ≤ (i * i) * (q' * q' + u' * u' + v' * v') := Int.mul_le_mul_of_nonneg_right hA (by omega)
    have l4 : (i * i) * (q' * q' + u' * u' + v' * v') ≤ (i * i) * (i' * i') := Int.mul_le_mul_of_nonneg_left hB (by omega)
    have : (i * i) * (q' * q' + u' * u' + v' * v') = (i * i) * (i' * i') := by omega
    exact Int.eq_of_mul_eq_mul_left (Int.ne_of_gt hii) this
  have z1 : q * u' - u * q' = 0 := sq_z (by omega)
  have z2 : q * v' - v * q' = 0 := sq_z (by omega)
  have z3 : u * v' - v * u' = 0 := sq_z (by omega)
  refine ⟨by omega, by omega, ?_, ?_, ?_⟩
  · refine Int.eq_of_mul_eq_mul_left (Int.ne_of_gt i0) ?_
    grind
  · refine Int.eq_of_mul_eq_mul_left (Int.ne_of_gt i0) ?_
    grind
  · refine Int.eq_of_mul_eq_mul_left (Int.ne_of_gt i0) ?_
    grind
/-- kinds that are told alike: along one line -/
theorem red4_par {a b c d a' b' c' d' : Int} (hd : 0 < d) (hd' : 0 < d') : red [a, b, c, d] = red [a', b', c', d'] ↔ d' * a = d * a' ∧ d' * b = d * b' ∧ d' * c = d * c' := by
  constructor
  · intro h
    have h1 := mL_pos [a, b, c, d]
    have h2 := mL_pos [a', b', c', d']
    have e1 := div_mul (v := [a, b, c, d]) (x := a) (by simp)
    have e2 := div_mul (v := [a, b, c, d]) (x := b) (by simp)
    have e3 := div_mul (v := [a, b, c, d]) (x := c) (by simp)
    have e4 := div_mul (v := [a, b, c, d]) (x := d) (by simp)
    have g1 := div_mul (v := [a', b', c', d']) (x := a') (by simp)
    have g2 := div_mul (v := [a', b', c', d']) (x := b') (by simp)
    have g3 := div_mul (v := [a', b', c', d']) (x := c') (by simp)
    have g4 := div_mul (v := [a', b', c', d']) (x := d') (by simp)
    simp only [red, List.map_cons, List.map_nil, List.cons.injEq, and_true] at h
    obtain ⟨f1, f2, f3, f4⟩ := h
    rw [← f1] at g1
    rw [← f2] at g2
    rw [← f3] at g3
    rw [← f4] at g4
    generalize mL [a, b, c, d] = M at *
    generalize mL [a', b', c', d'] = M' at *
    generalize a / M = x at *
    generalize b / M = y at *
    generalize c / M = z at *
    generalize d / M = w at *
    subst e1 e2 e3 e4 g1 g2 g3 g4
    refine ⟨?_, ?_, ?_⟩ <;> grind
  · rintro ⟨h1, h2, h3⟩
    refine red_par hd' hd ?_
    simp only [List.map_cons, List.map_nil, h1, h2, h3, Int.mul_comm d' d]
end
/-! two lights, checked -/
section
variable {i q u v n i' q' u' v' n' : Int}
theorem rg_zero {p r : Int} (hr : 0 < r) : (p / rg p r == 0) = (p == 0) := by
  have h := rg_p (p := p) hr
  have hg := rg_pos (p := p) hr
  by_cases hp : p = 0
  · subst hp; simp
  · have : p / rg p r ≠ 0 := fun z => hp (by rw [← h, z, Int.zero_mul])
    rw [beq_eq_false_iff_ne.mpr this, beq_eq_false_iff_ne.mpr hp]
theorem pair_facts (h : Lt 60 i q u v n) (g : Lt 60 i' q' u' v' n') : ∃ t1 t2 : PyData,
    F_added [.dat (T5 i' q' u' v' n'), .dat (T5 i q u v n)] [] = some (.dat (R5 (n' * i + n * i') (n' * q + n * q') (n' * u + n * u') (n' * v + n * v') (n * n')), []) ∧
    F__law_sum [.dat (T5 i q u v n), .dat (T5 i' q' u' v' n')] [] = some (.dat (R5 (n' * i + n * i') (n' * q + n * q') (n' * u + n * u') (n' * v + n * v') (n * n')), []) ∧
    F_product [.dat (T5 i' q' u' v' n'), .dat (T5 i q u v n)] [] = some (.dat (Rt (i * i' - (q * q' + u * u' + v * v')) (n * n')), []) ∧
    F__law_is_shine [.dat (R5 (n' * i + n * i') (n' * q + n * q') (n' * u + n * u') (n' * v + n * v') (n * n'))] [] = some (.dat (.bool true), []) ∧
    Rep (.list [R5 (n' * i + n * i') (n' * q + n * q') (n' * u + n * u') (n' * v + n * v') (n * n'), R5 (n' * i + n * i') (n' * q + n * q') (n' * u + n * u') (n' * v + n * v') (n * n')]) t1 ∧
    Rep (.list [Rt (i * i' - (q * q' + u * u' + v * v')) (n * n'), Rt (i * i' - (q * q' + u * u' + v * v')) (n * n')]) t2 := by
  have hA := lt_added h g
  have e1 := e_added (g.up (by decide : 60 ≤ 1000)) (h.up (by decide : 60 ≤ 1000))
  have e2 := e_lsum (h.up (by decide : 60 ≤ 300)) (g.up (by decide : 60 ≤ 300))
  have e3 := e_product (g.up (by decide : 60 ≤ 1000)) (h.up (by decide : 60 ≤ 1000))
  obtain ⟨t1, r1⟩ := rep_l2 hA.nice hA.nice (by decide) (Nat.le_of_ble_eq_true rfl) (Nat.le_of_ble_eq_true rfl)
  have hF : Fr 300 ((i * i' - (q * q' + u * u' + v * v')) / rg (i * i' - (q * q' + u * u' + v * v')) (n * n')) ((n * n') / rg (i * i' - (q * q' + u * u' + v * v')) (n * n')) := by
    obtain ⟨i0, n0, hc, h1, si, sq, su, sv, sn⟩ := h
    obtain ⟨i0', n0', hc', h1', si', sq', su', sv', sn'⟩ := g
    exact rt_fr (Int.mul_pos n0 n0') (by (apply Sz.by; (repeat (first | assumption | exact sz_0 | exact sz_1 | exact sz_2 | exact sz_3 | exact sz_4 | exact sz_8 | exact Sz.of40 (by decide) | apply Sz.mul | apply Sz.add | apply Sz.sub | apply Sz.neg | apply Sz.div)); decide)) (by (apply Sz.by; (repeat (first | assumption | exact sz_0 | exact sz_1 | exact sz_2 | exact sz_3 | exact sz_4 | exact sz_8 | exact Sz.of40 (by decide) | apply Sz.mul | apply Sz.add | apply Sz.sub | apply Sz.neg | apply Sz.div)); decide))
  obtain ⟨t2, r2⟩ := rep_l2 hF.nice hF.nice (by decide) (Nat.le_of_ble_eq_true rfl) (Nat.le_of_ble_eq_true rfl)
  refine ⟨t1, t2, ?_, ?_, ?_, e_lshine (hA.up (by decide)), r1, r2⟩
  · rw [e1]; exact congrArg (fun x => some (RV.dat x, ([] : Cs))) (R5c (by grind) (by grind) (by grind) (by grind) (by grind))
  · rw [e2]; exact congrArg (fun x => some (RV.dat x, ([] : Cs))) (R5c (by grind) (by grind) (by grind) (by grind) (by grind))
  · rw [e3]; exact congrArg (fun x => some (RV.dat x, ([] : Cs))) (Rtc (by grind) (by grind))
theorem e_pair (h : Lt 60 i q u v n) (g : Lt 60 i' q' u' v' n') : F__law_pair_right [.dat (T5 i q u v n), .dat (T5 i' q' u' v' n')] [] = some (.dat (.bool true), []) := by
  obtain ⟨t1, t2, e1, e2, e3, e4, r1, r2⟩ := pair_facts h g
  have a1 := e_added (h.up (by decide : 60 ≤ 1000)) (g.up (by decide : 60 ≤ 1000))
  have a2 := e_product (h.up (by decide : 60 ≤ 1000)) (g.up (by decide : 60 ≤ 1000))
  have a3 := e_linner (h.up (by decide : 60 ≤ 300)) (g.up (by decide : 60 ≤ 300))
  have hP := cauchy h.i0 g.i0 h.cone g.cone
  have hN := Int.mul_pos h.n0 g.n0
  have hz := rg_zero (p := i * i' - (q * q' + u * u' + v * v')) hN
  have hneg : ¬ ((i * i' - (q * q' + u * u' + v * v')) / rg (i * i' - (q * q' + u * u' + v * v')) (n * n') < 0) := by
    have := Int.ediv_nonneg hP (Int.le_of_lt (rg_pos (p := i * i' - (q * q' + u * u' + v * v')) hN))
    omega
  unfold Rt at a2 a3 e3 r2
  obtain ⟨r11, r12, r13⟩ := r1
  obtain ⟨r21, r22, r23⟩ := r2
  have hc := h.cone
  have hc' := g.cone
  have hi := h.i0
  have hi' := g.i0
  have kinds : ∃ k1 k2 : PyData, F_kind_of [.dat (T5 i q u v n)] [] = some (.dat k1, []) ∧ F_kind_of [.dat (T5 i' q' u' v' n')] [] = some (.dat k2, []) ∧
      ∃ b1 b2 : Bool, gNotN k1 .none = some (.bool b1) ∧ (b1 = true → gEq k1 k2 = some (.bool b2)) ∧ ((i * i' - (q * q' + u * u' + v * v') == 0) == ((i == 0) || ((i' == 0) || (b1 && b2)))) = true := by
    by_cases z : i = 0
    · subst z
      obtain ⟨rfl, rfl, rfl, rfl⟩ := lt_dark h
      by_cases p2 : i' ≠ 0 ∧ i' * i' - (q' * q' + u' * u' + v' * v') = 0
      · exact ⟨_, _, e_kindof_none (h.up (by decide : 60 ≤ 1000)) (.inl rfl), e_kindof (g.up (by decide : 60 ≤ 1000)) p2.1 p2.2, false, false, rfl, fun z => (by cases z), by simp⟩
      · exact ⟨_, _, e_kindof_none (h.up (by decide : 60 ≤ 1000)) (.inl rfl), e_kindof_none (g.up (by decide : 60 ≤ 1000)) (by omega), false, false, rfl, fun z => (by cases z), by simp⟩
    by_cases z' : i' = 0
    · subst z'
      obtain ⟨rfl, rfl, rfl, rfl⟩ := lt_dark g
      by_cases p1 : i * i - (q * q + u * u + v * v) = 0
      · exact ⟨_, _, e_kindof (h.up (by decide : 60 ≤ 1000)) z p1, e_kindof_none (g.up (by decide : 60 ≤ 1000)) (.inl rfl), true, false, rfl, fun _ => gEq_T4n .., by simp⟩
      · exact ⟨_, _, e_kindof_none (h.up (by decide : 60 ≤ 1000)) (by omega), e_kindof_none (g.up (by decide : 60 ≤ 1000)) (.inl rfl), false, false, rfl, fun z => (by cases z), by simp⟩
    have nz : (i == 0) = false := beq_eq_false_iff_ne.mpr z
    have nz' : (i' == 0) = false := beq_eq_false_iff_ne.mpr z'
    by_cases p1 : i * i - (q * q + u * u + v * v) = 0
    · have k1 := e_kindof (h.up (by decide : 60 ≤ 1000)) z p1
      by_cases p2 : i' * i' - (q' * q' + u' * u' + v' * v') = 0
      · have k2 := e_kindof (g.up (by decide : 60 ≤ 1000)) z' p2
        refine ⟨_, _, k1, k2, true, (red [q, u, v, i] == red [q', u', v', i']), rfl, fun _ => gEq_T4 .., ?_⟩
        rw [nz, nz']
        by_cases hp : i * i' - (q * q' + u * u' + v * v') = 0
        · obtain ⟨_, _, f1, f2, f3⟩ := prod_zero (by omega) (by omega) hc hc' hp
          have := (red4_par (a := q) (b := u) (c := v) (d := i) (a' := q') (b' := u') (c' := v') (d' := i') (by omega) (by omega)).mpr ⟨f1, f2, f3⟩
          rw [hp, this]; simp
        · have : ¬ (red [q, u, v, i] = red [q', u', v', i']) := fun z => by
            obtain ⟨f1, f2, f3⟩ := (red4_par (by omega) (by omega)).mp z
            apply hp
            refine Int.eq_of_mul_eq_mul_left (show i ≠ 0 by omega) ?_
            rw [Int.mul_zero]
            have e : i * (i * i' - (q * q' + u * u' + v * v')) = i' * (i * i) - (q * (i * q') + u * (i * u') + v * (i * v')) := by grind
            rw [e, ← f1, ← f2, ← f3]
            have e2 : i' * (i * i) - (q * (i' * q) + u * (i' * u) + v * (i' * v)) = i' * (i * i - (q * q + u * u + v * v)) := by grind
            rw [e2, p1, Int.mul_zero]
          rw [beq_eq_false_iff_ne.mpr hp, beq_eq_false_iff_ne.mpr this]; rfl
      · have hp : i * i' - (q * q' + u * u' + v * v') ≠ 0 := fun hp => p2 (prod_zero (by omega) (by omega) hc hc' hp).2.1
        exact ⟨_, _, k1, e_kindof_none (g.up (by decide : 60 ≤ 1000)) (by omega), true, false, rfl, fun _ => gEq_T4n .., by rw [nz, nz', beq_eq_false_iff_ne.mpr hp]; rfl⟩
    · have hp : i * i' - (q * q' + u * u' + v * v') ≠ 0 := fun hp => p1 (prod_zero (by omega) (by omega) hc hc' hp).1
      have k1 := e_kindof_none (h.up (by decide : 60 ≤ 1000)) (by omega)
      have fin : ((i * i' - (q * q' + u * u' + v * v') == 0) == ((i == 0) || ((i' == 0) || (false && false)))) = true := by rw [nz, nz', beq_eq_false_iff_ne.mpr hp]; rfl
      by_cases p2 : i' * i' - (q' * q' + u' * u' + v' * v') = 0
      · exact ⟨_, _, k1, e_kindof (g.up (by decide : 60 ≤ 1000)) z' p2, false, false, rfl, fun z => (by cases z), fin⟩
      · exact ⟨_, _, k1, e_kindof_none (g.up (by decide : 60 ≤ 1000)) (by omega), false, false, rfl, fun z => (by cases z), fin⟩
  obtain ⟨k1, k2, f1, f2, b1, b2, f3, f4, f5⟩ := kinds
  clear h g hc hc' hi hi' hP hN
  generalize hM : i * i' - (q * q' + u * u' + v * v') = P at *
  generalize P / rg P (n * n') = X at *
  generalize n * n' / rg P (n * n') = Y at *
  generalize R5 (n' * i + n * i') (n' * q + n * q') (n' * u + n * u') (n' * v + n * v') (n * n') = W at *
  clear hM
  cases hi0 : (i == 0)
  · cases hi1 : (i' == 0)
    · cases b1 with
      | false =>
        rw [hi0, hi1, Bool.false_or, Bool.false_or, Bool.false_and] at f5
        simp! [F__law_pair_right, b__law_pair_right, fRep, rng2, tn2, List.flatten_cons, List.flatten_nil, a1, a2, a3, e1, e2, e3, e4, r11, r12, r13, r21, r22, r23, hneg, f1, f2, gIx, ix5_0, ix2_0, gEq_int, f3, hi0, hi1, hz, gEq_bool, f5]
      | true =>
        have f4' := f4 rfl
        rw [hi0, hi1, Bool.false_or, Bool.false_or, Bool.true_and] at f5
        simp! [F__law_pair_right, b__law_pair_right, fRep, rng2, tn2, List.flatten_cons, List.flatten_nil, a1, a2, a3, e1, e2, e3, e4, r11, r12, r13, r21, r22, r23, hneg, f1, f2, gIx, ix5_0, ix2_0, ix2_1, gEq_int, f3, f4', hi0, hi1, hz, gEq_bool, f5]
    · rw [hi0, hi1, Bool.false_or, Bool.true_or] at f5
      simp! [F__law_pair_right, b__law_pair_right, fRep, rng2, tn2, List.flatten_cons, List.flatten_nil, a1, a2, a3, e1, e2, e3, e4, r11, r12, r13, r21, r22, r23, hneg, f1, f2, gIx, ix5_0, ix2_0, gEq_int, hi0, hi1, hz, gEq_bool, f5]
  · rw [hi0, Bool.true_or] at f5
    simp! [F__law_pair_right, b__law_pair_right, fRep, rng2, tn2, List.flatten_cons, List.flatten_nil, a1, a2, a3, e1, e2, e3, e4, r11, r12, r13, r21, r22, r23, hneg, f1, f2, gIx, ix5_0, ix2_0, gEq_int, hi0, hz, gEq_bool, f5]
end
end PL


set_option Elab.async false
set_option linter.all false
set_option maxRecDepth 100000
set_option maxHeartbeats 1000000
set_option exponentiation.threshold 20000
namespace PL
open PySem PySem.Spec L2 DL
local macro_rules | `(tactic| simp! [$as,*]) => `(tactic| simp only [fThaw, fThawT, fThawL, thawD, thawO, noL, noLAll, fAug, gAug, fRev, fFnA, fCallV, fBot, fZip, zipD, gSum, intsOf, List.foldl_cons, List.foldl_nil, mkF, fRet, fRetL, fRetN, fSkip, fSeq, fNever, fSet, fAsg, fNew, fIfS, fDrop, fPar, fPar3, fSetc, fSetc2, fVar, fLit, fOp, fUn, fTup, fTup.datsOf, fLst, fNilA, fConsA, fStarA, fCelA, fOfL, fTru, fAndT, fOrT, fNotT, fAndV, fOrV, fNotV, fIf, fBi, fCall, fCallL, fCallFr, fPerm, callF, celOf, celsOk, norm, aName, aNil, aCons, aTup, setD, fSl, fIt, fItL, fItT, fFor, forGo, fLc, lcGo, fYes, wipeD, fCix, fList, fSlL, fPart, fNoPart, fChain, List.length_cons, List.length_nil, List.getElem?_cons_zero, List.getElem?_cons_succ, List.getElem?_nil, List.set_cons_zero, List.set_cons_succ, List.map_cons, List.map_nil, List.cons_append, List.nil_append, List.append_nil, List.replicate, List.take_zero, List.take_nil, List.take_succ_cons, ↓bsome, ↓msome, Option.bind_some, Option.map_some, Option.bind_none, Option.map_none, Nat.sub_self, Int.cast_ofNat_Int, Nat.reduceAdd, Nat.reduceMul, Nat.reduceSub, Nat.reduceLeDiff, Nat.reduceLT, Nat.zero_add, Nat.add_zero, and_self, and_true, true_and, if_true, if_false, ↓reduceIte, ite_true, Bool.true_eq_false, Bool.false_eq_true, beq_self_eq_true, Bool.and_self, Bool.not_true, Bool.not_false, decide_true, decide_false, gLen, gTyIs, gTyNot, tyOf, gNeg, gPlus, DL.gSub, gCmp, gInt, gAbs, gTuple, gMax, gMin, gGcd, LIM, gIx, $as,*])
theorem R4_red {a b c d a' b' c' d' : Int} (h : red [a, b, c, d] = red [a', b', c', d']) : R4 a b c d = R4 a' b' c' d' := congrArg (fun v => PyData.tuple (v.map PyData.int)) h
theorem R5_red {a b c d e a' b' c' d' e' : Int} (h : red [a, b, c, d, e] = red [a', b', c', d', e']) : R5 a b c d e = R5 a' b' c' d' e' := congrArg (fun v => PyData.tuple (v.map PyData.int)) h
theorem R5_one {a b c d e : Int} (h : gL [a, b, c, d, e] = 1) : R5 a b c d e = T5 a b c d e := congrArg (fun v => PyData.tuple (v.map PyData.int)) (red_of_one h)
theorem gL_last {n : Int} (h : 0 < n) : gL [0, 0, 0, 0, n] = n.natAbs := by
  simp only [gL, Int.natAbs_zero, Nat.gcd_zero_left, Nat.gcd_zero_right]
theorem R5_dark {n : Int} (h : 0 < n) : R5 0 0 0 0 n = T5 0 0 0 0 1 := by
  have e : mL [0, 0, 0, 0, n] = n := by
    rw [mL_eq (by rw [gL_last h]; omega), gL_last h]; omega
  unfold R5
  rw [e, Int.zero_ediv, Int.ediv_self (by omega)]
/-! fractions as numbers -/
def IsQ (p q P Q : Int) : Prop := p * Q = P * q
theorem isq_rt {p q : Int} (hq : 0 < q) : IsQ (p / rg p q) (q / rg p q) p q := by
  have h1 := rg_p (p := p) hq
  have h2 := rg_q (p := p) hq
  unfold IsQ
  generalize p / rg p q = x at *
  generalize q / rg p q = y at *
  generalize rg p q = g at *
  subst h1 h2
  grind
theorem IsQ.add {p q P Q p' q' P' Q' : Int} (h : IsQ p q P Q) (g : IsQ p' q' P' Q') : IsQ (p * q' + p' * q) (q * q') (P * Q' + P' * Q) (Q * Q') := by
  unfold IsQ at *
  grind
theorem IsQ.mul {p q P Q p' q' P' Q' : Int} (h : IsQ p q P Q) (g : IsQ p' q' P' Q') : IsQ (p * p') (q * q') (P * P') (Q * Q') := by
  unfold IsQ at *
  grind
theorem IsQ.rt {p q P Q : Int} (h : IsQ p q P Q) (hq : 0 < q) (hQ : 0 < Q) : Rt p q = Rt P Q := rt_eq hq hQ h
/-! a light times a share, checked -/
section
variable {m : Nat} {i q u v n p r : Int}
theorem lt_times (h : Lt m i q u v n) {k : Nat} (g : Fr k p r) (p0 : 0 ≤ p) : Lt (m + k) ((p * i) / mL [p * i, p * q, p * u, p * v, r * n]) ((p * q) / mL [p * i, p * q, p * u, p * v, r * n]) ((p * u) / mL [p * i, p * q, p * u, p * v, r * n]) ((p * v) / mL [p * i, p * q, p * u, p * v, r * n]) ((r * n) / mL [p * i, p * q, p * u, p * v, r * n]) := by
  obtain ⟨i0, n0, hc, h1, si, sq, su, sv, sn⟩ := h
  obtain ⟨r0, o, sp, sr⟩ := g
  have z : ∀ x, Sz m x → Sz (m + k) (p * x) := fun x s => (sp.mul s).by _ (by omega)
  refine lt_R5 (Int.mul_nonneg p0 i0) (Int.mul_pos r0 n0) ?_ (z _ si) (z _ sq) (z _ su) (z _ sv) ((sr.mul sn).by _ (by omega))
  have : p * i * (p * i) - (p * q * (p * q) + p * u * (p * u) + p * v * (p * v)) = p * p * (i * i - (q * q + u * u + v * v)) := by grind
  rw [this]
  exact Int.mul_nonneg (sq_nn p) hc
theorem e_timesr (h : Lt 60 i q u v n) (g : Fr 40 p r) (p0 : 0 ≤ p) : F__law_times_right [.dat (T5 i q u v n), .dat (T2 p r)] [] = some (.dat (.bool true), []) := by
  have e1 := e_times (h.up (by decide : 60 ≤ 1000)) ⟨g.q0, g.one, g.sp.by _ (by decide), g.sq.by _ (by decide)⟩ p0
  have hT := lt_times h g p0
  have e2 : F__law_is_shine [.dat (R5 (p * i) (p * q) (p * u) (p * v) (r * n))] [] = some (.dat (.bool true), []) := e_lshine (hT.up (by decide : 100 ≤ 1400))
  have e3 : F__law_least [.dat (L5 (p * i) (p * q) (p * u) (p * v) (r * n))] [] = some (.dat (R5 (p * i) (p * q) (p * u) (p * v) (r * n)), []) := by
    obtain ⟨i0, n0, hc, h1, si, sq, su, sv, sn⟩ := h
    obtain ⟨r0, o, sp, sr⟩ := g
    have f : ∀ x y : Int, Sz 40 x → Sz 60 y → Sm 1400 (x * y) := fun x y a b => (a.mul b).sm
    exact e_lll5 (f _ _ sp si) (f _ _ sp sq) (f _ _ sp su) (f _ _ sp sv) (f _ _ sr sn)
  have hr1 : ∃ t1, Rep (.list [(R5 (p * i) (p * q) (p * u) (p * v) (r * n)), (R5 (p * i) (p * q) (p * u) (p * v) (r * n))]) t1 := rep_l2 hT.nice hT.nice (by decide) (Nat.le_of_ble_eq_true rfl) (Nat.le_of_ble_eq_true rfl)
  obtain ⟨t1, r1⟩ := hr1
  have m0 : gMul (.int p) (.int i) = some (.int (p * i)) := gMul_ok g.sp.sm h.si.sm
  have m1 : gMul (.int p) (.int q) = some (.int (p * q)) := gMul_ok g.sp.sm h.sq.sm
  have m2 : gMul (.int p) (.int u) = some (.int (p * u)) := gMul_ok g.sp.sm h.su.sm
  have m3 : gMul (.int p) (.int v) = some (.int (p * v)) := gMul_ok g.sp.sm h.sv.sm
  have m4 : gMul (.int r) (.int n) = some (.int (r * n)) := gMul_ok g.sq.sm h.sn.sm
  have hn := h.n0
  have hr := g.q0
  by_cases hz : p = 0 ∨ i = 0
  · have ed : R5 (p * i) (p * q) (p * u) (p * v) (r * n) = T5 0 0 0 0 1 := by
      rcases hz with rfl | rfl
      · simp only [Int.zero_mul]; exact R5_dark (Int.mul_pos hr hn)
      · obtain ⟨rfl, rfl, rfl, rfl⟩ := lt_dark h
        simp only [Int.mul_zero]; exact R5_dark (Int.mul_pos hr hn)
    rw [ed] at e1 e2 e3 r1
    obtain ⟨r11, r12, r13⟩ := r1
    have eq := gEq_T5 0 0 0 0 1 0 0 0 0 1
    have eq' : gEq (T5 0 0 0 0 1) (T5 0 0 0 0 1) = some (.bool true) := rfl
    by_cases hp : p = 0
    · have hp' : (p == 0) = true := beq_iff_eq.mpr hp
      clear hT h g hz ed
      simp! [F__law_times_right, b__law_times_right, fRep, rng2, tn2, List.flatten_cons, List.flatten_nil, e1, e2, e3, r11, r12, gIx, ix5_0, ix5_4, ix2_0, ix2_1, cut5_04, m0, m1, m2, m3, m4, gEq_int, hp', eq']
    · have hp' : (p == 0) = false := beq_eq_false_iff_ne.mpr hp
      have hi' : (i == 0) = true := beq_iff_eq.mpr (by rcases hz with h | h; exact absurd h hp; exact h)
      clear hT h g hz ed
      simp! [F__law_times_right, b__law_times_right, fRep, rng2, tn2, List.flatten_cons, List.flatten_nil, e1, e2, e3, r11, r12, gIx, ix5_0, ix5_4, ix2_0, ix2_1, cut5_04, m0, m1, m2, m3, m4, gEq_int, hp', hi', eq']
  · have hp : p ≠ 0 := fun z => hz (.inl z)
    have hi : i ≠ 0 := fun z => hz (.inr z)
    have hp' : (p == 0) = false := beq_eq_false_iff_ne.mpr hp
    have hi' : (i == 0) = false := beq_eq_false_iff_ne.mpr hi
    have hM := mL_pos [p * i, p * q, p * u, p * v, r * n]
    have d1 := div_mul (v := [p * i, p * q, p * u, p * v, r * n]) (x := p * i) (by simp)
    have d2 := div_mul (v := [p * i, p * q, p * u, p * v, r * n]) (x := p * q) (by simp)
    have d3 := div_mul (v := [p * i, p * q, p * u, p * v, r * n]) (x := p * u) (by simp)
    have d4 := div_mul (v := [p * i, p * q, p * u, p * v, r * n]) (x := p * v) (by simp)
    unfold R5 at e1 e2 e3 r1
    generalize mL [p * i, p * q, p * u, p * v, r * n] = M at *
    generalize p * i / M = I, p * q / M = Q, p * u / M = U, p * v / M = V, r * n / M = N at *
    have hI : I ≠ 0 := fun z => by
      rw [z, Int.zero_mul] at d1
      rcases Int.mul_eq_zero.mp d1 with h | h
      · exact hp h
      · exact hi h
    have hcone : M * M * (I * I - (Q * Q + U * U + V * V)) = p * p * (i * i - (q * q + u * u + v * v)) := by
      have e : M * M * (I * I - (Q * Q + U * U + V * V)) = (I * M) * (I * M) - ((Q * M) * (Q * M) + (U * M) * (U * M) + (V * M) * (V * M)) := by grind
      rw [e, ← d1, ← d2, ← d3, ← d4]; grind
    have hMM := Int.mul_pos hM hM
    have hpp : p * p ≠ 0 := fun z => hp (sq_z z)
    have ep : F_purity [.dat (T5 I Q U V N)] [] = some (.dat (Rt (q * q + u * u + v * v) (i * i)), []) := by
      rw [e_purity (hT.up (by decide)) hI]
      refine congrArg (fun x => some (RV.dat x, ([] : Cs))) (rt_eq ?_ ?_ ?_)
      · have := sq_nn I
        have : I * I ≠ 0 := fun z => hI (sq_z z)
        omega
      · have := sq_nn i
        have : i * i ≠ 0 := fun z => hi (sq_z z)
        omega
      · refine Int.eq_of_mul_eq_mul_left (Int.ne_of_gt hMM) ?_
        have e : M * M * ((Q * Q + U * U + V * V) * (i * i)) = ((Q * M) * (Q * M) + (U * M) * (U * M) + (V * M) * (V * M)) * (i * i) := by grind
        have e' : M * M * ((q * q + u * u + v * v) * (I * I)) = (q * q + u * u + v * v) * ((I * M) * (I * M)) := by grind
        rw [e, e', ← d1, ← d2, ← d3, ← d4]; grind
    have ep' := e_purity (h.up (by decide : 60 ≤ 1000)) hi
    have hF : Fr 300 ((q * q + u * u + v * v) / rg (q * q + u * u + v * v) (i * i)) ((i * i) / rg (q * q + u * u + v * v) (i * i)) := by
      obtain ⟨i0, n0, hc, h1, si, sq, su, sv, sn⟩ := h
      exact rt_fr (by
        have := sq_nn i
        have : i * i ≠ 0 := fun z => hi (sq_z z)
        omega) (by (apply Sz.by; (repeat (first | assumption | exact sz_0 | exact sz_1 | exact sz_2 | exact sz_3 | exact sz_4 | exact sz_8 | exact Sz.of40 (by decide) | apply Sz.mul | apply Sz.add | apply Sz.sub | apply Sz.neg | apply Sz.div)); decide)) (by (apply Sz.by; (repeat (first | assumption | exact sz_0 | exact sz_1 | exact sz_2 | exact sz_3 | exact sz_4 | exact sz_8 | exact Sz.of40 (by decide) | apply Sz.mul | apply Sz.add | apply Sz.sub | apply Sz.neg | apply Sz.div)); decide))
    obtain ⟨r11, r12, r13⟩ := r1
    by_cases hc : i * i - (q * q + u * u + v * v) = 0
    · have hc' : I * I - (Q * Q + U * U + V * V) = 0 := by
        rw [hc, Int.mul_zero] at hcone
        rcases Int.mul_eq_zero.mp hcone with z | z
        · omega
        · exact z
      have k1 : F_kind_of [.dat (T5 I Q U V N)] [] = some (.dat (R4 q u v i), []) := by
        rw [e_kindof (hT.up (by decide)) hI hc']
        have hpos : 0 < p := by omega
        refine congrArg (fun x => some (RV.dat x, ([] : Cs))) (R4_red (red_par hM hpos ?_))
        simp only [List.map_cons, List.map_nil, d1, d2, d3, d4, Int.mul_comm]
      have k2 := e_kindof (h.up (by decide : 60 ≤ 1000)) hi hc
      have hK := kd_R4 (m := 60) (q := q) (u := u) (v := v) (n := i) (by have := h.i0; omega) (by omega) h.sq h.su h.sv h.si
      obtain ⟨t2, r2⟩ := rep_l2 (Nice.up (by decide : 60 ≤ 300) _ hK.nice) hF.nice (by decide) (Nat.le_of_ble_eq_true rfl) (Nat.le_of_ble_eq_true rfl)
      obtain ⟨r21, r22, r23⟩ := r2
      unfold R4 at k1 k2
      unfold Rt at ep ep'
      clear hT h g hz hF hK d1 d2 d3 d4
      simp! [F__law_times_right, b__law_times_right, fRep, rng2, tn2, List.flatten_cons, List.flatten_nil, e1, e2, e3, r11, r12, gIx, ix5_0, ix5_4, ix2_0, ix2_1, cut5_04, m0, m1, m2, m3, m4, gEq_int, hp', hi', k1, k2, ep, ep', r21, r23]
    · have hc' : I * I - (Q * Q + U * U + V * V) ≠ 0 := fun z => by
        rw [z, Int.mul_zero] at hcone
        rcases Int.mul_eq_zero.mp hcone.symm with z | z
        · exact hpp z
        · exact hc z
      have k1 := e_kindof_none (hT.up (by decide : 100 ≤ 1000)) (.inr (by have := hT.cone; omega))
      have k2 := e_kindof_none (h.up (by decide : 60 ≤ 1000)) (.inr (by have := h.cone; omega))
      obtain ⟨t2, r2⟩ := rep_l2 (n := 300) nice_none hF.nice (by decide) (Nat.le_of_ble_eq_true rfl) (Nat.le_of_ble_eq_true rfl)
      obtain ⟨r21, r22, r23⟩ := r2
      unfold Rt at ep ep'
      clear hT h g hz hF d1 d2 d3 d4
      simp! [F__law_times_right, b__law_times_right, fRep, rng2, tn2, List.flatten_cons, List.flatten_nil, e1, e2, e3, r11, r12, gIx, ix5_0, ix5_4, ix2_0, ix2_1, cut5_04, m0, m1, m2, m3, m4, gEq_int, hp', hi', k1, k2, ep, ep', r21, r23]
end
end PL


set_option Elab.async false
set_option linter.all false
set_option maxRecDepth 100000
set_option maxHeartbeats 1000000
set_option exponentiation.threshold 20000
namespace PL
open PySem PySem.Spec L2 DL
local macro_rules | `(tactic| simp! [$as,*]) => `(tactic| simp only [fThaw, fThawT, fThawL, thawD, thawO, noL, noLAll, fAug, gAug, fRev, fFnA, fCallV, fBot, fZip, zipD, gSum, intsOf, List.foldl_cons, List.foldl_nil, mkF, fRet, fRetL, fRetN, fSkip, fSeq, fNever, fSet, fAsg, fNew, fIfS, fDrop, fPar, fPar3, fSetc, fSetc2, fVar, fLit, fOp, fUn, fTup, fTup.datsOf, fLst, fNilA, fConsA, fStarA, fCelA, fOfL, fTru, fAndT, fOrT, fNotT, fAndV, fOrV, fNotV, fIf, fBi, fCall, fCallL, fCallFr, fPerm, callF, celOf, celsOk, norm, aName, aNil, aCons, aTup, setD, fSl, fIt, fItL, fItT, fFor, forGo, fLc, lcGo, fYes, wipeD, fCix, fList, fSlL, fPart, fNoPart, fChain, List.length_cons, List.length_nil, List.getElem?_cons_zero, List.getElem?_cons_succ, List.getElem?_nil, List.set_cons_zero, List.set_cons_succ, List.map_cons, List.map_nil, List.cons_append, List.nil_append, List.append_nil, List.replicate, List.take_zero, List.take_nil, List.take_succ_cons, ↓bsome, ↓msome, Option.bind_some, Option.map_some, Option.bind_none, Option.map_none, Nat.sub_self, Int.cast_ofNat_Int, Nat.reduceAdd, Nat.reduceMul, Nat.reduceSub, Nat.reduceLeDiff, Nat.reduceLT, Nat.zero_add, Nat.add_zero, and_self, and_true, true_and, if_true, if_false, ↓reduceIte, ite_true, Bool.true_eq_false, Bool.false_eq_true, beq_self_eq_true, Bool.and_self, Bool.not_true, Bool.not_false, decide_true, decide_false, gLen, gTyIs, gTyNot, tyOf, gNeg, gPlus, DL.gSub, gCmp, gInt, gAbs, gTuple, gMax, gMin, gGcd, LIM, gIx, $as,*])
theorem fn_ok {np nN n0 : Nat} {b : FS} {xs : List SV} {cs : Cs} {r : RV} {c c' : Cs} (h : b ⟨xs.map some ++ List.replicate (nN - np) none, cs⟩ = some (.rt r c)) (hl : xs.length = np ∧ cs.length = n0) (hc : c.take n0 = c') : mkF np nN n0 b xs cs = some (r, c') := by
  unfold mkF
  rw [if_pos hl, h, ← hc]
section
variable {m m' : Nat} {i q u v n i' q' u' v' n' : Int}
/-- the sum of two lights, and what it is a multiple of -/
theorem added_sp (h : Lt m i q u v n) (g : Lt m' i' q' u' v' n') (hm : m ≤ 1000 := by decide) (hm' : m' ≤ 1000 := by decide) : ∃ I Q U V N M : Int, F_added [.dat (T5 i q u v n), .dat (T5 i' q' u' v' n')] [] = some (.dat (T5 I Q U V N), []) ∧ Lt (m + m' + 1) I Q U V N ∧ 0 < M ∧
    n' * i + n * i' = I * M ∧ n' * q + n * q' = Q * M ∧ n' * u + n * u' = U * M ∧ n' * v + n * v' = V * M ∧ n * n' = N * M :=
  ⟨_, _, _, _, _, _, e_added (h.up hm) (g.up hm'), lt_added h g, mL_pos _, div_mul (by simp), div_mul (by simp), div_mul (by simp), div_mul (by simp), div_mul (by simp)⟩
theorem times_sp {k : Nat} {p r : Int} (h : Lt m i q u v n) (g : Fr k p r) (p0 : 0 ≤ p) (hm : m ≤ 1000 := by decide) (hm' : k ≤ 1000 := by decide) : ∃ I Q U V N M : Int, F_times [.dat (T5 i q u v n), .dat (T2 p r)] [] = some (.dat (T5 I Q U V N), []) ∧ Lt (m + k) I Q U V N ∧ 0 < M ∧
    p * i = I * M ∧ p * q = Q * M ∧ p * u = U * M ∧ p * v = V * M ∧ r * n = N * M :=
  ⟨_, _, _, _, _, _, e_times (h.up hm) ⟨g.q0, g.one, g.sp.by _ hm', g.sq.by _ hm'⟩ p0, lt_times h g p0, mL_pos _, div_mul (by simp), div_mul (by simp), div_mul (by simp), div_mul (by simp), div_mul (by simp)⟩
theorem Fr.up {a b : Nat} {p r : Int} (h : Fr a p r) (hb : a ≤ b) : Fr b p r := ⟨h.q0, h.one, h.sp.by _ hb, h.sq.by _ hb⟩
theorem fr_prod (h : Lt m i q u v n) (g : Lt m' i' q' u' v' n') : Fr (m + m' + 3) ((i * i' - (q * q' + u * u' + v * v')) / rg (i * i' - (q * q' + u * u' + v * v')) (n * n')) ((n * n') / rg (i * i' - (q * q' + u * u' + v * v')) (n * n')) := by
  obtain ⟨i0, n0, hc, h1, si, sq, su, sv, sn⟩ := h
  obtain ⟨i0', n0', hc', h1', si', sq', su', sv', sn'⟩ := g
  exact rt_fr (Int.mul_pos n0 n0') (((si.mul si').sub (((sq.mul sq').add (su.mul su')).add (sv.mul sv'))).by _ (by omega)) ((sn.mul sn').by _ (by omega))
theorem rep_R {n : Nat} {d : PyData} (h : Nice n d) (hn : n ≤ 1500 := by decide) (hb : d.bulk ≤ 500 := by exact Nat.le_of_ble_eq_true rfl) (hd : d.depth ≤ 60 := by exact Nat.le_of_ble_eq_true rfl) : ∃ t, Rep d t := rep_1 h hn hb hd
theorem Rt_zero {r : Int} (h : 0 < r) : Rt 0 r = T2 0 1 := by
  have e : rg 0 r = r := by
    unfold rg; rw [if_pos h, Int.natAbs_zero, Nat.gcd_zero_left]; omega
  unfold Rt
  rw [e, Int.zero_ediv, Int.ediv_self (by omega)]
theorem lt_kd (h : Kd m q u v n) : Lt m n q u v n := by
  obtain ⟨n0, hs, ho, sq, su, sv, sn⟩ := h
  refine ⟨Int.le_of_lt n0, n0, by omega, ?_, sn, sq, su, sv, sn⟩
  show Nat.gcd n.natAbs (gL [q, u, v, n]) = 1
  rw [ho, Nat.gcd_one_right]
theorem frac1 : Fr 40 1 1 := ⟨by decide, by decide, sz_1.by _ (by decide), sz_1.by _ (by decide)⟩
theorem frac0 : Fr 40 0 1 := ⟨by decide, by decide, sz_0.by _ (by decide), sz_1.by _ (by decide)⟩
theorem dark60 : Lt 60 0 0 0 0 1 := lt_dark0.up (by decide)
theorem Lk.up {a b : Nat} {x y z w : Int} (h : Lk a x y z w) (hb : a ≤ b) : Lk b x y z w := ⟨h.a0, h.cone, h.one, h.sa.by _ hb, h.sb.by _ hb, h.sc.by _ hb, h.sd.by _ hb⟩
end
/-! what sums and multiples make of products and levels -/
theorem as1 {M M' N N' n1 n2 n3 i1 i2 i3 I I' : Int} (b1 : n2 * i1 + n1 * i2 = I * M) (b5 : n1 * n2 = N * M) (d1 : n3 * i2 + n2 * i3 = I' * M') (d5 : n2 * n3 = N' * M') : M' * (N' * i1 + n1 * I') = M * (n3 * I + N * i3) := by
  have x1 : M' * (N' * i1 + n1 * I') = (N' * M') * i1 + n1 * (I' * M') := by grind
  have x2 : M * (n3 * I + N * i3) = n3 * (I * M) + (N * M) * i3 := by grind
  rw [x1, x2, ← b1, ← b5, ← d1, ← d5]
  grind
theorem as2 {M M' N N' n1 n2 n3 : Int} (b5 : n1 * n2 = N * M) (d5 : n2 * n3 = N' * M') : M' * (n1 * N') = M * (N * n3) := by
  have x1 : M' * (n1 * N') = n1 * (N' * M') := by grind
  have x2 : M * (N * n3) = (N * M) * n3 := by grind
  rw [x1, x2, ← b5, ← d5]
  grind
theorem rt_prod {i1 q1 u1 v1 n1 i2 q2 u2 v2 n2 i3 q3 u3 v3 n3 I Q U V N M : Int} (hM : 0 < M) (P1 : 0 < n1 * n3) (P2 : 0 < n2 * n3) (P3 : 0 < N * n3)
    (b1 : n2 * i1 + n1 * i2 = I * M) (b2 : n2 * q1 + n1 * q2 = Q * M) (b3 : n2 * u1 + n1 * u2 = U * M) (b4 : n2 * v1 + n1 * v2 = V * M) (b5 : n1 * n2 = N * M) :
    Rt (I * i3 - (Q * q3 + U * u3 + V * v3)) (N * n3) = Rt ((i1 * i3 - (q1 * q3 + u1 * u3 + v1 * v3)) * (n2 * n3) + (i2 * i3 - (q2 * q3 + u2 * u3 + v2 * v3)) * (n1 * n3)) ((n1 * n3) * (n2 * n3)) := by
  refine rt_eq P3 (Int.mul_pos P1 P2) ?_
  refine Int.eq_of_mul_eq_mul_left (Int.ne_of_gt hM) ?_
  have x1 : M * ((I * i3 - (Q * q3 + U * u3 + V * v3)) * ((n1 * n3) * (n2 * n3))) = ((I * M) * i3 - ((Q * M) * q3 + (U * M) * u3 + (V * M) * v3)) * ((n1 * n3) * (n2 * n3)) := by grind
  have x2 : M * (((i1 * i3 - (q1 * q3 + u1 * u3 + v1 * v3)) * (n2 * n3) + (i2 * i3 - (q2 * q3 + u2 * u3 + v2 * v3)) * (n1 * n3)) * (N * n3)) = ((i1 * i3 - (q1 * q3 + u1 * u3 + v1 * v3)) * (n2 * n3) + (i2 * i3 - (q2 * q3 + u2 * u3 + v2 * v3)) * (n1 * n3)) * ((N * M) * n3) := by grind
  rw [x1, x2, ← b1, ← b2, ← b3, ← b4, ← b5]
  grind
theorem rt_times {i1 q1 u1 v1 n1 i2 q2 u2 v2 n2 p r J K L O Z M2 : Int} (hM2 : 0 < M2) (r0 : 0 < r) (P4 : 0 < n1 * n2) (P5 : 0 < Z * n2)
    (g1 : p * i1 = J * M2) (g2 : p * q1 = K * M2) (g3 : p * u1 = L * M2) (g4 : p * v1 = O * M2) (g5 : r * n1 = Z * M2) :
    Rt (J * i2 - (K * q2 + L * u2 + O * v2)) (Z * n2) = Rt (p * (i1 * i2 - (q1 * q2 + u1 * u2 + v1 * v2))) (r * (n1 * n2)) := by
  refine rt_eq P5 (Int.mul_pos r0 P4) ?_
  refine Int.eq_of_mul_eq_mul_left (Int.ne_of_gt hM2) ?_
  have x1 : M2 * ((J * i2 - (K * q2 + L * u2 + O * v2)) * (r * (n1 * n2))) = ((J * M2) * i2 - ((K * M2) * q2 + (L * M2) * u2 + (O * M2) * v2)) * (r * (n1 * n2)) := by grind
  have x2 : M2 * ((p * (i1 * i2 - (q1 * q2 + u1 * u2 + v1 * v2))) * (Z * n2)) = (p * (i1 * i2 - (q1 * q2 + u1 * u2 + v1 * v2))) * ((Z * M2) * n2) := by grind
  rw [x1, x2, ← g1, ← g2, ← g3, ← g4, ← g5]
  grind
theorem rt_level {a b c d i1 q1 u1 v1 n1 i2 q2 u2 v2 n2 I Q U V N M : Int} (hM : 0 < M) (n0 : 0 < N) (P : 0 < n1 * n2)
    (b1 : n2 * i1 + n1 * i2 = I * M) (b2 : n2 * q1 + n1 * q2 = Q * M) (b3 : n2 * u1 + n1 * u2 = U * M) (b4 : n2 * v1 + n1 * v2 = V * M) (b5 : n1 * n2 = N * M) :
    Rt (a * I + b * Q + c * U + d * V) N = Rt ((a * i1 + b * q1 + c * u1 + d * v1) * n2 + (a * i2 + b * q2 + c * u2 + d * v2) * n1) (n1 * n2) := by
  refine rt_eq n0 P ?_
  refine Int.eq_of_mul_eq_mul_left (Int.ne_of_gt hM) ?_
  have x1 : M * ((a * I + b * Q + c * U + d * V) * (n1 * n2)) = (a * (I * M) + b * (Q * M) + c * (U * M) + d * (V * M)) * (n1 * n2) := by grind
  have x2 : M * (((a * i1 + b * q1 + c * u1 + d * v1) * n2 + (a * i2 + b * q2 + c * u2 + d * v2) * n1) * N) = ((a * i1 + b * q1 + c * u1 + d * v1) * n2 + (a * i2 + b * q2 + c * u2 + d * v2) * n1) * (N * M) := by grind
  rw [x1, x2, ← b1, ← b2, ← b3, ← b4, ← b5]
  grind
theorem e_right5 {k : Nat} {t : List PyData} (h : Tap (k + 60) t) : ∃ t', F__law_right [.cel 0] [t] = some (.dat (.bool true), [t']) := by
  obtain ⟨i1, q1, u1, v1, n1, t1, e1, h1, l1⟩ := e_shine (k := k + 50) h
  obtain ⟨i2, q2, u2, v2, n2, t2, e2, h2, l2⟩ := e_kin (k := k + 39) h1 l1
  obtain ⟨i3, q3, u3, v3, n3, t3, e3, h3, l3⟩ := e_kin (k := k + 28) h2 l1
  obtain ⟨p, r, t4, e4, h4, fr, p0⟩ := e_level' (k := k + 22) h3
  obtain ⟨a, b, c, d, t5, e5, h5, lk⟩ := e_eye (k := k + 11) h4
  obtain ⟨hq, hu, hv, hn, t6, e6, h6, hk⟩ := e_hue (k := k + 6) h5
  have l1' := l1.up (by decide : 40 ≤ 60)
  have w1 := e_pair l1' l2
  have w2 := e_pair l2 l3
  have w3 := e_pair l1' l1'
  have w4 := e_pair l3 dark60
  have s1 := e_timesr l1' fr p0
  have s2 := e_timesr l3 frac1 (by decide)
  have s3 := e_timesr l2 frac0 (by decide)
  -- sums
  obtain ⟨I, Q, U, V, N, M, a1, lA, hM, b1, b2, b3, b4, b5⟩ := added_sp l1' l2
  obtain ⟨I', Q', U', V', N', M', a2, lB, hM', d1, d2, d3, d4, d5⟩ := added_sp l2 l3
  have a3 : F_added [.dat (T5 I Q U V N), .dat (T5 i3 q3 u3 v3 n3)] [] = some (.dat (R5 (n3 * I + N * i3) (n3 * Q + N * q3) (n3 * U + N * u3) (n3 * V + N * v3) (N * n3)), []) := e_added (lA.up (by decide)) (l3.up (by decide))
  have a4 : F_added [.dat (T5 i1 q1 u1 v1 n1), .dat (T5 I' Q' U' V' N')] [] = some (.dat (R5 (n3 * I + N * i3) (n3 * Q + N * q3) (n3 * U + N * u3) (n3 * V + N * v3) (N * n3)), []) := by
    rw [e_added (l1.up (by decide)) (lB.up (by decide))]
    refine congrArg (fun x => some (RV.dat x, ([] : Cs))) (R5_red (red_par hM' hM ?_))
    simp only [List.map_cons, List.map_nil, List.cons.injEq, and_true]
    exact ⟨as1 b1 b5 d1 d5, as1 b2 b5 d2 d5, as1 b3 b5 d3 d5, as1 b4 b5 d4 d5, as2 b5 d5⟩
  have ra : ∃ t, Rep (R5 (n3 * I + N * i3) (n3 * Q + N * q3) (n3 * U + N * u3) (n3 * V + N * v3) (N * n3)) t := rep_R (lt_added lA l3).nice
  obtain ⟨ta, ra1, ra2, ra3⟩ := ra
  -- products of sums
  have z1 := e_product (l1.up (by decide : 40 ≤ 1000)) (l3.up (by decide : 60 ≤ 1000))
  have z2 := e_product (l2.up (by decide : 60 ≤ 1000)) (l3.up (by decide : 60 ≤ 1000))
  have f1 := fr_prod l1' l3
  have f2 := fr_prod l2 l3
  have z3 := e_lplus (f1.up (by decide : 123 ≤ 300)) (f2.up (by decide : 123 ≤ 300))
  have z4 := e_product (lA.up (by decide : 121 ≤ 1000)) (l3.up (by decide : 60 ≤ 1000))
  have P1 := Int.mul_pos l1.n0 l3.n0
  have P2 := Int.mul_pos l2.n0 l3.n0
  have P3 := Int.mul_pos lA.n0 l3.n0
  have rt1 := rt_prod (i3 := i3) (q3 := q3) (u3 := u3) (v3 := v3) hM P1 P2 P3 b1 b2 b3 b4 b5
  have rt2 := ((isq_rt (p := i1 * i3 - (q1 * q3 + u1 * u3 + v1 * v3)) P1).add (isq_rt (p := i2 * i3 - (q2 * q3 + u2 * u3 + v2 * v3)) P2)).rt (Int.mul_pos f1.q0 f2.q0) (Int.mul_pos P1 P2)
  rw [rt2, ← rt1] at z3
  have rb : ∃ t, Rep (Rt (I * i3 - (Q * q3 + U * u3 + V * v3)) (N * n3)) t := rep_R (fr_prod lA l3).nice
  obtain ⟨tb, rb1, rb2, rb3⟩ := rb
  -- products of multiples
  obtain ⟨J, K, L, O, Z, M2, y1, lC, hM2, g1, g2, g3, g4, g5⟩ := times_sp l1' fr p0
  have y2 := e_product (lC.up (by decide : 100 ≤ 1000)) (l2.up (by decide : 60 ≤ 1000))
  have y3 := e_product (l1.up (by decide : 40 ≤ 1000)) (l2.up (by decide : 60 ≤ 1000))
  have f3 := fr_prod l1' l2
  have y4 := e_lby (fr.up (by decide : 40 ≤ 300)) (f3.up (by decide : 123 ≤ 300))
  have P4 := Int.mul_pos l1.n0 l2.n0
  have P5 := Int.mul_pos lC.n0 l2.n0
  have rt3 := rt_times (i2 := i2) (q2 := q2) (u2 := u2) (v2 := v2) hM2 fr.q0 P4 P5 g1 g2 g3 g4 g5
  have rt4 := ((show IsQ p r p r from rfl).mul (isq_rt (p := i1 * i2 - (q1 * q2 + u1 * u2 + v1 * v2)) P4)).rt (Int.mul_pos fr.q0 f3.q0) (Int.mul_pos fr.q0 P4)
  rw [rt4, ← rt3] at y4
  have rc : ∃ t, Rep (Rt (J * i2 - (K * q2 + L * u2 + O * v2)) (Z * n2)) t := rep_R (fr_prod lC l2).nice
  obtain ⟨tc, rc1, rc2, rc3⟩ := rc
  -- levels of sums
  have lk' := lk.up (by decide : 40 ≤ 1000)
  have x1 := e_level lk' (l1.up (by decide : 40 ≤ 1000))
  have x2 := e_level lk' (l2.up (by decide : 60 ≤ 1000))
  have x3 := e_level lk' (lA.up (by decide : 121 ≤ 1000))
  have fl : ∀ {m : Nat} {i q u v n : Int}, m ≤ 121 → Lt m i q u v n → Fr 170 ((a * i + b * q + c * u + d * v) / rg (a * i + b * q + c * u + d * v) n) (n / rg (a * i + b * q + c * u + d * v) n) := fun hm l => by
    have l' := l.up hm
    exact rt_fr l'.n0 (((((lk.sa.mul l'.si).add (lk.sb.mul l'.sq)).add (lk.sc.mul l'.su)).add (lk.sd.mul l'.sv)).by _ (by decide)) (l'.sn.by _ (by decide))
  have x4 := e_lplus ((fl (by decide) l1).up (by decide : 170 ≤ 300)) ((fl (by decide) l2).up (by decide : 170 ≤ 300))
  have rt5 := ((isq_rt (p := a * i1 + b * q1 + c * u1 + d * v1) l1.n0).add (isq_rt (p := a * i2 + b * q2 + c * u2 + d * v2) l2.n0)).rt (Int.mul_pos (fl (by decide) l1).q0 (fl (by decide) l2).q0) (Int.mul_pos l1.n0 l2.n0)
  have rt6 := rt_level (a := a) (b := b) (c := c) (d := d) hM lA.n0 P4 b1 b2 b3 b4 b5
  rw [rt5, ← rt6] at x4
  have rd : ∃ t, Rep (Rt (a * I + b * Q + c * U + d * V) N) t := rep_R (fl (by decide) lA).nice
  obtain ⟨td, rd1, rd2, rd3⟩ := rd
  -- one kind with itself
  have k1 := e_pure (⟨hk.n0, hk.sph, hk.one, hk.sq.by _ (by decide), hk.su.by _ (by decide), hk.sv.by _ (by decide), hk.sn.by _ (by decide)⟩ : Kd 4000 hq hu hv hn)
  have lK := lt_kd hk
  have k2 := e_product (lK.up (by decide : 30 ≤ 1000)) (lK.up (by decide : 30 ≤ 1000))
  have hz : hn * hn - (hq * hq + hu * hu + hv * hv) = 0 := by rw [hk.sph]; omega
  rw [hz, Rt_zero (Int.mul_pos hk.n0 hk.n0)] at k2
  obtain ⟨te, re1, re2, re3⟩ := rep_R (frac0.nice)
  -- nothing added
  have o1 : F_added [.dat (T5 i1 q1 u1 v1 n1), .dat (T5 0 0 0 0 1)] [] = some (.dat (T5 i1 q1 u1 v1 n1), []) := by
    have := e_added (l1.up (by decide : 40 ≤ 1000)) (lt_dark0.up (by decide : 40 ≤ 1000))
    simp only [Int.one_mul, Int.mul_zero, Int.add_zero, Int.mul_one] at this
    rw [this, R5_one l1.one]
  obtain ⟨tf, rf1, rf2, rf3⟩ := rep_R l1.nice
  refine ⟨t6, ?_⟩
  unfold Rt at z1 z2 z3 z4 y2 y3 y4 x1 x2 x3 x4 rb1 rc1 rd1
  unfold R5 at a3 a4 ra1
  clear l1 l2 l3 l1' lA lB lC fl lk lk' lK hk f1 f2 f3 fr P1 P2 P3 P4 P5 rt1 rt2 rt3 rt4 rt5 rt6
  have c0 : (fSet 1 (fCall F__law_shine (fCelA 0 fNilA))) ⟨[some (.cel 0), none, none, none, none, none, none, none, none, none, none], [t]⟩ = some (.nx ⟨[some (.cel 0), some (.dat (T5 i1 q1 u1 v1 n1)), none, none, none, none, none, none, none, none, none], [t1]⟩) := by
    simp! [e1]
  have c1 : (fPar 5 6 (fConsA (fCall F__law_kin (fCelA 0 (fConsA (fVar 1) fNilA))) (fConsA (fCall F__law_kin (fCelA 0 (fConsA (fVar 1) fNilA))) fNilA))) ⟨[some (.cel 0), some (.dat (T5 i1 q1 u1 v1 n1)), none, none, none, none, none, none, none, none, none], [t1]⟩ = some (.nx ⟨[some (.cel 0), some (.dat (T5 i1 q1 u1 v1 n1)), none, none, none, some (.dat (T5 i2 q2 u2 v2 n2)), some (.dat (T5 i3 q3 u3 v3 n3)), none, none, none, none], [t3]⟩) := by
    simp! [e2, e3]
  have c2 : (fPar 7 8 (fConsA (fCall F__law_level (fCelA 0 fNilA)) (fConsA (fCall F__law_eye (fCelA 0 fNilA)) fNilA))) ⟨[some (.cel 0), some (.dat (T5 i1 q1 u1 v1 n1)), none, none, none, some (.dat (T5 i2 q2 u2 v2 n2)), some (.dat (T5 i3 q3 u3 v3 n3)), none, none, none, none], [t3]⟩ = some (.nx ⟨[some (.cel 0), some (.dat (T5 i1 q1 u1 v1 n1)), none, none, none, some (.dat (T5 i2 q2 u2 v2 n2)), some (.dat (T5 i3 q3 u3 v3 n3)), some (.dat (T2 p r)), some (.dat (T4 a b c d)), none, none], [t5]⟩) := by
    simp! [e4, e5]
  have c3 : (fFor (fIt (fOfL (fLst (fConsA (fTup (fConsA (fVar 1) (fConsA (fVar 5) fNilA))) (fConsA (fTup (fConsA (fVar 5) (fConsA (fVar 6) fNilA))) (fConsA (fTup (fConsA (fVar 1) (fConsA (fVar 1) fNilA))) (fConsA (fTup (fConsA (fVar 6) (fConsA (fTup (fConsA (fLit (.int 0)) (fConsA (fLit (.int 0)) (fConsA (fLit (.int 0)) (fConsA (fLit (.int 0)) (fConsA (fLit (.int 1)) fNilA)))))) fNilA))) fNilA))))))) (aTup 2 (aCons (aName 9) (aCons (aName 10) aNil))) (fIfS (fNotT (fTru (fCall F__law_pair_right (fConsA (fVar 9) (fConsA (fVar 10) fNilA))))) (fRet (fLit (.bool false))) fSkip)) ⟨[some (.cel 0), some (.dat (T5 i1 q1 u1 v1 n1)), none, none, none, some (.dat (T5 i2 q2 u2 v2 n2)), some (.dat (T5 i3 q3 u3 v3 n3)), some (.dat (T2 p r)), some (.dat (T4 a b c d)), none, none], [t5]⟩ = some (.nx ⟨[some (.cel 0), some (.dat (T5 i1 q1 u1 v1 n1)), none, none, none, some (.dat (T5 i2 q2 u2 v2 n2)), some (.dat (T5 i3 q3 u3 v3 n3)), some (.dat (T2 p r)), some (.dat (T4 a b c d)), some (.dat (T5 i3 q3 u3 v3 n3)), some (.dat (T5 0 0 0 0 1))], [t5]⟩) := by
    simp! [w1, w2, w3, w4]
  have c4 : (fIfS (fOrT (fNotT (fTru (fCall F__law_times_right (fConsA (fVar 1) (fConsA (fVar 7) fNilA))))) (fNotT (fTru (fCall F__law_times_right (fConsA (fVar 6) (fConsA (fTup (fConsA (fLit (.int 1)) (fConsA (fLit (.int 1)) fNilA))) fNilA)))))) (fRet (fLit (.bool false))) fSkip) ⟨[some (.cel 0), some (.dat (T5 i1 q1 u1 v1 n1)), none, none, none, some (.dat (T5 i2 q2 u2 v2 n2)), some (.dat (T5 i3 q3 u3 v3 n3)), some (.dat (T2 p r)), some (.dat (T4 a b c d)), some (.dat (T5 i3 q3 u3 v3 n3)), some (.dat (T5 0 0 0 0 1))], [t5]⟩ = some (.nx ⟨[some (.cel 0), some (.dat (T5 i1 q1 u1 v1 n1)), none, none, none, some (.dat (T5 i2 q2 u2 v2 n2)), some (.dat (T5 i3 q3 u3 v3 n3)), some (.dat (T2 p r)), some (.dat (T4 a b c d)), some (.dat (T5 i3 q3 u3 v3 n3)), some (.dat (T5 0 0 0 0 1))], [t5]⟩) := by
    simp! [s1, s2]
  have c5 : (fIfS (fNotT (fTru (fCall F__law_times_right (fConsA (fVar 5) (fConsA (fTup (fConsA (fLit (.int 0)) (fConsA (fLit (.int 1)) fNilA))) fNilA))))) (fRet (fLit (.bool false))) fSkip) ⟨[some (.cel 0), some (.dat (T5 i1 q1 u1 v1 n1)), none, none, none, some (.dat (T5 i2 q2 u2 v2 n2)), some (.dat (T5 i3 q3 u3 v3 n3)), some (.dat (T2 p r)), some (.dat (T4 a b c d)), some (.dat (T5 i3 q3 u3 v3 n3)), some (.dat (T5 0 0 0 0 1))], [t5]⟩ = some (.nx ⟨[some (.cel 0), some (.dat (T5 i1 q1 u1 v1 n1)), none, none, none, some (.dat (T5 i2 q2 u2 v2 n2)), some (.dat (T5 i3 q3 u3 v3 n3)), some (.dat (T2 p r)), some (.dat (T4 a b c d)), some (.dat (T5 i3 q3 u3 v3 n3)), some (.dat (T5 0 0 0 0 1))], [t5]⟩) := by
    simp! [s3]
  have c6 : (fIfS (fTru (fOp gNe (fBi gRepr (fConsA (fCall F_added (fConsA (fCall F_added (fConsA (fVar 1) (fConsA (fVar 5) fNilA))) (fConsA (fVar 6) fNilA))) fNilA)) (fBi gRepr (fConsA (fCall F_added (fConsA (fVar 1) (fConsA (fCall F_added (fConsA (fVar 5) (fConsA (fVar 6) fNilA))) fNilA))) fNilA)))) (fRet (fLit (.bool false))) fSkip) ⟨[some (.cel 0), some (.dat (T5 i1 q1 u1 v1 n1)), none, none, none, some (.dat (T5 i2 q2 u2 v2 n2)), some (.dat (T5 i3 q3 u3 v3 n3)), some (.dat (T2 p r)), some (.dat (T4 a b c d)), some (.dat (T5 i3 q3 u3 v3 n3)), some (.dat (T5 0 0 0 0 1))], [t5]⟩ = some (.nx ⟨[some (.cel 0), some (.dat (T5 i1 q1 u1 v1 n1)), none, none, none, some (.dat (T5 i2 q2 u2 v2 n2)), some (.dat (T5 i3 q3 u3 v3 n3)), some (.dat (T2 p r)), some (.dat (T4 a b c d)), some (.dat (T5 i3 q3 u3 v3 n3)), some (.dat (T5 0 0 0 0 1))], [t5]⟩) := by
    simp! [a1, a2, a3, a4, ra1, ra2]
  have c7 : (fSet 2 (fCall F__law_plus (fConsA (fCall F_product (fConsA (fVar 1) (fConsA (fVar 6) fNilA))) (fConsA (fCall F_product (fConsA (fVar 5) (fConsA (fVar 6) fNilA))) fNilA)))) ⟨[some (.cel 0), some (.dat (T5 i1 q1 u1 v1 n1)), none, none, none, some (.dat (T5 i2 q2 u2 v2 n2)), some (.dat (T5 i3 q3 u3 v3 n3)), some (.dat (T2 p r)), some (.dat (T4 a b c d)), some (.dat (T5 i3 q3 u3 v3 n3)), some (.dat (T5 0 0 0 0 1))], [t5]⟩ = some (.nx ⟨[some (.cel 0), some (.dat (T5 i1 q1 u1 v1 n1)), some (.dat (T2 ((I * i3 - (Q * q3 + U * u3 + V * v3)) / rg (I * i3 - (Q * q3 + U * u3 + V * v3)) (N * n3)) (N * n3 / rg (I * i3 - (Q * q3 + U * u3 + V * v3)) (N * n3)))), none, none, some (.dat (T5 i2 q2 u2 v2 n2)), some (.dat (T5 i3 q3 u3 v3 n3)), some (.dat (T2 p r)), some (.dat (T4 a b c d)), some (.dat (T5 i3 q3 u3 v3 n3)), some (.dat (T5 0 0 0 0 1))], [t5]⟩) := by
    simp! [z1, z2, z3]
  have c8 : (fIfS (fTru (fOp gNe (fBi gRepr (fConsA (fCall F_product (fConsA (fCall F_added (fConsA (fVar 1) (fConsA (fVar 5) fNilA))) (fConsA (fVar 6) fNilA))) fNilA)) (fBi gRepr (fConsA (fVar 2) fNilA)))) (fRet (fLit (.bool false))) fSkip) ⟨[some (.cel 0), some (.dat (T5 i1 q1 u1 v1 n1)), some (.dat (T2 ((I * i3 - (Q * q3 + U * u3 + V * v3)) / rg (I * i3 - (Q * q3 + U * u3 + V * v3)) (N * n3)) (N * n3 / rg (I * i3 - (Q * q3 + U * u3 + V * v3)) (N * n3)))), none, none, some (.dat (T5 i2 q2 u2 v2 n2)), some (.dat (T5 i3 q3 u3 v3 n3)), some (.dat (T2 p r)), some (.dat (T4 a b c d)), some (.dat (T5 i3 q3 u3 v3 n3)), some (.dat (T5 0 0 0 0 1))], [t5]⟩ = some (.nx ⟨[some (.cel 0), some (.dat (T5 i1 q1 u1 v1 n1)), some (.dat (T2 ((I * i3 - (Q * q3 + U * u3 + V * v3)) / rg (I * i3 - (Q * q3 + U * u3 + V * v3)) (N * n3)) (N * n3 / rg (I * i3 - (Q * q3 + U * u3 + V * v3)) (N * n3)))), none, none, some (.dat (T5 i2 q2 u2 v2 n2)), some (.dat (T5 i3 q3 u3 v3 n3)), some (.dat (T2 p r)), some (.dat (T4 a b c d)), some (.dat (T5 i3 q3 u3 v3 n3)), some (.dat (T5 0 0 0 0 1))], [t5]⟩) := by
    simp! [a1, z4, rb1, rb2]
  have c9 : (fIfS (fTru (fOp gNe (fBi gRepr (fConsA (fCall F_product (fConsA (fCall F_times (fConsA (fVar 1) (fConsA (fVar 7) fNilA))) (fConsA (fVar 5) fNilA))) fNilA)) (fBi gRepr (fConsA (fCall F__law_by (fConsA (fVar 7) (fConsA (fCall F_product (fConsA (fVar 1) (fConsA (fVar 5) fNilA))) fNilA))) fNilA)))) (fRet (fLit (.bool false))) fSkip) ⟨[some (.cel 0), some (.dat (T5 i1 q1 u1 v1 n1)), some (.dat (T2 ((I * i3 - (Q * q3 + U * u3 + V * v3)) / rg (I * i3 - (Q * q3 + U * u3 + V * v3)) (N * n3)) (N * n3 / rg (I * i3 - (Q * q3 + U * u3 + V * v3)) (N * n3)))), none, none, some (.dat (T5 i2 q2 u2 v2 n2)), some (.dat (T5 i3 q3 u3 v3 n3)), some (.dat (T2 p r)), some (.dat (T4 a b c d)), some (.dat (T5 i3 q3 u3 v3 n3)), some (.dat (T5 0 0 0 0 1))], [t5]⟩ = some (.nx ⟨[some (.cel 0), some (.dat (T5 i1 q1 u1 v1 n1)), some (.dat (T2 ((I * i3 - (Q * q3 + U * u3 + V * v3)) / rg (I * i3 - (Q * q3 + U * u3 + V * v3)) (N * n3)) (N * n3 / rg (I * i3 - (Q * q3 + U * u3 + V * v3)) (N * n3)))), none, none, some (.dat (T5 i2 q2 u2 v2 n2)), some (.dat (T5 i3 q3 u3 v3 n3)), some (.dat (T2 p r)), some (.dat (T4 a b c d)), some (.dat (T5 i3 q3 u3 v3 n3)), some (.dat (T5 0 0 0 0 1))], [t5]⟩) := by
    simp! [y1, y2, y3, y4, rc1, rc2]
  have c10 : (fSet 3 (fCall F__law_plus (fConsA (fCall F_read_level (fConsA (fVar 8) (fConsA (fVar 1) fNilA))) (fConsA (fCall F_read_level (fConsA (fVar 8) (fConsA (fVar 5) fNilA))) fNilA)))) ⟨[some (.cel 0), some (.dat (T5 i1 q1 u1 v1 n1)), some (.dat (T2 ((I * i3 - (Q * q3 + U * u3 + V * v3)) / rg (I * i3 - (Q * q3 + U * u3 + V * v3)) (N * n3)) (N * n3 / rg (I * i3 - (Q * q3 + U * u3 + V * v3)) (N * n3)))), none, none, some (.dat (T5 i2 q2 u2 v2 n2)), some (.dat (T5 i3 q3 u3 v3 n3)), some (.dat (T2 p r)), some (.dat (T4 a b c d)), some (.dat (T5 i3 q3 u3 v3 n3)), some (.dat (T5 0 0 0 0 1))], [t5]⟩ = some (.nx ⟨[some (.cel 0), some (.dat (T5 i1 q1 u1 v1 n1)), some (.dat (T2 ((I * i3 - (Q * q3 + U * u3 + V * v3)) / rg (I * i3 - (Q * q3 + U * u3 + V * v3)) (N * n3)) (N * n3 / rg (I * i3 - (Q * q3 + U * u3 + V * v3)) (N * n3)))), some (.dat (T2 ((a * I + b * Q + c * U + d * V) / rg (a * I + b * Q + c * U + d * V) N) (N / rg (a * I + b * Q + c * U + d * V) N))), none, some (.dat (T5 i2 q2 u2 v2 n2)), some (.dat (T5 i3 q3 u3 v3 n3)), some (.dat (T2 p r)), some (.dat (T4 a b c d)), some (.dat (T5 i3 q3 u3 v3 n3)), some (.dat (T5 0 0 0 0 1))], [t5]⟩) := by
    simp! [x1, x2, x4]
  have c11 : (fIfS (fTru (fOp gNe (fBi gRepr (fConsA (fCall F_read_level (fConsA (fVar 8) (fConsA (fCall F_added (fConsA (fVar 1) (fConsA (fVar 5) fNilA))) fNilA))) fNilA)) (fBi gRepr (fConsA (fVar 3) fNilA)))) (fRet (fLit (.bool false))) fSkip) ⟨[some (.cel 0), some (.dat (T5 i1 q1 u1 v1 n1)), some (.dat (T2 ((I * i3 - (Q * q3 + U * u3 + V * v3)) / rg (I * i3 - (Q * q3 + U * u3 + V * v3)) (N * n3)) (N * n3 / rg (I * i3 - (Q * q3 + U * u3 + V * v3)) (N * n3)))), some (.dat (T2 ((a * I + b * Q + c * U + d * V) / rg (a * I + b * Q + c * U + d * V) N) (N / rg (a * I + b * Q + c * U + d * V) N))), none, some (.dat (T5 i2 q2 u2 v2 n2)), some (.dat (T5 i3 q3 u3 v3 n3)), some (.dat (T2 p r)), some (.dat (T4 a b c d)), some (.dat (T5 i3 q3 u3 v3 n3)), some (.dat (T5 0 0 0 0 1))], [t5]⟩ = some (.nx ⟨[some (.cel 0), some (.dat (T5 i1 q1 u1 v1 n1)), some (.dat (T2 ((I * i3 - (Q * q3 + U * u3 + V * v3)) / rg (I * i3 - (Q * q3 + U * u3 + V * v3)) (N * n3)) (N * n3 / rg (I * i3 - (Q * q3 + U * u3 + V * v3)) (N * n3)))), some (.dat (T2 ((a * I + b * Q + c * U + d * V) / rg (a * I + b * Q + c * U + d * V) N) (N / rg (a * I + b * Q + c * U + d * V) N))), none, some (.dat (T5 i2 q2 u2 v2 n2)), some (.dat (T5 i3 q3 u3 v3 n3)), some (.dat (T2 p r)), some (.dat (T4 a b c d)), some (.dat (T5 i3 q3 u3 v3 n3)), some (.dat (T5 0 0 0 0 1))], [t5]⟩) := by
    simp! [a1, x3, rd1, rd2]
  have c12 : (fSet 4 (fCall F__law_hue (fCelA 0 fNilA))) ⟨[some (.cel 0), some (.dat (T5 i1 q1 u1 v1 n1)), some (.dat (T2 ((I * i3 - (Q * q3 + U * u3 + V * v3)) / rg (I * i3 - (Q * q3 + U * u3 + V * v3)) (N * n3)) (N * n3 / rg (I * i3 - (Q * q3 + U * u3 + V * v3)) (N * n3)))), some (.dat (T2 ((a * I + b * Q + c * U + d * V) / rg (a * I + b * Q + c * U + d * V) N) (N / rg (a * I + b * Q + c * U + d * V) N))), none, some (.dat (T5 i2 q2 u2 v2 n2)), some (.dat (T5 i3 q3 u3 v3 n3)), some (.dat (T2 p r)), some (.dat (T4 a b c d)), some (.dat (T5 i3 q3 u3 v3 n3)), some (.dat (T5 0 0 0 0 1))], [t5]⟩ = some (.nx ⟨[some (.cel 0), some (.dat (T5 i1 q1 u1 v1 n1)), some (.dat (T2 ((I * i3 - (Q * q3 + U * u3 + V * v3)) / rg (I * i3 - (Q * q3 + U * u3 + V * v3)) (N * n3)) (N * n3 / rg (I * i3 - (Q * q3 + U * u3 + V * v3)) (N * n3)))), some (.dat (T2 ((a * I + b * Q + c * U + d * V) / rg (a * I + b * Q + c * U + d * V) N) (N / rg (a * I + b * Q + c * U + d * V) N))), some (.dat (T4 hq hu hv hn)), some (.dat (T5 i2 q2 u2 v2 n2)), some (.dat (T5 i3 q3 u3 v3 n3)), some (.dat (T2 p r)), some (.dat (T4 a b c d)), some (.dat (T5 i3 q3 u3 v3 n3)), some (.dat (T5 0 0 0 0 1))], [t6]⟩) := by
    simp! [e6]
  have c13 : (fIfS (fTru (fOp gNe (fBi gRepr (fConsA (fCall F_product (fConsA (fCall F_pure_light (fConsA (fVar 4) fNilA)) (fConsA (fCall F_pure_light (fConsA (fVar 4) fNilA)) fNilA))) fNilA)) (fBi gRepr (fConsA (fTup (fConsA (fLit (.int 0)) (fConsA (fLit (.int 1)) fNilA))) fNilA)))) (fRet (fLit (.bool false))) fSkip) ⟨[some (.cel 0), some (.dat (T5 i1 q1 u1 v1 n1)), some (.dat (T2 ((I * i3 - (Q * q3 + U * u3 + V * v3)) / rg (I * i3 - (Q * q3 + U * u3 + V * v3)) (N * n3)) (N * n3 / rg (I * i3 - (Q * q3 + U * u3 + V * v3)) (N * n3)))), some (.dat (T2 ((a * I + b * Q + c * U + d * V) / rg (a * I + b * Q + c * U + d * V) N) (N / rg (a * I + b * Q + c * U + d * V) N))), some (.dat (T4 hq hu hv hn)), some (.dat (T5 i2 q2 u2 v2 n2)), some (.dat (T5 i3 q3 u3 v3 n3)), some (.dat (T2 p r)), some (.dat (T4 a b c d)), some (.dat (T5 i3 q3 u3 v3 n3)), some (.dat (T5 0 0 0 0 1))], [t6]⟩ = some (.nx ⟨[some (.cel 0), some (.dat (T5 i1 q1 u1 v1 n1)), some (.dat (T2 ((I * i3 - (Q * q3 + U * u3 + V * v3)) / rg (I * i3 - (Q * q3 + U * u3 + V * v3)) (N * n3)) (N * n3 / rg (I * i3 - (Q * q3 + U * u3 + V * v3)) (N * n3)))), some (.dat (T2 ((a * I + b * Q + c * U + d * V) / rg (a * I + b * Q + c * U + d * V) N) (N / rg (a * I + b * Q + c * U + d * V) N))), some (.dat (T4 hq hu hv hn)), some (.dat (T5 i2 q2 u2 v2 n2)), some (.dat (T5 i3 q3 u3 v3 n3)), some (.dat (T2 p r)), some (.dat (T4 a b c d)), some (.dat (T5 i3 q3 u3 v3 n3)), some (.dat (T5 0 0 0 0 1))], [t6]⟩) := by
    simp! [k1, k2, re1, re2]
  have c14 : (fRet (fOp gEq (fBi gRepr (fConsA (fCall F_added (fConsA (fVar 1) (fConsA (fTup (fConsA (fLit (.int 0)) (fConsA (fLit (.int 0)) (fConsA (fLit (.int 0)) (fConsA (fLit (.int 0)) (fConsA (fLit (.int 1)) fNilA)))))) fNilA))) fNilA)) (fBi gRepr (fConsA (fVar 1) fNilA)))) ⟨[some (.cel 0), some (.dat (T5 i1 q1 u1 v1 n1)), some (.dat (T2 ((I * i3 - (Q * q3 + U * u3 + V * v3)) / rg (I * i3 - (Q * q3 + U * u3 + V * v3)) (N * n3)) (N * n3 / rg (I * i3 - (Q * q3 + U * u3 + V * v3)) (N * n3)))), some (.dat (T2 ((a * I + b * Q + c * U + d * V) / rg (a * I + b * Q + c * U + d * V) N) (N / rg (a * I + b * Q + c * U + d * V) N))), some (.dat (T4 hq hu hv hn)), some (.dat (T5 i2 q2 u2 v2 n2)), some (.dat (T5 i3 q3 u3 v3 n3)), some (.dat (T2 p r)), some (.dat (T4 a b c d)), some (.dat (T5 i3 q3 u3 v3 n3)), some (.dat (T5 0 0 0 0 1))], [t6]⟩ = some (.rt (.dat (.bool true)) [t6]) := by
    simp! [o1, rf1, rf3]
  exact fn_ok (np := 1) (nN := 11) (n0 := 1) ((seq_nx c0).trans ((seq_nx c1).trans ((seq_nx c2).trans ((seq_nx c3).trans ((seq_nx c4).trans ((seq_nx c5).trans ((seq_nx c6).trans ((seq_nx c7).trans ((seq_nx c8).trans ((seq_nx c9).trans ((seq_nx c10).trans ((seq_nx c11).trans ((seq_nx c12).trans ((seq_nx c13).trans (c14))))))))))))))) ⟨rfl, rfl⟩ rfl
end PL


set_option Elab.async false
set_option linter.all false
set_option maxRecDepth 100000
set_option maxHeartbeats 1000000
set_option exponentiation.threshold 20000
namespace PL
open PySem PySem.Spec L2 DL
local macro_rules | `(tactic| simp! [$as,*]) => `(tactic| simp only [fThaw, fThawT, fThawL, thawD, thawO, noL, noLAll, fAug, gAug, fRev, fFnA, fCallV, fBot, fZip, zipD, gSum, intsOf, List.foldl_cons, List.foldl_nil, mkF, fRet, fRetL, fRetN, fSkip, fSeq, fNever, fSet, fAsg, fNew, fIfS, fDrop, fPar, fPar3, fSetc, fSetc2, fVar, fLit, fOp, fUn, fTup, fTup.datsOf, fLst, fNilA, fConsA, fStarA, fCelA, fOfL, fTru, fAndT, fOrT, fNotT, fAndV, fOrV, fNotV, fIf, fBi, fCall, fCallL, fCallFr, fPerm, callF, celOf, celsOk, norm, aName, aNil, aCons, aTup, setD, fSl, fIt, fItL, fItT, fFor, forGo, fLc, lcGo, fYes, wipeD, fCix, fList, fSlL, fPart, fNoPart, fChain, List.length_cons, List.length_nil, List.getElem?_cons_zero, List.getElem?_cons_succ, List.getElem?_nil, List.set_cons_zero, List.set_cons_succ, List.map_cons, List.map_nil, List.cons_append, List.nil_append, List.append_nil, List.replicate, List.take_zero, List.take_nil, List.take_succ_cons, ↓bsome, ↓msome, Option.bind_some, Option.map_some, Option.bind_none, Option.map_none, Nat.sub_self, Int.cast_ofNat_Int, Nat.reduceAdd, Nat.reduceMul, Nat.reduceSub, Nat.reduceLeDiff, Nat.reduceLT, Nat.zero_add, Nat.add_zero, and_self, and_true, true_and, if_true, if_false, ↓reduceIte, ite_true, Bool.true_eq_false, Bool.false_eq_true, beq_self_eq_true, Bool.and_self, Bool.not_true, Bool.not_false, decide_true, decide_false, gLen, gTyIs, gTyNot, tyOf, gNeg, gPlus, DL.gSub, gCmp, gInt, gAbs, gTuple, gMax, gMin, gGcd, LIM, gIx, $as,*])
/-! from the script to what is drawn -/
abbrev TapB : FS := (fSet 2 (fOp gMod (fBi gInt (fConsA (fOp gPlus (fOp gPlus (fOp gMul (fVar 2) (fLit (.int 30757))) (fOp gMod (fBi gInt (fConsA (fVar 3) fNilA)) (fLit (.int 681574421)))) (fLit (.int 41))) fNilA)) (fLit (.int 1000000409))))
theorem tap_1 {x0 x1 x4 : Option SV} {s x : Int} (h0 : 0 ≤ s) (h1 : s < 2 ^ 50) : ∃ s', TapB ⟨[x0, x1, some (.dat (.int s)), some (.dat (.int x)), x4], []⟩ = some (.nx ⟨[x0, x1, some (.dat (.int s')), some (.dat (.int x)), x4], []⟩) ∧ 0 ≤ s' ∧ s' < 2 ^ 50 := by
  have m1 := gMul_sm h0 (by omega) (by decide : (0 : Int) ≤ 30757) (by decide)
  have d1 : gMod (.int x) (.int 681574421) = some (.int (x % 681574421)) := gMod_ok (by decide)
  have d2 := fun i : Int => gMod_ok (i := i) (by decide : (0 : Int) < 1000000409)
  refine ⟨(s * 30757 + x % 681574421 + 41) % 1000000409, ?_, by omega, by omega⟩
  simp! [m1, d1, d2]
theorem tap_for {x0 x1 x4 : Option SV} : ∀ (ms : List Int) (s : Int) (x3 : Option SV), 0 ≤ s → s < 2 ^ 50 → ∃ s' y3, forGo (aName 3) TapB (ms.map .int) ⟨[x0, x1, some (.dat (.int s)), x3, x4], []⟩ = some (.nx ⟨[x0, x1, some (.dat (.int s')), y3, x4], []⟩) ∧ 0 ≤ s' ∧ s' < 2 ^ 50
  | [], s, x3, h0, h1 => ⟨s, x3, rfl, h0, h1⟩
  | x :: ms, s, x3, h0, h1 => by
    obtain ⟨s1, e, g0, g1⟩ := tap_1 (x0 := x0) (x1 := x1) (x4 := x4) (x := x) h0 h1
    obtain ⟨s2, y3, ih, k0, k1⟩ := tap_for (x0 := x0) (x1 := x1) (x4 := x4) ms s1 (some (.dat (.int x))) g0 g1
    refine ⟨s2, y3, ?_, k0, k1⟩
    generalize TapB = b at e ih ⊢
    simp only [List.map_cons, forGo, aName, setD, List.set_cons_succ, List.set_cons_zero, Option.bind_some, e]
    exact ih
theorem cut_ints (ns : List Int) (lo hi : Option Int) : ∃ ms : List Int, cutD (ns.map PyData.int) lo hi = ms.map PyData.int := by
  unfold cutD
  rw [← List.map_drop, ← List.map_take]
  exact ⟨_, rfl⟩
theorem pow18 : gPow (.int 10) (.int 18) = some (.int 1000000000000000000) := rfl
theorem e_tap {ns : List Int} {k : Int} (h0 : 0 ≤ k) (h1 : k < 1000) : ∃ t, F__law_tap [.dat (.list (ns.map .int)), .dat (.int k)] [] = some (.new t, []) ∧ Tap 100000 t := by
  have m1 := gMul_sm (by decide : (0 : Int) ≤ 6121) (by decide) h0 (by omega)
  obtain ⟨ms, em⟩ := cut_ints ns none (some 63)
  obtain ⟨s, y3, ef, s0, s1⟩ := tap_for (x0 := some (.dat (.list (ns.map .int)))) (x1 := some (.dat (.int k))) (x4 := none) ms (20011 + 6121 * k) none (by omega) (by omega)
  have a1 : (fSet 2 (fOp gPlus (fLit (.int 20011)) (fOp gMul (fLit (.int 6121)) (fVar 1)))) ⟨[some (.dat (.list (ns.map .int))), some (.dat (.int k)), none, none, none], []⟩ = some (.nx ⟨[some (.dat (.list (ns.map .int))), some (.dat (.int k)), some (.dat (.int (20011 + 6121 * k))), none, none], []⟩) := by
    simp! [m1]
  have a2 : (fFor (fIt (fSl (fVar 0) fNoPart (fPart (fLit (.int 63))))) (aName 3) TapB) ⟨[some (.dat (.list (ns.map .int))), some (.dat (.int k)), some (.dat (.int (20011 + 6121 * k))), none, none], []⟩ = some (.nx ⟨[some (.dat (.list (ns.map .int))), some (.dat (.int k)), some (.dat (.int s)), y3, none], []⟩) := by
    have ei : (fIt (fSl (fVar 0) fNoPart (fPart (fLit (.int 63))))) ⟨[some (.dat (.list (ns.map .int))), some (.dat (.int k)), some (.dat (.int (20011 + 6121 * k))), none, none], []⟩ = some (ms.map .int, []) := by
      simp! [em]
    unfold fFor
    rw [ei]
    exact ef
  have own : ∃ x : Int, (fSet 4 (fIf (fTru (fOp (gCmp fun i j => decide (i < j)) (fVar 1) (fBi gLen (fConsA (fVar 0) fNilA)))) (fBi gInt (fConsA (fOp gIx (fVar 0) (fVar 1)) fNilA)) (fLit (.int 0)))) ⟨[some (.dat (.list (ns.map .int))), some (.dat (.int k)), some (.dat (.int s)), y3, none], []⟩ = some (.nx ⟨[some (.dat (.list (ns.map .int))), some (.dat (.int k)), some (.dat (.int s)), y3, some (.dat (.int x))], []⟩) := by
    by_cases hk : k < ((ns.map PyData.int).length : Nat)
    · obtain ⟨x, hx, ex⟩ := atI_in h0 hk
      obtain ⟨n, hn, rfl⟩ := List.mem_map.mp hx
      refine ⟨n, ?_⟩
      simp! [hk, gIx, ex]
    · refine ⟨0, ?_⟩
      simp! [hk]
  obtain ⟨x, a3⟩ := own
  have ea : (if x < 0 then -x else x) = ((x.natAbs : Nat) : Int) := by split <;> omega
  have m2 : gMul (.int 5) (.int (x % 93199987)) = some (.int (5 * (x % 93199987))) := gMul_sm (by decide) (by decide) (by omega) (by omega)
  have d1 : gMod (.int x) (.int 93199987) = some (.int (x % 93199987)) := gMod_ok (by decide)
  have d2 := fun i : Int => gMod_ok (i := i) (by decide : (0 : Int) < 1000000409)
  have e0 : b__law_tap = fSeq (fSet 2 (fOp gPlus (fLit (.int 20011)) (fOp gMul (fLit (.int 6121)) (fVar 1)))) (fSeq (fFor (fIt (fSl (fVar 0) fNoPart (fPart (fLit (.int 63))))) (aName 3) TapB) (fSeq (fSet 4 (fIf (fTru (fOp (gCmp fun i j => decide (i < j)) (fVar 1) (fBi gLen (fConsA (fVar 0) fNilA)))) (fBi gInt (fConsA (fOp gIx (fVar 0) (fVar 1)) fNilA)) (fLit (.int 0)))) (fRetL (fLst (fConsA (fIf (fTru (fOp (gCmp fun i j => decide (j ≤ i)) (fBi gAbs (fConsA (fVar 4) fNilA)) (fOp gPow (fLit (.int 10)) (fLit (.int 18))))) (fBi gAbs (fConsA (fVar 4) fNilA)) (fLit (.int 0))) (fConsA (fOp gMod (fBi gInt (fConsA (fOp gPlus (fVar 2) (fOp gMul (fLit (.int 5)) (fOp gMod (fBi gInt (fConsA (fVar 4) fNilA)) (fLit (.int 93199987))))) fNilA)) (fLit (.int 1000000409))) (fConsA (fLit (.int 0)) fNilA))))))) := rfl
  by_cases hb : (1000000000000000000 : Int) ≤ ((x.natAbs : Nat) : Int)
  · refine ⟨L3 ((x.natAbs : Nat) : Int) ((s + 5 * (x % 93199987)) % 1000000409) 0, ?_, _, _, _, rfl, by omega, by omega, by omega, by decide, by decide⟩
    refine fn_ok (np := 2) (nN := 5) (n0 := 0) (c := []) ?_ ⟨rfl, rfl⟩ rfl
    rw [e0]
    refine (seq_nx a1).trans ((seq_nx a2).trans ((seq_nx a3).trans ?_))
    simp! [ea, pow18, hb, m2, d1, d2]
  · refine ⟨L3 0 ((s + 5 * (x % 93199987)) % 1000000409) 0, ?_, _, _, _, rfl, by decide, by omega, by omega, by decide, by decide⟩
    refine fn_ok (np := 2) (nN := 5) (n0 := 0) (c := []) ?_ ⟨rfl, rfl⟩ rfl
    rw [e0]
    refine (seq_nx a1).trans ((seq_nx a2).trans ((seq_nx a3).trans ?_))
    simp! [ea, pow18, hb, m2, d1, d2]
/-! the law, over what checks one turn -/
abbrev lawR (m : Int) : FL := (fRng1 (fConsA (fCall F__law_turns (fConsA (fVar 0) (fConsA (fLit (.int m)) fNilA))) fNilA))
abbrev lawE (FR : FnS) : FE := (fCallFr FR (fCallL F__law_tap (fConsA (fVar 0) (fConsA (fVar 1) fNilA))))
def lawB (FR : FnS) (m : Int) : FS := (fRet (fBi gAll (fConsA (fOfL (fLc (lawR m) (aName 1) fYes (lawE FR) [1])) fNilA)))
theorem lawE_ok {FR : FnS} {ns : List Int} (hR : ∀ t, Tap 100000 t → ∃ c, FR [.cel 0] [t] = some (.dat (.bool true), c)) {k : Int} (h0 : 0 ≤ k) (h1 : k < 1000) : lawE FR ⟨[some (.dat (.list (ns.map PyData.int))), some (.dat (.int k))], []⟩ = some (.bool true, []) := by
  obtain ⟨t, e, ht⟩ := e_tap (ns := ns) h0 h1
  obtain ⟨c, e2⟩ := hR t ht
  simp! [e, e2]
theorem law_go {FR : FnS} {ns : List Int} (hR : ∀ t, Tap 100000 t → ∃ c, FR [.cel 0] [t] = some (.dat (.bool true), c)) : ∀ ks : List Nat, (∀ k ∈ ks, k < 1000) → lcGo (aName 1) fYes (lawE FR) [some (.dat (.list (ns.map PyData.int))), none] (ks.map fun i => PyData.int (0 + (i : Nat))) [] = some (ks.map fun _ => PyData.bool true, [])
  | [], _ => rfl
  | k :: ks, h => by
    have ih := law_go (ns := ns) hR ks fun j hj => h j (List.mem_cons_of_mem _ hj)
    have hk := h k (List.mem_cons_self ..)
    have e := lawE_ok (ns := ns) hR (k := 0 + (k : Nat)) (by omega) (by omega)
    generalize lawE FR = eb at e ih ⊢
    simp only [lcGo, List.map_cons, aName, fYes, setD, List.set_cons_zero, List.set_cons_succ, Option.bind_some, if_true, e, ih, Option.map_some]
theorem bools_true {α : Type} : ∀ ks : List α, boolsOf (ks.map fun _ => PyData.bool true) = some (ks.map fun _ => true)
  | [] => rfl
  | k :: ks => by
    show (boolsOf (ks.map fun _ => PyData.bool true)).map (true :: ·) = _
    rw [bools_true ks]; rfl
theorem e_turns (ns : List Int) {m : Int} (h0 : 0 ≤ m) (h1 : m ≤ 100) : ∃ n : Nat, n ≤ 100 ∧ F__law_turns [.dat (.list (ns.map .int)), .dat (.int m)] [] = some (.dat (.int (n : Nat)), []) := by
  have h : ∃ n : Nat, n ≤ 100 ∧ (if (if m < (((ns.map PyData.int).length : Nat) : Int) then m else (((ns.map PyData.int).length : Nat) : Int)) > 2 then (if m < (((ns.map PyData.int).length : Nat) : Int) then m else (((ns.map PyData.int).length : Nat) : Int)) else 2) = (n : Nat) := by
    refine ⟨(if (if m < (((ns.map PyData.int).length : Nat) : Int) then m else (((ns.map PyData.int).length : Nat) : Int)) > 2 then (if m < (((ns.map PyData.int).length : Nat) : Int) then m else (((ns.map PyData.int).length : Nat) : Int)) else 2).toNat, ?_, ?_⟩ <;> (split <;> split <;> omega)
  obtain ⟨n, h4, e⟩ := h
  refine ⟨n, h4, ?_⟩
  simp! [F__law_turns, b__law_turns, e]
theorem law_ok {FR : FnS} {m : Int} (h0 : 0 ≤ m) (h1 : m ≤ 100) (hR : ∀ t, Tap 100000 t → ∃ c, FR [.cel 0] [t] = some (.dat (.bool true), c)) (ns : List Int) : ∃ c, mkF 1 2 0 (lawB FR m) [.dat (.list (ns.map PyData.int))] [] = some (.dat (.bool true), c) := by
  obtain ⟨n, hn, et⟩ := e_turns ns h0 h1
  have e : lawR m ⟨[some (.dat (.list (ns.map PyData.int))), none], []⟩ = some (rangeD 0 n, []) := rg_of (J := n) (by simp! [et]) (by omega)
  have hb := law_go (ns := ns) hR (List.range n) fun k hk => by have := List.mem_range.mp hk; omega
  have hlen : (rangeD 0 n).length ≤ 100000 := by rw [rangeD_len]; omega
  have hb' : lcGo (aName 1) fYes (lawE FR) [some (.dat (.list (ns.map PyData.int))), none] (rangeD 0 n) [] = some ((List.range n).map fun _ => PyData.bool true, []) := hb
  have hall : gAll [.list ((List.range n).map fun _ => PyData.bool true)] = some (.bool true) := by
    show (boolsOf _).map (fun bs => PyData.bool (bs.all id)) = _
    rw [bools_true]
    simp
  refine ⟨[], ?_⟩
  unfold lawB
  generalize lawR m = rg at e
  generalize lawE FR = eb at hb'
  simp! [e, hlen, hb', hall]
end PL


set_option Elab.async false
set_option linter.all false
set_option maxRecDepth 100000
set_option maxHeartbeats 400000
namespace PL
open PySem PySem.Spec L2 DL
open PyProof.Rows hiding St
def b_is_gaussian : FS := (fRet (fCall F_is_row (fConsA (fVar 0) (fConsA (fLit (.int 2)) fNilA))))
def F_is_gaussian : FnS := mkF 1 1 0 b_is_gaussian
def b_is_gaussian_row : FS := (fRet (fAndV (fUn (gTyIs "tuple") (fVar 0)) (fAndV (fOp gEq (fBi gLen (fConsA (fVar 0) fNilA)) (fVar 1)) (fBi gAll (fConsA (fOfL (fLc (fIt (fVar 0)) (aName 2) fYes (fCall F_is_gaussian (fConsA (fVar 2) fNilA)) [2])) fNilA)))))
def F_is_gaussian_row : FnS := mkF 2 3 0 b_is_gaussian_row
def b_conjugated : FS := (fRet (fTup (fConsA (fOp gIx (fVar 0) (fLit (.int 0))) (fConsA (fUn gNeg (fOp gIx (fVar 0) (fLit (.int 1)))) fNilA))))
def F_conjugated : FnS := mkF 1 1 0 b_conjugated
def b_multiplied : FS := (fRet (fTup (fConsA (fOp gSub (fOp gMul (fOp gIx (fVar 0) (fLit (.int 0))) (fOp gIx (fVar 1) (fLit (.int 0)))) (fOp gMul (fOp gIx (fVar 0) (fLit (.int 1))) (fOp gIx (fVar 1) (fLit (.int 1))))) (fConsA (fOp gPlus (fOp gMul (fOp gIx (fVar 0) (fLit (.int 0))) (fOp gIx (fVar 1) (fLit (.int 1)))) (fOp gMul (fOp gIx (fVar 0) (fLit (.int 1))) (fOp gIx (fVar 1) (fLit (.int 0))))) fNilA))))
def F_multiplied : FnS := mkF 2 2 0 b_multiplied
def b_gaussian_sum : FS := (fRet (fTup (fConsA (fBi gSum (fConsA (fOfL (fLc (fIt (fVar 0)) (aName 1) fYes (fOp gIx (fVar 1) (fLit (.int 0))) [1])) fNilA)) (fConsA (fBi gSum (fConsA (fOfL (fLc (fIt (fVar 0)) (aName 1) fYes (fOp gIx (fVar 1) (fLit (.int 1))) [1])) fNilA)) fNilA))))
def F_gaussian_sum : FnS := mkF 1 2 0 b_gaussian_sum
def b_gaussian_dot : FS := (fRet (fCall F_gaussian_sum (fConsA (fOfL (fLc (fZip (fConsA (fVar 0) (fConsA (fVar 1) fNilA))) (aTup 2 (aCons (aName 2) (aCons (aName 3) aNil))) fYes (fCall F_multiplied (fConsA (fVar 2) (fConsA (fVar 3) fNilA))) [2, 3])) fNilA)))
def F_gaussian_dot : FnS := mkF 2 4 0 b_gaussian_dot
def c_NOUGHT : PyData := (.tuple [(.int 0), (.int 0)])
def b_is_amplitude : FS := (fRet (fAndV (fCall F_is_gaussian_row (fConsA (fVar 0) (fConsA (fLit (.int 2)) fNilA))) (fOp gNe (fVar 0) (fTup (fConsA (fLit c_NOUGHT) (fConsA (fLit c_NOUGHT) fNilA))))))
def F_is_amplitude : FnS := mkF 1 1 0 b_is_amplitude
def b_is_matrix : FS := (fRet (fAndV (fUn (gTyIs "tuple") (fVar 0)) (fAndV (fOp gEq (fBi gLen (fConsA (fVar 0) fNilA)) (fLit (.int 2))) (fBi gAll (fConsA (fOfL (fLc (fIt (fVar 0)) (aName 1) fYes (fCall F_is_gaussian_row (fConsA (fVar 1) (fConsA (fLit (.int 2)) fNilA))) [1])) fNilA)))))
def F_is_matrix : FnS := mkF 1 2 0 b_is_matrix
def b_check_amplitude : FS := (fIfS (fNotT (fTru (fCall F_is_amplitude (fConsA (fVar 0) fNilA)))) fNever fSkip)
def F_check_amplitude : FnS := mkF 1 1 0 b_check_amplitude
def b_check_matrix : FS := (fIfS (fNotT (fTru (fCall F_is_matrix (fConsA (fVar 0) fNilA)))) fNever fSkip)
def F_check_matrix : FnS := mkF 1 1 0 b_check_matrix
def b_light_of_amplitude : FS := (fSeq (fDrop (fCall F_check_amplitude (fConsA (fVar 0) fNilA)))
  (fSeq (fAsg (aTup 2 (aCons (aName 2) (aCons (aName 3) aNil))) (fVar 0))
  (fSeq (fPar 4 5 (fConsA (fCall F_dot (fConsA (fVar 2) (fConsA (fVar 2) fNilA))) (fConsA (fCall F_dot (fConsA (fVar 3) (fConsA (fVar 3) fNilA))) fNilA)))
  (fSeq (fSet 1 (fCall F_multiplied (fConsA (fCall F_conjugated (fConsA (fVar 2) fNilA)) (fConsA (fVar 3) fNilA))))
  (fRet (fTup (fConsA (fOp gPlus (fVar 4) (fVar 5)) (fConsA (fOp gSub (fVar 4) (fVar 5)) (fConsA (fOp gMul (fLit (.int 2)) (fOp gIx (fVar 1) (fLit (.int 0)))) (fConsA (fOp gMul (fLit (.int 2)) (fOp gIx (fVar 1) (fLit (.int 1)))) (fConsA (fLit (.int 1)) fNilA)))))))))))
def F_light_of_amplitude : FnS := mkF 1 6 0 b_light_of_amplitude
def c__UPRIGHT : PyData := (.tuple [(.tuple [(.int 0), (.int 0)]), (.tuple [(.int 1), (.int 0)])])
def b_amplitude_of : FS := (fSeq (fIfS (fTru (fOp gIsN (fCall F_kind_of (fConsA (fVar 0) fNilA)) (fLit .none))) (fRet (fLit .none)) fSkip)
  (fSeq (fPar 3 4 (fConsA (fOp gPlus (fOp gIx (fVar 0) (fLit (.int 0))) (fOp gIx (fVar 0) (fLit (.int 1)))) (fConsA (fOp gIx (fVar 0) (fLit (.int 4))) fNilA)))
  (fSeq (fIfS (fTru (fOp gEq (fVar 3) (fLit (.int 0)))) (fRet (fTup (fConsA (fLit c__UPRIGHT) (fConsA (fCall F_ratio (fConsA (fOp gIx (fVar 0) (fLit (.int 0))) (fConsA (fVar 4) fNilA))) fNilA)))) fSkip)
  (fSeq (fSet 1 (fCall F_divisor_of (fConsA (fTup (fConsA (fVar 3) (fConsA (fOp gIx (fVar 0) (fLit (.int 2))) (fConsA (fOp gIx (fVar 0) (fLit (.int 3))) fNilA)))) fNilA)))
  (fSeq (fSet 2 (fTup (fConsA (fTup (fConsA (fOp gDiv (fVar 3) (fVar 1)) (fConsA (fLit (.int 0)) fNilA))) (fConsA (fTup (fConsA (fOp gDiv (fOp gIx (fVar 0) (fLit (.int 2))) (fVar 1)) (fConsA (fOp gDiv (fOp gIx (fVar 0) (fLit (.int 3))) (fVar 1)) fNilA))) fNilA))))
  (fRet (fTup (fConsA (fVar 2) (fConsA (fCall F_ratio (fConsA (fOp gMul (fVar 1) (fVar 1)) (fConsA (fOp gMul (fOp gMul (fLit (.int 2)) (fVar 4)) (fVar 3)) fNilA))) fNilA)))))))))
def F_amplitude_of : FnS := mkF 1 5 0 b_amplitude_of
def b_led_amplitude : FS := (fSeq (fDrop (fCall F_check_matrix (fConsA (fVar 0) fNilA)))
  (fSeq (fDrop (fCall F_check_amplitude (fConsA (fVar 1) fNilA)))
  (fSeq (fSet 2 (fBi gTuple (fConsA (fOfL (fLc (fIt (fVar 0)) (aName 3) fYes (fCall F_gaussian_dot (fConsA (fVar 3) (fConsA (fVar 1) fNilA))) [3])) fNilA)))
  (fRet (fIf (fTru (fOp gEq (fVar 2) (fTup (fConsA (fLit c_NOUGHT) (fConsA (fLit c_NOUGHT) fNilA))))) (fLit .none) (fVar 2))))))
def F_led_amplitude : FnS := mkF 2 4 0 b_led_amplitude
def b__law_is_hue : FS := (fRet (fAndV (fCall F__law_is_row (fConsA (fVar 0) (fConsA (fLit (.int 4)) fNilA))) (fAndV (fOp (gCmp fun i j => decide (j < i)) (fOp gIx (fVar 0) (fLit (.int 3))) (fLit (.int 0))) (fOp gEq (fCall F__law_cone (fConsA (fOp gPlus (fTup (fConsA (fOp gIx (fVar 0) (fLit (.int 3))) fNilA)) (fSl (fVar 0) fNoPart (fPart (fLit (.int 3))))) fNilA)) (fLit (.int 0))))))
def F__law_is_hue : FnS := mkF 1 1 0 b__law_is_hue
def b__law_minus : FS := (fRet (fBi gTuple (fConsA (fOfL (fLc (fIt (fVar 0)) (aName 1) fYes (fOp gSub (fLit (.int 0)) (fVar 1)) [1])) fNilA)))
def F__law_minus : FnS := mkF 1 2 0 b__law_minus
def b__law_times : FS := (fRet (fTup (fConsA (fOp gSub (fOp gMul (fOp gIx (fVar 0) (fLit (.int 0))) (fOp gIx (fVar 1) (fLit (.int 0)))) (fOp gMul (fOp gIx (fVar 0) (fLit (.int 1))) (fOp gIx (fVar 1) (fLit (.int 1))))) (fConsA (fOp gPlus (fOp gMul (fOp gIx (fVar 0) (fLit (.int 0))) (fOp gIx (fVar 1) (fLit (.int 1)))) (fOp gMul (fOp gIx (fVar 0) (fLit (.int 1))) (fOp gIx (fVar 1) (fLit (.int 0))))) fNilA))))
def F__law_times : FnS := mkF 2 2 0 b__law_times
def b__law_join : FS := (fRet (fTup (fConsA (fOp gPlus (fOp gIx (fVar 0) (fLit (.int 0))) (fOp gIx (fVar 1) (fLit (.int 0)))) (fConsA (fOp gPlus (fOp gIx (fVar 0) (fLit (.int 1))) (fOp gIx (fVar 1) (fLit (.int 1)))) fNilA))))
def F__law_join : FnS := mkF 2 2 0 b__law_join
def b__law_spin : FS := (fSeq (fPar 1 2 (fConsA (fCall F__law_low (fCelA 0 fNilA)) (fConsA (fCall F__law_low (fCelA 0 fNilA)) fNilA)))
  (fRet (fCall F__law_pick (fCelA 0 (fConsA (fOfL (fLst (fConsA (fTup (fConsA (fLit (.int 0)) (fConsA (fLit (.int 0)) fNilA))) (fConsA (fTup (fConsA (fLit (.int 1)) (fConsA (fLit (.int 0)) fNilA))) (fConsA (fTup (fConsA (fLit (.int 0)) (fConsA (fLit (.int 1)) fNilA))) (fConsA (fTup (fConsA (fUn gNeg (fLit (.int 1))) (fConsA (fLit (.int 0)) fNilA))) (fConsA (fTup (fConsA (fVar 1) (fConsA (fLit (.int 0)) fNilA))) (fConsA (fTup (fConsA (fVar 1) (fConsA (fVar 2) fNilA))) fNilA)))))))) fNilA)))))
def F__law_spin : FnS := mkF 1 3 1 b__law_spin
def b__law_knot : FS := (fSeq (fSet 1 (fTup (fConsA (fTup (fConsA (fCall F__law_spin (fCelA 0 fNilA)) (fConsA (fCall F__law_spin (fCelA 0 fNilA)) fNilA))) (fConsA (fTup (fConsA (fCall F__law_spin (fCelA 0 fNilA)) (fConsA (fCall F__law_spin (fCelA 0 fNilA)) fNilA))) fNilA))))
  (fRet (fIf (fTru (fOp gNe (fVar 1) (fTup (fConsA (fTup (fConsA (fTup (fConsA (fLit (.int 0)) (fConsA (fLit (.int 0)) fNilA))) (fConsA (fTup (fConsA (fLit (.int 0)) (fConsA (fLit (.int 0)) fNilA))) fNilA))) (fConsA (fTup (fConsA (fTup (fConsA (fLit (.int 0)) (fConsA (fLit (.int 0)) fNilA))) (fConsA (fTup (fConsA (fLit (.int 0)) (fConsA (fLit (.int 0)) fNilA))) fNilA))) fNilA))))) (fVar 1) (fTup (fConsA (fTup (fConsA (fTup (fConsA (fLit (.int 1)) (fConsA (fLit (.int 0)) fNilA))) (fConsA (fTup (fConsA (fLit (.int 0)) (fConsA (fLit (.int 0)) fNilA))) fNilA))) (fConsA (fTup (fConsA (fTup (fConsA (fLit (.int 0)) (fConsA (fLit (.int 1)) fNilA))) (fConsA (fTup (fConsA (fLit (.int 2)) (fConsA (fLit (.int 0)) fNilA))) fNilA))) fNilA))))))
def F__law_knot : FnS := mkF 1 2 1 b__law_knot
def b__law_arrow_led : FS := (fRet (fBi gTuple (fConsA (fOfL (fLc (fIt (fVar 0)) (aName 2) fYes (fCall F__law_join (fConsA (fCall F__law_times (fConsA (fOp gIx (fVar 2) (fLit (.int 0))) (fConsA (fOp gIx (fVar 1) (fLit (.int 0))) fNilA))) (fConsA (fCall F__law_times (fConsA (fOp gIx (fVar 2) (fLit (.int 1))) (fConsA (fOp gIx (fVar 1) (fLit (.int 1))) fNilA))) fNilA))) [2])) fNilA)))
def F__law_arrow_led : FnS := mkF 2 3 0 b__law_arrow_led
def b__law_arrow_shine : FS := (fSeq (fAsg (aTup 2 (aCons (aTup 2 (aCons (aName 4) (aCons (aName 5) aNil))) (aCons (aTup 2 (aCons (aName 6) (aCons (aName 7) aNil))) aNil))) (fVar 0))
  (fSeq (fPar3 1 2 3 (fConsA (fOp gPlus (fOp gMul (fVar 4) (fVar 4)) (fOp gMul (fVar 5) (fVar 5))) (fConsA (fOp gPlus (fOp gMul (fVar 6) (fVar 6)) (fOp gMul (fVar 7) (fVar 7))) (fConsA (fCall F__law_times (fConsA (fTup (fConsA (fVar 4) (fConsA (fOp gSub (fLit (.int 0)) (fVar 5)) fNilA))) (fConsA (fTup (fConsA (fVar 6) (fConsA (fVar 7) fNilA))) fNilA))) fNilA))))
  (fRet (fTup (fConsA (fOp gPlus (fVar 1) (fVar 2)) (fConsA (fOp gSub (fVar 1) (fVar 2)) (fConsA (fOp gMul (fLit (.int 2)) (fOp gIx (fVar 3) (fLit (.int 0)))) (fConsA (fOp gMul (fLit (.int 2)) (fOp gIx (fVar 3) (fLit (.int 1)))) fNilA))))))))
def F__law_arrow_shine : FnS := mkF 1 8 0 b__law_arrow_shine
def b__law_arrow : FS := (fSeq (fSet 1 (fTup (fConsA (fCall F__law_spin (fCelA 0 fNilA)) (fConsA (fCall F__law_spin (fCelA 0 fNilA)) fNilA))))
  (fRet (fIf (fTru (fOp gNe (fVar 1) (fTup (fConsA (fTup (fConsA (fLit (.int 0)) (fConsA (fLit (.int 0)) fNilA))) (fConsA (fTup (fConsA (fLit (.int 0)) (fConsA (fLit (.int 0)) fNilA))) fNilA))))) (fVar 1) (fTup (fConsA (fTup (fConsA (fLit (.int 1)) (fConsA (fLit (.int 0)) fNilA))) (fConsA (fTup (fConsA (fLit (.int 0)) (fConsA (fLit (.int 0)) fNilA))) fNilA))))))
def F__law_arrow : FnS := mkF 1 2 1 b__law_arrow
def b__law_back_due : FS := (fSeq (fAsg (aTup 5 (aCons (aName 3) (aCons (aName 4) (aCons (aName 5) (aCons (aName 6) (aCons (aName 7) aNil)))))) (fVar 0))
  (fSeq (fSet 1 (fOp gPlus (fVar 3) (fVar 4)))
  (fSeq (fIfS (fTru (fOp gEq (fVar 1) (fLit (.int 0)))) (fRet (fTup (fConsA (fTup (fConsA (fTup (fConsA (fLit (.int 0)) (fConsA (fLit (.int 0)) fNilA))) (fConsA (fTup (fConsA (fLit (.int 1)) (fConsA (fLit (.int 0)) fNilA))) fNilA))) (fConsA (fCall F__law_ratio (fConsA (fVar 3) (fConsA (fVar 7) fNilA))) fNilA)))) fSkip)
  (fSeq (fSet 2 (fCall F__law_common (fConsA (fTup (fConsA (fVar 1) (fConsA (fVar 5) (fConsA (fVar 6) fNilA)))) fNilA)))
  (fRet (fTup (fConsA (fTup (fConsA (fTup (fConsA (fOp gDiv (fVar 1) (fVar 2)) (fConsA (fLit (.int 0)) fNilA))) (fConsA (fTup (fConsA (fOp gDiv (fVar 5) (fVar 2)) (fConsA (fOp gDiv (fVar 6) (fVar 2)) fNilA))) fNilA))) (fConsA (fCall F__law_ratio (fConsA (fOp gMul (fVar 2) (fVar 2)) (fConsA (fOp gMul (fOp gMul (fLit (.int 2)) (fVar 7)) (fVar 1)) fNilA))) fNilA))))))))
def F__law_back_due : FnS := mkF 1 8 0 b__law_back_due
def b__law_back_right : FS := (fSeq (fSet 1 (fIf (fAndT (fTru (fOp (gCmp fun i j => decide (j < i)) (fOp gIx (fVar 0) (fLit (.int 0))) (fLit (.int 0)))) (fTru (fOp gEq (fCall F__law_cone (fConsA (fVar 0) fNilA)) (fLit (.int 0))))) (fCall F__law_back_due (fConsA (fVar 0) fNilA)) (fLit .none)))
  (fSeq (fIfS (fTru (fOp gNe (fBi gRepr (fConsA (fOfL (fLst (fConsA (fCall F_amplitude_of (fConsA (fVar 0) fNilA)) (fConsA (fCall F_amplitude_of (fConsA (fVar 0) fNilA)) fNilA)))) fNilA)) (fBi gRepr (fConsA (fOfL (fLst (fConsA (fVar 1) (fConsA (fVar 1) fNilA)))) fNilA)))) (fRet (fLit (.bool false))) fSkip)
  (fSeq (fIfS (fTru (fOp gIsN (fVar 1) (fLit .none))) (fRet (fLit (.bool true))) fSkip)
  (fRet (fOp gEq (fBi gRepr (fConsA (fCall F_times (fConsA (fCall F_light_of_amplitude (fConsA (fOp gIx (fVar 1) (fLit (.int 0))) fNilA)) (fConsA (fOp gIx (fVar 1) (fLit (.int 1))) fNilA))) fNilA)) (fBi gRepr (fConsA (fVar 0) fNilA)))))))
def F__law_back_right : FnS := mkF 1 2 0 b__law_back_right
def b__law_light_right : FS := (fSeq (fSet 2 (fCall F__law_least (fConsA (fOp gPlus (fCall F__law_arrow_shine (fConsA (fVar 0) fNilA)) (fTup (fConsA (fLit (.int 1)) fNilA))) fNilA)))
  (fSeq (fIfS (fOrT (fNotT (fTru (fCall F__law_is_shine (fConsA (fVar 2) fNilA)))) (fTru (fOp gNe (fCall F__law_cone (fConsA (fVar 2) fNilA)) (fLit (.int 0))))) (fRet (fLit (.bool false))) fSkip)
  (fSeq (fIfS (fTru (fOp gNe (fBi gRepr (fConsA (fOfL (fLst (fConsA (fCall F_light_of_amplitude (fConsA (fVar 0) fNilA)) (fConsA (fCall F_light_of_amplitude (fConsA (fVar 0) fNilA)) fNilA)))) fNilA)) (fBi gRepr (fConsA (fOfL (fLst (fConsA (fVar 2) (fConsA (fVar 2) fNilA)))) fNilA)))) (fRet (fLit (.bool false))) fSkip)
  (fSeq (fSet 3 (fOp gPlus (fOp gMul (fOp gIx (fVar 1) (fLit (.int 0))) (fOp gIx (fVar 1) (fLit (.int 0)))) (fOp gMul (fOp gIx (fVar 1) (fLit (.int 1))) (fOp gIx (fVar 1) (fLit (.int 1))))))
  (fSeq (fIfS (fTru (fOp gEq (fVar 3) (fLit (.int 0)))) (fRet (fLit (.bool true))) fSkip)
  (fSeq (fSet 4 (fTup (fConsA (fCall F__law_times (fConsA (fVar 1) (fConsA (fOp gIx (fVar 0) (fLit (.int 0))) fNilA))) (fConsA (fCall F__law_times (fConsA (fVar 1) (fConsA (fOp gIx (fVar 0) (fLit (.int 1))) fNilA))) fNilA))))
  (fRet (fOp gEq (fBi gRepr (fConsA (fCall F_light_of_amplitude (fConsA (fVar 4) fNilA)) fNilA)) (fBi gRepr (fConsA (fCall F_times (fConsA (fVar 2) (fConsA (fTup (fConsA (fVar 3) (fConsA (fLit (.int 1)) fNilA))) fNilA))) fNilA))))))))))
def F__law_light_right : FnS := mkF 2 5 0 b__law_light_right
def b__law_kinds_right : FS := (fSeq (fSet 2 (fOp gEq (fCall F__law_times (fConsA (fOp gIx (fVar 0) (fLit (.int 0))) (fConsA (fOp gIx (fVar 1) (fLit (.int 1))) fNilA))) (fCall F__law_times (fConsA (fOp gIx (fVar 0) (fLit (.int 1))) (fConsA (fOp gIx (fVar 1) (fLit (.int 0))) fNilA)))))
  (fSeq (fSet 3 (fOfL (fLst (fConsA (fCall F_kind_of (fConsA (fCall F_light_of_amplitude (fConsA (fVar 0) fNilA)) fNilA)) (fConsA (fCall F_kind_of (fConsA (fCall F_light_of_amplitude (fConsA (fVar 1) fNilA)) fNilA)) fNilA)))))
  (fRet (fAndV (fCall F__law_is_hue (fConsA (fOp gIx (fVar 3) (fLit (.int 0))) fNilA)) (fOp gEq (fOp gEq (fOp gIx (fVar 3) (fLit (.int 0))) (fOp gIx (fVar 3) (fLit (.int 1)))) (fVar 2))))))
def F__law_kinds_right : FnS := mkF 2 4 0 b__law_kinds_right
def b__law_led_right : FS := (fSeq (fSet 2 (fCall F__law_arrow_led (fConsA (fVar 0) (fConsA (fVar 1) fNilA))))
  (fSeq (fSet 2 (fIf (fTru (fOp gNe (fVar 2) (fTup (fConsA (fTup (fConsA (fLit (.int 0)) (fConsA (fLit (.int 0)) fNilA))) (fConsA (fTup (fConsA (fLit (.int 0)) (fConsA (fLit (.int 0)) fNilA))) fNilA))))) (fVar 2) (fLit .none)))
  (fRet (fOp gEq (fBi gRepr (fConsA (fOfL (fLst (fConsA (fCall F_led_amplitude (fConsA (fVar 0) (fConsA (fVar 1) fNilA))) (fConsA (fCall F_led_amplitude (fConsA (fVar 0) (fConsA (fVar 1) fNilA))) fNilA)))) fNilA)) (fBi gRepr (fConsA (fOfL (fLst (fConsA (fVar 2) (fConsA (fVar 2) fNilA)))) fNilA))))))
def F__law_led_right : FnS := mkF 2 3 0 b__law_led_right
def b__law_right_K17 : FS := (fSeq (fAsg (aTup 4 (aCons (aName 5) (aCons (aName 6) (aCons (aName 7) (aCons (aName 8) aNil))))) (fTup (fConsA (fCall F__law_arrow (fCelA 0 fNilA)) (fConsA (fCall F__law_arrow (fCelA 0 fNilA)) (fConsA (fCall F__law_spin (fCelA 0 fNilA)) (fConsA (fCall F__law_knot (fCelA 0 fNilA)) fNilA))))))
  (fSeq (fPar 9 10 (fConsA (fCall F__law_shine (fCelA 0 fNilA)) (fConsA (fCall F__law_hue (fCelA 0 fNilA)) fNilA)))
  (fSeq (fSet 1 (fCall F__law_least (fConsA (fTup (fConsA (fOp gIx (fVar 10) (fLit (.int 3))) (fConsA (fOp gIx (fVar 10) (fLit (.int 0))) (fConsA (fOp gIx (fVar 10) (fLit (.int 1))) (fConsA (fOp gIx (fVar 10) (fLit (.int 2))) (fConsA (fOp gPlus (fLit (.int 1)) (fCall F__law_from (fCelA 0 (fConsA (fLit (.int 9)) fNilA)))) fNilA)))))) fNilA)))
  (fSeq (fFor (fIt (fOfL (fLst (fConsA (fVar 9) (fConsA (fVar 1) (fConsA (fTup (fConsA (fLit (.int 0)) (fConsA (fLit (.int 0)) (fConsA (fLit (.int 0)) (fConsA (fLit (.int 0)) (fConsA (fLit (.int 1)) fNilA)))))) (fConsA (fTup (fConsA (fLit (.int 3)) (fConsA (fUn gNeg (fLit (.int 3))) (fConsA (fLit (.int 0)) (fConsA (fLit (.int 0)) (fConsA (fLit (.int 2)) fNilA)))))) fNilA))))))) (aName 2) (fIfS (fNotT (fTru (fCall F__law_back_right (fConsA (fVar 2) fNilA)))) (fRet (fLit (.bool false))) fSkip))
  (fSeq (fIfS (fOrT (fNotT (fTru (fCall F__law_light_right (fConsA (fVar 5) (fConsA (fVar 7) fNilA))))) (fOrT (fNotT (fTru (fCall F__law_light_right (fConsA (fVar 6) (fConsA (fTup (fConsA (fLit (.int 1)) (fConsA (fLit (.int 2)) fNilA))) fNilA))))) (fNotT (fTru (fCall F__law_kinds_right (fConsA (fVar 5) (fConsA (fVar 6) fNilA))))))) (fRet (fLit (.bool false))) fSkip)
  (fSeq (fSet 3 (fTup (fConsA (fCall F__law_times (fConsA (fOp gIx (fVar 5) (fLit (.int 0))) (fConsA (fTup (fConsA (fLit (.int 0)) (fConsA (fLit (.int 1)) fNilA))) fNilA))) (fConsA (fCall F__law_times (fConsA (fOp gIx (fVar 5) (fLit (.int 1))) (fConsA (fTup (fConsA (fLit (.int 0)) (fConsA (fLit (.int 1)) fNilA))) fNilA))) fNilA))))
  (fSeq (fIfS (fOrT (fNotT (fTru (fCall F__law_kinds_right (fConsA (fVar 5) (fConsA (fVar 3) fNilA))))) (fNotT (fTru (fCall F__law_led_right (fConsA (fVar 8) (fConsA (fVar 5) fNilA)))))) (fRet (fLit (.bool false))) fSkip)
  (fSeq (fSet 4 (fTup (fConsA (fTup (fConsA (fOp gIx (fOp gIx (fVar 8) (fLit (.int 0))) (fLit (.int 0))) (fConsA (fOp gIx (fOp gIx (fVar 8) (fLit (.int 0))) (fLit (.int 1))) fNilA))) (fConsA (fTup (fConsA (fCall F__law_times (fConsA (fVar 7) (fConsA (fOp gIx (fOp gIx (fVar 8) (fLit (.int 0))) (fLit (.int 0))) fNilA))) (fConsA (fCall F__law_times (fConsA (fVar 7) (fConsA (fOp gIx (fOp gIx (fVar 8) (fLit (.int 0))) (fLit (.int 1))) fNilA))) fNilA))) fNilA))))
  (fSeq (fIfS (fNotT (fTru (fCall F__law_led_right (fConsA (fVar 4) (fConsA (fVar 6) fNilA))))) (fRet (fLit (.bool false))) fSkip)
  (fSeq (fIfS (fNotT (fTru (fCall F__law_led_right (fConsA (fTup (fConsA (fTup (fConsA (fOp gIx (fVar 6) (fLit (.int 1))) (fConsA (fCall F__law_minus (fConsA (fOp gIx (fVar 6) (fLit (.int 0))) fNilA)) fNilA))) (fConsA (fTup (fConsA (fTup (fConsA (fLit (.int 0)) (fConsA (fLit (.int 0)) fNilA))) (fConsA (fTup (fConsA (fLit (.int 0)) (fConsA (fLit (.int 0)) fNilA))) fNilA))) fNilA))) (fConsA (fVar 6) fNilA))))) (fRet (fLit (.bool false))) fSkip)
  (fRet (fCall F__law_led_right (fConsA (fTup (fConsA (fTup (fConsA (fTup (fConsA (fLit (.int 0)) (fConsA (fLit (.int 0)) fNilA))) (fConsA (fTup (fConsA (fLit (.int 0)) (fConsA (fLit (.int 0)) fNilA))) fNilA))) (fConsA (fTup (fConsA (fTup (fConsA (fLit (.int 0)) (fConsA (fLit (.int 0)) fNilA))) (fConsA (fTup (fConsA (fLit (.int 0)) (fConsA (fLit (.int 0)) fNilA))) fNilA))) fNilA))) (fConsA (fVar 5) fNilA))))))))))))))
def F__law_right_K17 : FnS := mkF 1 11 1 b__law_right_K17
def b_law_K17 : FS := (fRet (fBi gAll (fConsA (fOfL (fLc (fRng1 (fConsA (fCall F__law_turns (fConsA (fVar 0) (fConsA (fLit (.int 4)) fNilA))) fNilA)) (aName 1) fYes (fCallFr F__law_right_K17 (fCallL F__law_tap (fConsA (fVar 0) (fConsA (fVar 1) fNilA)))) [1])) fNilA)))
def F_law_K17 : FnS := mkF 1 2 0 b_law_K17
end PL


set_option Elab.async false
set_option linter.all false
set_option maxRecDepth 100000
set_option maxHeartbeats 400000
namespace PL
open PySem PySem.Spec L2 DL
open PyProof.Rows hiding St
def b_columns_of : FS := (fRet (fBi gTuple (fConsA (fOfL (fLc (fRng1 (fConsA (fBi gLen (fConsA (fVar 0) fNilA)) fNilA)) (aName 1) fYes (fBi gTuple (fConsA (fOfL (fLc (fIt (fVar 0)) (aName 2) fYes (fOp gIx (fVar 2) (fVar 1)) [2])) fNilA)) [1])) fNilA)))
def F_columns_of : FnS := mkF 1 3 0 b_columns_of
def b_rows_product : FS := (fSeq (fSet 2 (fCall F_columns_of (fConsA (fVar 1) fNilA)))
  (fRet (fBi gTuple (fConsA (fOfL (fLc (fIt (fVar 0)) (aName 3) fYes (fBi gTuple (fConsA (fOfL (fLc (fIt (fVar 2)) (aName 4) fYes (fCall F_dot (fConsA (fVar 3) (fConsA (fVar 4) fNilA))) [4])) fNilA)) [3])) fNilA))))
def F_rows_product : FnS := mkF 2 5 0 b_rows_product
def b_conjugated_row : FS := (fRet (fBi gTuple (fConsA (fOfL (fLc (fIt (fVar 0)) (aName 1) fYes (fCall F_conjugated (fConsA (fVar 1) fNilA)) [1])) fNilA)))
def F_conjugated_row : FnS := mkF 1 2 0 b_conjugated_row
def b_gaussian_product : FS := (fSeq (fSet 2 (fOfL (fLc (fRng1 (fConsA (fBi gLen (fConsA (fVar 1) fNilA)) fNilA)) (aName 3) fYes (fOfL (fLc (fIt (fVar 1)) (aName 4) fYes (fOp gIx (fVar 4) (fVar 3)) [4])) [3])))
  (fRet (fBi gTuple (fConsA (fOfL (fLc (fIt (fVar 0)) (aName 4) fYes (fBi gTuple (fConsA (fOfL (fLc (fIt (fVar 2)) (aName 5) fYes (fCall F_gaussian_dot (fConsA (fVar 4) (fConsA (fVar 5) fNilA))) [5])) fNilA)) [4])) fNilA))))
def F_gaussian_product : FnS := mkF 2 6 0 b_gaussian_product
def b_adjoint : FS := (fRet (fBi gTuple (fConsA (fOfL (fLc (fRng1 (fConsA (fBi gLen (fConsA (fVar 0) fNilA)) fNilA)) (aName 1) fYes (fCall F_conjugated_row (fConsA (fOfL (fLc (fIt (fVar 0)) (aName 2) fYes (fOp gIx (fVar 2) (fVar 1)) [2])) fNilA)) [1])) fNilA)))
def F_adjoint : FnS := mkF 1 3 0 b_adjoint
def b_trace_of : FS := (fRet (fCall F_gaussian_sum (fConsA (fOfL (fLc (fEnum (fConsA (fVar 0) fNilA)) (aTup 2 (aCons (aName 1) (aCons (aName 2) aNil))) fYes (fOp gIx (fVar 2) (fVar 1)) [1, 2])) fNilA)))
def F_trace_of : FnS := mkF 1 3 0 b_trace_of
def b_are_rows : FS := (fRet (fAndV (fUn (gTyIs "tuple") (fVar 0)) (fAndV (fOp gEq (fBi gLen (fConsA (fVar 0) fNilA)) (fLit (.int 4))) (fBi gAll (fConsA (fOfL (fLc (fIt (fVar 0)) (aName 1) fYes (fCall F_is_row (fConsA (fVar 1) (fConsA (fLit (.int 4)) fNilA))) [1])) fNilA)))))
def F_are_rows : FnS := mkF 1 2 0 b_are_rows
def b_is_table : FS := (fSeq (fIfS (fOrT (fTru (fUn (gTyNot "tuple") (fVar 0))) (fTru (fOp gNe (fBi gLen (fConsA (fVar 0) fNilA)) (fLit (.int 2))))) (fRet (fLit (.bool false))) fSkip)
  (fSeq (fAsg (aTup 2 (aCons (aName 1) (aCons (aName 2) aNil))) (fVar 0))
  (fSeq (fIfS (fNotT (fAndT (fTru (fCall F_are_rows (fConsA (fVar 1) fNilA))) (fAndT (fTru (fCall F_is_whole (fConsA (fVar 2) fNilA))) (fTru (fOp (gCmp fun i j => decide (j < i)) (fVar 2) (fLit (.int 0))))))) (fRet (fLit (.bool false))) fSkip)
  (fRet (fOp gEq (fCall F_divisor_of (fConsA (fTup (fStarA (fOfL (fLc (fIt (fVar 1)) (aName 3) fYes (fCall F_divisor_of (fConsA (fVar 3) fNilA)) [3])) (fConsA (fVar 2) fNilA))) fNilA)) (fLit (.int 1)))))))
def F_is_table : FnS := mkF 1 4 0 b_is_table
def b_check_table : FS := (fIfS (fNotT (fTru (fCall F_is_table (fConsA (fVar 0) fNilA)))) fNever fSkip)
def F_check_table : FnS := mkF 1 1 0 b_check_table
def b_reduced_table : FS := (fSeq (fSet 2 (fCall F_divisor_of (fConsA (fTup (fStarA (fOfL (fLc (fIt (fVar 0)) (aName 3) fYes (fCall F_divisor_of (fConsA (fVar 3) fNilA)) [3])) (fConsA (fVar 1) fNilA))) fNilA)))
  (fRet (fTup (fConsA (fBi gTuple (fConsA (fOfL (fLc (fIt (fVar 0)) (aName 3) fYes (fBi gTuple (fConsA (fOfL (fLc (fIt (fVar 3)) (aName 4) fYes (fOp gDiv (fVar 4) (fVar 2)) [4])) fNilA)) [3])) fNilA)) (fConsA (fOp gDiv (fVar 1) (fVar 2)) fNilA)))))
def F_reduced_table : FnS := mkF 2 5 0 b_reduced_table
def b_table_product : FS := (fSeq (fDrop (fCall F_check_table (fConsA (fVar 0) fNilA)))
  (fSeq (fDrop (fCall F_check_table (fConsA (fVar 1) fNilA)))
  (fRet (fCall F_reduced_table (fConsA (fCall F_rows_product (fConsA (fOp gIx (fVar 0) (fLit (.int 0))) (fConsA (fOp gIx (fVar 1) (fLit (.int 0))) fNilA))) (fConsA (fOp gMul (fOp gIx (fVar 0) (fLit (.int 1))) (fOp gIx (fVar 1) (fLit (.int 1)))) fNilA))))))
def F_table_product : FnS := mkF 2 2 0 b_table_product
def b_led_numbers : FS := (fSeq (fDrop (fCall F_check_table (fConsA (fVar 0) fNilA)))
  (fSeq (fDrop (fCall F_check_light (fConsA (fVar 1) fNilA)))
  (fSeq (fAsg (aTup 2 (aCons (aName 2) (aCons (aName 3) aNil))) (fVar 0))
  (fRet (fCall F_reduced (fConsA (fTup (fStarA (fOfL (fLc (fIt (fVar 2)) (aName 4) fYes (fCall F_dot (fConsA (fVar 4) (fConsA (fSl (fVar 1) fNoPart (fPart (fLit (.int 4)))) fNilA))) [4])) (fConsA (fOp gMul (fVar 3) (fOp gIx (fVar 1) (fLit (.int 4)))) fNilA))) fNilA))))))
def F_led_numbers : FnS := mkF 2 5 0 b_led_numbers
def b_led_light : FS := (fSeq (fSet 2 (fCall F_led_numbers (fConsA (fVar 0) (fConsA (fVar 1) fNilA))))
  (fSeq (fIfS (fNotT (fTru (fCall F_is_light (fConsA (fVar 2) fNilA)))) fNever fSkip)
  (fRet (fVar 2))))
def F_led_light : FnS := mkF 2 3 0 b_led_light
def b_matrix_product : FS := (fSeq (fDrop (fCall F_check_matrix (fConsA (fVar 0) fNilA)))
  (fSeq (fDrop (fCall F_check_matrix (fConsA (fVar 1) fNilA)))
  (fRet (fCall F_gaussian_product (fConsA (fVar 0) (fConsA (fVar 1) fNilA))))))
def F_matrix_product : FnS := mkF 2 2 0 b_matrix_product
def c__SPINS : PyData := (.tuple [(.tuple [(.tuple [(.tuple [(.int 1), (.int 0)]), (.tuple [(.int 0), (.int 0)])]), (.tuple [(.tuple [(.int 0), (.int 0)]), (.tuple [(.int 1), (.int 0)])])]), (.tuple [(.tuple [(.tuple [(.int 1), (.int 0)]), (.tuple [(.int 0), (.int 0)])]), (.tuple [(.tuple [(.int 0), (.int 0)]), (.tuple [(.int (-1)), (.int 0)])])]), (.tuple [(.tuple [(.tuple [(.int 0), (.int 0)]), (.tuple [(.int 1), (.int 0)])]), (.tuple [(.tuple [(.int 1), (.int 0)]), (.tuple [(.int 0), (.int 0)])])]), (.tuple [(.tuple [(.tuple [(.int 0), (.int 0)]), (.tuple [(.int 0), (.int (-1))])]), (.tuple [(.tuple [(.int 0), (.int 1)]), (.tuple [(.int 0), (.int 0)])])])])
def b_table_of_matrix : FS := (fSeq (fDrop (fCall F_check_matrix (fConsA (fVar 0) fNilA)))
  (fSeq (fSet 1 (fCall F_adjoint (fConsA (fVar 0) fNilA)))
  (fSeq (fSet 2 (fOfL (fLc (fIt (fLit c__SPINS)) (aName 3) fYes (fCall F_gaussian_product (fConsA (fCall F_gaussian_product (fConsA (fVar 0) (fConsA (fVar 3) fNilA))) (fConsA (fVar 1) fNilA))) [3])))
  (fRet (fCall F_reduced_table (fConsA (fOfL (fLc (fIt (fLit c__SPINS)) (aName 3) fYes (fOfL (fLc (fIt (fVar 2)) (aName 4) fYes (fOp gIx (fCall F_trace_of (fConsA (fCall F_gaussian_product (fConsA (fVar 3) (fConsA (fVar 4) fNilA))) fNilA)) (fLit (.int 0))) [4])) [3])) (fConsA (fLit (.int 2)) fNilA)))))))
def F_table_of_matrix : FnS := mkF 1 5 0 b_table_of_matrix
def b__law_cut : FS := (fSeq (fSet 2 (fOfL (fLc (fIt (fOp gPlus (fBi gTuple (fConsA (fOp gIx (fVar 0) (fLit (.int 0))) fNilA)) (fBi gTuple (fConsA (fOp gIx (fVar 0) (fLit (.int 1))) fNilA)))) (aName 4) fYes (fVar 4) [4])))
  (fSeq (fSet 2 (fOp gPlus (fVar 2) (fOfL (fLc (fIt (fOp gPlus (fBi gTuple (fConsA (fOp gIx (fVar 0) (fLit (.int 2))) fNilA)) (fBi gTuple (fConsA (fOp gIx (fVar 0) (fLit (.int 3))) fNilA)))) (aName 4) fYes (fVar 4) [4]))))
  (fSeq (fSet 3 (fCall F__law_least (fConsA (fOp gPlus (fVar 2) (fOfL (fLst (fConsA (fVar 1) fNilA)))) fNilA)))
  (fRet (fTup (fConsA (fTup (fConsA (fSl (fVar 3) (fPart (fLit (.int 0))) (fPart (fLit (.int 4)))) (fConsA (fSl (fVar 3) (fPart (fLit (.int 4))) (fPart (fLit (.int 8)))) (fConsA (fSl (fVar 3) (fPart (fLit (.int 8))) (fPart (fLit (.int 12)))) (fConsA (fSl (fVar 3) (fPart (fLit (.int 12))) (fPart (fLit (.int 16)))) fNilA))))) (fConsA (fOp gIx (fVar 3) (fLit (.int 16))) fNilA)))))))
def F__law_cut : FnS := mkF 2 5 0 b__law_cut
def b__law_flat : FS := (fRet (fOfL (fLst (fConsA (fOp gIx (fOp gIx (fVar 0) (fLit (.int 0))) (fLit (.int 0))) (fConsA (fOp gIx (fOp gIx (fVar 0) (fLit (.int 0))) (fLit (.int 1))) (fConsA (fOp gIx (fOp gIx (fVar 0) (fLit (.int 1))) (fLit (.int 0))) (fConsA (fOp gIx (fOp gIx (fVar 0) (fLit (.int 1))) (fLit (.int 1))) fNilA)))))))
def F__law_flat : FnS := mkF 1 1 0 b__law_flat
def b__law_knots_product : FS := (fSeq (fNew 2 (fLst fNilA))
  (fSeq (fFor (fIt (fVar 0)) (aName 3) (fSeq (fSet 4 (fOfL (fLc (fRng1 (fConsA (fLit (.int 2)) fNilA)) (aName 5) fYes (fCall F__law_join (fConsA (fCall F__law_times (fConsA (fOp gIx (fVar 3) (fLit (.int 0))) (fConsA (fOp gIx (fOp gIx (fVar 1) (fLit (.int 0))) (fVar 5)) fNilA))) (fConsA (fCall F__law_times (fConsA (fOp gIx (fVar 3) (fLit (.int 1))) (fConsA (fOp gIx (fOp gIx (fVar 1) (fLit (.int 1))) (fVar 5)) fNilA))) fNilA))) [5])))
  (fApp 2 (fTup (fConsA (fOp gIx (fVar 4) (fLit (.int 0))) (fConsA (fOp gIx (fVar 4) (fLit (.int 1))) fNilA))))))
  (fFrz 0 2 (fRet (fTup (fConsA (fOp gIx (fVar 2) (fLit (.int 0))) (fConsA (fOp gIx (fVar 2) (fLit (.int 1))) fNilA)))))))
def F__law_knots_product : FnS := mkF 2 6 0 b__law_knots_product
def b__law_knot_grid : FS := (fSeq (fSet 1 (fOfL (fLc (fIt (fOfL (fLst (fConsA (fTup (fConsA (fTup (fConsA (fLit (.int 1)) (fConsA (fLit (.int 0)) fNilA))) (fConsA (fTup (fConsA (fLit (.int 0)) (fConsA (fLit (.int 0)) fNilA))) fNilA))) (fConsA (fTup (fConsA (fTup (fConsA (fLit (.int 0)) (fConsA (fLit (.int 0)) fNilA))) (fConsA (fTup (fConsA (fLit (.int 1)) (fConsA (fLit (.int 0)) fNilA))) fNilA))) fNilA))))) (aName 6) fYes (fCall F__law_arrow_shine (fConsA (fCall F__law_arrow_led (fConsA (fVar 0) (fConsA (fVar 6) fNilA))) fNilA)) [6])))
  (fSeq (fAsg (aLst 2 (aCons (aName 4) (aCons (aName 5) aNil))) (fOfL (fLc (fIt (fOfL (fLst (fConsA (fTup (fConsA (fLit (.int 1)) (fConsA (fLit (.int 0)) fNilA))) (fConsA (fTup (fConsA (fLit (.int 0)) (fConsA (fLit (.int 1)) fNilA))) fNilA))))) (aName 6) fYes (fCall F__law_arrow_shine (fConsA (fCall F__law_arrow_led (fConsA (fVar 0) (fConsA (fTup (fConsA (fTup (fConsA (fLit (.int 1)) (fConsA (fLit (.int 0)) fNilA))) (fConsA (fVar 6) fNilA))) fNilA))) fNilA)) [6])))
  (fSeq (fNew 2 (fLst fNilA))
  (fSeq (fFor (fRng1 (fConsA (fLit (.int 4)) fNilA)) (aName 3) (fSeq (fPar 7 8 (fConsA (fOp gPlus (fOp gIx (fOp gIx (fVar 1) (fLit (.int 0))) (fVar 3)) (fOp gIx (fOp gIx (fVar 1) (fLit (.int 1))) (fVar 3))) (fConsA (fOp gSub (fOp gIx (fOp gIx (fVar 1) (fLit (.int 0))) (fVar 3)) (fOp gIx (fOp gIx (fVar 1) (fLit (.int 1))) (fVar 3))) fNilA)))
  (fApp 2 (fTup (fConsA (fVar 7) (fConsA (fVar 8) (fConsA (fOp gSub (fOp gIx (fVar 4) (fVar 3)) (fVar 7)) (fConsA (fOp gSub (fOp gIx (fVar 5) (fVar 3)) (fVar 7)) fNilA))))))))
  (fFrz 0 2 (fRet (fCall F__law_cut (fConsA (fVar 2) (fConsA (fLit (.int 2)) fNilA)))))))))
def F__law_knot_grid : FnS := mkF 1 9 0 b__law_knot_grid
def b__law_any_knot : FS := (fSeq (fPar 2 3 (fConsA (fCall F__law_from (fCelA 0 (fConsA (fLit (.int 7)) fNilA))) (fConsA (fCall F__law_spin (fCelA 0 fNilA)) fNilA)))
  (fSeq (fIfS (fTru (fOp gEq (fVar 2) (fLit (.int 0)))) (fRet (fTup (fConsA (fTup (fConsA (fTup (fConsA (fLit (.int 0)) (fConsA (fLit (.int 0)) fNilA))) (fConsA (fTup (fConsA (fLit (.int 0)) (fConsA (fLit (.int 0)) fNilA))) fNilA))) (fConsA (fTup (fConsA (fTup (fConsA (fLit (.int 0)) (fConsA (fLit (.int 0)) fNilA))) (fConsA (fTup (fConsA (fLit (.int 0)) (fConsA (fLit (.int 0)) fNilA))) fNilA))) fNilA)))) fSkip)
  (fSeq (fIfS (fTru (fOp gEq (fVar 2) (fLit (.int 1)))) (fRet (fTup (fConsA (fTup (fConsA (fVar 3) (fConsA (fTup (fConsA (fLit (.int 0)) (fConsA (fLit (.int 0)) fNilA))) fNilA))) (fConsA (fTup (fConsA (fTup (fConsA (fLit (.int 0)) (fConsA (fLit (.int 0)) fNilA))) (fConsA (fVar 3) fNilA))) fNilA)))) fSkip)
  (fSeq (fSet 1 (fCall F__law_knot (fCelA 0 fNilA)))
  (fSeq (fIfS (fTru (fOp (gCmp fun i j => decide (j < i)) (fVar 2) (fLit (.int 2)))) (fRet (fVar 1)) fSkip)
  (fRet (fTup (fConsA (fOp gIx (fVar 1) (fLit (.int 0))) (fConsA (fTup (fConsA (fCall F__law_times (fConsA (fVar 3) (fConsA (fOp gIx (fOp gIx (fVar 1) (fLit (.int 0))) (fLit (.int 0))) fNilA))) (fConsA (fCall F__law_times (fConsA (fVar 3) (fConsA (fOp gIx (fOp gIx (fVar 1) (fLit (.int 0))) (fLit (.int 1))) fNilA))) fNilA))) fNilA)))))))))
def F__law_any_knot : FnS := mkF 1 4 1 b__law_any_knot
def b__law_table_right : FS := (fSeq (fSet 2 (fCall F__law_knot_grid (fConsA (fVar 0) fNilA)))
  (fSeq (fSet 3 (fCall F_table_of_matrix (fConsA (fVar 0) fNilA)))
  (fSeq (fIfS (fTru (fOp gNe (fBi gRepr (fConsA (fOfL (fLst (fConsA (fVar 3) (fConsA (fCall F_table_of_matrix (fConsA (fVar 0) fNilA)) fNilA)))) fNilA)) (fBi gRepr (fConsA (fOfL (fLst (fConsA (fVar 2) (fConsA (fVar 2) fNilA)))) fNilA)))) (fRet (fLit (.bool false))) fSkip)
  (fSeq (fFor (fIt (fVar 1)) (aName 4) (fSeq (fPar 6 7 (fConsA (fCall F_led_amplitude (fConsA (fVar 0) (fConsA (fVar 4) fNilA))) (fConsA (fCall F_light_of_amplitude (fConsA (fVar 4) fNilA)) fNilA)))
  (fSeq (fSet 5 (fIf (fTru (fOp gIsN (fVar 6) (fLit .none))) (fTup (fConsA (fLit (.int 0)) (fConsA (fLit (.int 0)) (fConsA (fLit (.int 0)) (fConsA (fLit (.int 0)) (fConsA (fLit (.int 1)) fNilA)))))) (fCall F_light_of_amplitude (fConsA (fVar 6) fNilA))))
  (fIfS (fTru (fOp gNe (fBi gRepr (fConsA (fCall F_led_light (fConsA (fVar 3) (fConsA (fVar 7) fNilA))) fNilA)) (fBi gRepr (fConsA (fVar 5) fNilA)))) (fRet (fLit (.bool false))) fSkip))))
  (fRet (fLit (.bool true)))))))
def F__law_table_right : FnS := mkF 2 8 0 b__law_table_right
def b__law_product_right : FS := (fSeq (fSet 3 (fCall F__law_knots_product (fConsA (fVar 0) (fConsA (fVar 1) fNilA))))
  (fSeq (fIfS (fTru (fOp gNe (fBi gRepr (fConsA (fOfL (fLst (fConsA (fCall F_matrix_product (fConsA (fVar 0) (fConsA (fVar 1) fNilA))) (fConsA (fCall F_matrix_product (fConsA (fVar 0) (fConsA (fVar 1) fNilA))) fNilA)))) fNilA)) (fBi gRepr (fConsA (fOfL (fLst (fConsA (fVar 3) (fConsA (fVar 3) fNilA)))) fNilA)))) (fRet (fLit (.bool false))) fSkip)
  (fSeq (fIfS (fTru (fOp gNe (fBi gRepr (fConsA (fCall F_table_of_matrix (fConsA (fVar 3) fNilA)) fNilA)) (fBi gRepr (fConsA (fCall F_table_product (fConsA (fCall F_table_of_matrix (fConsA (fVar 0) fNilA)) (fConsA (fCall F_table_of_matrix (fConsA (fVar 1) fNilA)) fNilA))) fNilA)))) (fRet (fLit (.bool false))) fSkip)
  (fSeq (fSet 4 (fCall F_led_amplitude (fConsA (fVar 1) (fConsA (fVar 2) fNilA))))
  (fSeq (fSet 5 (fIf (fTru (fOp gIsN (fVar 4) (fLit .none))) (fLit .none) (fCall F_led_amplitude (fConsA (fVar 0) (fConsA (fVar 4) fNilA)))))
  (fRet (fOp gEq (fBi gRepr (fConsA (fCall F_led_amplitude (fConsA (fVar 3) (fConsA (fVar 2) fNilA))) fNilA)) (fBi gRepr (fConsA (fVar 5) fNilA)))))))))
def F__law_product_right : FnS := mkF 3 6 0 b__law_product_right
def b__law_right_K18 : FS := (fSeq (fPar3 6 7 8 (fConsA (fCall F__law_any_knot (fCelA 0 fNilA)) (fConsA (fCall F__law_any_knot (fCelA 0 fNilA)) (fConsA (fCall F__law_knot (fCelA 0 fNilA)) fNilA))))
  (fSeq (fSet 1 (fOfL (fLst (fConsA (fCall F__law_arrow (fCelA 0 fNilA)) (fConsA (fCall F__law_arrow (fCelA 0 fNilA)) (fConsA (fTup (fConsA (fTup (fConsA (fLit (.int 1)) (fConsA (fLit (.int 0)) fNilA))) (fConsA (fTup (fConsA (fLit (.int 0)) (fConsA (fLit (.int 1)) fNilA))) fNilA))) (fConsA (fTup (fConsA (fTup (fConsA (fLit (.int 1)) (fConsA (fLit (.int 0)) fNilA))) (fConsA (fTup (fConsA (fLit (.int 1)) (fConsA (fLit (.int 0)) fNilA))) fNilA))) fNilA)))))))
  (fSeq (fFor (fIt (fOfL (fLst (fConsA (fVar 6) (fConsA (fVar 7) (fConsA (fVar 8) fNilA)))))) (aName 2) (fIfS (fNotT (fTru (fCall F__law_table_right (fConsA (fVar 2) (fConsA (fVar 1) fNilA))))) (fRet (fLit (.bool false))) fSkip))
  (fSeq (fIfS (fOrT (fNotT (fTru (fCall F__law_product_right (fConsA (fVar 6) (fConsA (fVar 7) (fConsA (fOp gIx (fVar 1) (fLit (.int 0))) fNilA)))))) (fNotT (fTru (fCall F__law_product_right (fConsA (fVar 7) (fConsA (fVar 8) (fConsA (fOp gIx (fVar 1) (fLit (.int 1))) fNilA))))))) (fRet (fLit (.bool false))) fSkip)
  (fSeq (fPar 9 10 (fConsA (fCall F_matrix_product (fConsA (fCall F_matrix_product (fConsA (fVar 6) (fConsA (fVar 7) fNilA))) (fConsA (fVar 8) fNilA))) (fConsA (fCall F_matrix_product (fConsA (fVar 7) (fConsA (fVar 8) fNilA))) fNilA)))
  (fSeq (fIfS (fTru (fOp gNe (fBi gRepr (fConsA (fVar 9) fNilA)) (fBi gRepr (fConsA (fCall F_matrix_product (fConsA (fVar 6) (fConsA (fVar 10) fNilA))) fNilA)))) (fRet (fLit (.bool false))) fSkip)
  (fSeq (fSet 3 (fBi gSum (fConsA (fOfL (fLc (fIt (fCall F__law_flat (fConsA (fVar 8) fNilA))) (aName 11) fYes (fOp gPlus (fOp gMul (fOp gIx (fVar 11) (fLit (.int 0))) (fOp gIx (fVar 11) (fLit (.int 0)))) (fOp gMul (fOp gIx (fVar 11) (fLit (.int 1))) (fOp gIx (fVar 11) (fLit (.int 1))))) [11])) fNilA)))
  (fSeq (fSet 4 (fCall F_table_of_matrix (fConsA (fVar 8) fNilA)))
  (fSeq (fIfS (fTru (fOp gNe (fCall F__law_ratio (fConsA (fOp gIx (fOp gIx (fOp gIx (fVar 4) (fLit (.int 0))) (fLit (.int 0))) (fLit (.int 0))) (fConsA (fOp gIx (fVar 4) (fLit (.int 1))) fNilA))) (fCall F__law_ratio (fConsA (fVar 3) (fConsA (fLit (.int 2)) fNilA))))) (fRet (fLit (.bool false))) fSkip)
  (fSeq (fSet 5 (fTup (fConsA (fTup (fConsA (fTup (fConsA (fLit (.int 1)) (fConsA (fLit (.int 0)) fNilA))) (fConsA (fTup (fConsA (fLit (.int 0)) (fConsA (fLit (.int 0)) fNilA))) fNilA))) (fConsA (fTup (fConsA (fTup (fConsA (fLit (.int 0)) (fConsA (fLit (.int 0)) fNilA))) (fConsA (fTup (fConsA (fLit (.int 1)) (fConsA (fLit (.int 0)) fNilA))) fNilA))) fNilA))))
  (fRet (fOp gEq (fBi gRepr (fConsA (fOfL (fLst (fConsA (fCall F_matrix_product (fConsA (fVar 6) (fConsA (fVar 5) fNilA))) (fConsA (fCall F_matrix_product (fConsA (fVar 5) (fConsA (fVar 6) fNilA))) fNilA)))) fNilA)) (fBi gRepr (fConsA (fOfL (fLst (fConsA (fVar 6) (fConsA (fVar 6) fNilA)))) fNilA))))))))))))))
def F__law_right_K18 : FnS := mkF 1 12 1 b__law_right_K18
def b_law_K18 : FS := (fRet (fBi gAll (fConsA (fOfL (fLc (fRng1 (fConsA (fCall F__law_turns (fConsA (fVar 0) (fConsA (fLit (.int 4)) fNilA))) fNilA)) (aName 1) fYes (fCallFr F__law_right_K18 (fCallL F__law_tap (fConsA (fVar 0) (fConsA (fVar 1) fNilA)))) [1])) fNilA)))
def F_law_K18 : FnS := mkF 1 2 0 b_law_K18
end PL


set_option Elab.async false
set_option linter.all false
set_option maxRecDepth 100000
set_option maxHeartbeats 400000
namespace PL
open PySem PySem.Spec L2 DL
open PyProof.Rows hiding St
def b_taken : FS := (fRet (fTup (fConsA (fOp gMul (fOp gIx (fVar 0) (fLit (.int 0))) (fVar 1)) (fConsA (fOp gMul (fOp gIx (fVar 0) (fLit (.int 1))) (fVar 1)) fNilA))))
def F_taken : FnS := mkF 2 2 0 b_taken
def b_is_setting : FS := (fRet (fAndV (fCall F_is_reduced_row (fConsA (fVar 0) (fConsA (fLit (.int 2)) fNilA))) (fOrV (fOp (gCmp fun i j => decide (j < i)) (fOp gIx (fVar 0) (fLit (.int 1))) (fLit (.int 0))) (fOp gEq (fVar 0) (fTup (fConsA (fLit (.int 1)) (fConsA (fLit (.int 0)) fNilA)))))))
def F_is_setting : FnS := mkF 1 1 0 b_is_setting
def b_check_setting : FS := (fIfS (fNotT (fTru (fCall F_is_setting (fConsA (fVar 0) fNilA)))) fNever fSkip)
def F_check_setting : FnS := mkF 1 1 0 b_check_setting
def b_check_beams : FS := (fSeq (fDrop (fCall F_check_matrix (fConsA (fVar 0) fNilA)))
  (fSeq (fDrop (fCall F_check_matrix (fConsA (fVar 1) fNilA)))
  (fDrop (fCall F_check_light (fConsA (fVar 2) fNilA)))))
def F_check_beams : FnS := mkF 3 3 0 b_check_beams
def b__mixed_row : FS := (fRet (fBi gTuple (fConsA (fOfL (fLc (fZip (fConsA (fVar 1) (fConsA (fVar 3) fNilA))) (aTup 2 (aCons (aName 4) (aCons (aName 5) aNil))) fYes (fCall F_gaussian_sum (fConsA (fTup (fConsA (fCall F_taken (fConsA (fVar 4) (fConsA (fVar 0) fNilA))) (fConsA (fCall F_multiplied (fConsA (fVar 2) (fConsA (fVar 5) fNilA))) fNilA))) fNilA)) [4, 5])) fNilA)))
def F__mixed_row : FnS := mkF 4 6 0 b__mixed_row
def b_beam_light : FS := (fSeq (fDrop (fCall F_check_beams (fConsA (fVar 0) (fConsA (fVar 1) (fConsA (fVar 2) fNilA)))))
  (fSeq (fDrop (fCall F_check_setting (fConsA (fVar 3) fNilA)))
  (fSeq (fAsg (aTup 2 (aCons (aName 5) (aCons (aName 6) aNil))) (fVar 3))
  (fSeq (fAsg (aTup 2 (aCons (aName 7) (aCons (aName 8) aNil))) (fTup (fConsA (fOp gPlus (fOp gMul (fVar 5) (fVar 5)) (fOp gMul (fVar 6) (fVar 6))) (fConsA (fTup (fConsA (fOp gSub (fOp gMul (fVar 6) (fVar 6)) (fOp gMul (fVar 5) (fVar 5))) (fConsA (fOp gMul (fOp gMul (fLit (.int 2)) (fVar 5)) (fVar 6)) fNilA))) fNilA))))
  (fSeq (fSet 4 (fBi gTuple (fConsA (fOfL (fLc (fZip (fConsA (fVar 0) (fConsA (fVar 1) fNilA))) (aTup 2 (aCons (aName 11) (aCons (aName 12) aNil))) fYes (fCall F__mixed_row (fConsA (fVar 7) (fConsA (fVar 11) (fConsA (fVar 8) (fConsA (fVar 12) fNilA))))) [11, 12])) fNilA)))
  (fSeq (fAsg (aTup 2 (aCons (aName 9) (aCons (aName 10) aNil))) (fCall F_table_of_matrix (fConsA (fVar 4) fNilA)))
  (fRet (fCall F_led_light (fConsA (fCall F_reduced_table (fConsA (fVar 9) (fConsA (fOp gMul (fOp gMul (fVar 10) (fVar 7)) (fVar 7)) fNilA))) (fConsA (fVar 2) fNilA))))))))))
def F_beam_light : FnS := mkF 4 13 0 b_beam_light
def b_beam_level : FS := (fSeq (fSet 4 (fCall F_beam_light (fConsA (fVar 0) (fConsA (fVar 1) (fConsA (fVar 2) (fConsA (fVar 3) fNilA))))))
  (fRet (fCall F_ratio (fConsA (fOp gIx (fVar 4) (fLit (.int 0))) (fConsA (fOp gIx (fVar 4) (fLit (.int 4))) fNilA)))))
def F_beam_level : FnS := mkF 4 5 0 b_beam_level
def b__law_urn : FS := (fSeq (fSet 2 (fOp gPlus (fLit (.int 71993)) (fOp gMul (fLit (.int 5003)) (fVar 1))))
  (fSeq (fFor (fIt (fSl (fVar 0) fNoPart (fPart (fLit (.int 63))))) (aName 3) (fSet 2 (fOp gMod (fBi gInt (fConsA (fOp gPlus (fOp gPlus (fOp gMul (fVar 2) (fLit (.int 52361))) (fOp gMod (fBi gInt (fConsA (fVar 3) fNilA)) (fLit (.int 2147483587)))) (fLit (.int 41))) fNilA)) (fLit (.int 2147483587)))))
  (fSeq (fSet 4 (fIf (fTru (fOp (gCmp fun i j => decide (i < j)) (fVar 1) (fBi gLen (fConsA (fVar 0) fNilA)))) (fBi gAbs (fConsA (fBi gInt (fConsA (fOp gIx (fVar 0) (fVar 1)) fNilA)) fNilA)) (fLit (.int 0))))
  (fRetL (fLst (fConsA (fIf (fTru (fOp (gCmp fun i j => decide (j ≤ i)) (fVar 4) (fOp gPow (fLit (.int 10)) (fLit (.int 18))))) (fVar 4) (fLit (.int 0))) (fConsA (fOp gMod (fBi gInt (fConsA (fOp gPlus (fOp gPlus (fOp gMul (fVar 2) (fLit (.int 39119))) (fOp gMod (fBi gInt (fConsA (fVar 4) fNilA)) (fLit (.int 2147483549)))) (fLit (.int 7))) fNilA)) (fLit (.int 2147483549))) (fConsA (fOp gPlus (fVar 2) (fLit (.int 2))) fNilA))))))))
def F__law_urn : FnS := mkF 2 5 0 b__law_urn
def b__law_pull : FS := (fSeq (fIfS (fTru (fOp (gCmp fun i j => decide (j < i)) (fCix 0 (fLit (.int 0))) (fLit (.int 0)))) (fSeq (fSetc2 0 (fLit (.int 0)) 4 (fBi gDivmod (fConsA (fCix 0 (fLit (.int 0))) (fConsA (fVar 1) fNilA))))
  (fRet (fVar 4))) fSkip)
  (fSeq (fSet 2 (fLit (.int 0)))
  (fSeq (fFor (fRng1 (fConsA (fIf (fTru (fOp (gCmp fun i j => decide (i ≤ j)) (fVar 1) (fOp gPow (fLit (.int 10)) (fLit (.int 6))))) (fLit (.int 1)) (fLit (.int 2))) fNilA)) (aName 3) (fSeq (fSetc 0 (fLit (.int 1)) (fOp gMod (fBi gInt (fConsA (fOp gPlus (fOp gMul (fCix 0 (fLit (.int 1))) (fLit (.int 36091))) (fLit (.int 1409))) fNilA)) (fLit (.int 2147483629))))
  (fSeq (fSetc 0 (fLit (.int 2)) (fOp gMod (fBi gInt (fConsA (fOp gPlus (fOp gMul (fCix 0 (fLit (.int 2))) (fLit (.int 28081))) (fCix 0 (fLit (.int 1)))) fNilA)) (fLit (.int 2147483563))))
  (fSet 2 (fOp gPlus (fOp gMul (fVar 2) (fLit (.int 8000000))) (fOp gMod (fBi gInt (fConsA (fOp gDiv (fCix 0 (fLit (.int 2))) (fLit (.int 263))) fNilA)) (fLit (.int 8000000))))))))
  (fRet (fOp gMod (fBi gInt (fConsA (fVar 2) fNilA)) (fVar 1))))))
def F__law_pull : FnS := mkF 2 5 1 b__law_pull
def b__law_any : FS := (fRet (fOp gIx (fVar 1) (fCall F__law_pull (fCelA 0 (fConsA (fBi gLen (fConsA (fVar 1) fNilA)) fNilA)))))
def F__law_any : FnS := mkF 2 2 1 b__law_any
def b__law_laps : FS := (fRet (fBi gMax (fConsA (fLit (.int 2)) (fConsA (fBi gMin (fConsA (fBi gLen (fConsA (fVar 0) fNilA)) (fConsA (fLit (.int 3)) fNilA))) fNilA))))
def F__law_laps : FnS := mkF 1 1 0 b__law_laps
def b__law_gcd : FS := (fSeq (fFor (fRng1 (fConsA (fLit (.int 20000)) fNilA)) (aName 2) (fSeq (fIfS (fTru (fOp gEq (fVar 1) (fLit (.int 0)))) (fun st => some (.bk st)) fSkip)
  (fPar 0 1 (fConsA (fVar 1) (fConsA (fOp gMod (fBi gInt (fConsA (fVar 0) fNilA)) (fVar 1)) fNilA)))))
  (fRet (fVar 0)))
def F__law_gcd : FnS := mkF 2 3 0 b__law_gcd
def b__law_thin : FS := (fSeq (fSet 1 (fLit (.int 0)))
  (fSeq (fFor (fIt (fVar 0)) (aName 2) (fSet 1 (fCall F__law_gcd (fConsA (fVar 1) (fConsA (fBi gAbs (fConsA (fVar 2) fNilA)) fNilA)))))
  (fRet (fIf (fTru (fOp (gCmp fun i j => decide (i < j)) (fVar 1) (fLit (.int 2)))) (fBi gTuple (fConsA (fVar 0) fNilA)) (fBi gTuple (fConsA (fOfL (fLc (fIt (fVar 0)) (aName 2) fYes (fOp gDiv (fVar 2) (fVar 1)) [2])) fNilA))))))
def F__law_thin : FnS := mkF 1 3 0 b__law_thin
def b__law_frac : FS := (fSeq (fSet 2 (fCall F__law_thin (fConsA (fTup (fConsA (fVar 0) (fConsA (fVar 1) fNilA))) fNilA)))
  (fRet (fIf (fTru (fOp (gCmp fun i j => decide (j < i)) (fOp gIx (fVar 2) (fLit (.int 1))) (fLit (.int 0)))) (fVar 2) (fTup (fConsA (fUn gNeg (fOp gIx (fVar 2) (fLit (.int 0)))) (fConsA (fUn gNeg (fOp gIx (fVar 2) (fLit (.int 1)))) fNilA))))))
def F__law_frac : FnS := mkF 2 3 0 b__law_frac
def b__law_num : FS := (fRet (fOp gSub (fCall F__law_pull (fCelA 0 (fConsA (fOp gPlus (fOp gMul (fLit (.int 2)) (fVar 1)) (fLit (.int 1))) fNilA))) (fVar 1)))
def F__law_num : FnS := mkF 2 2 1 b__law_num
def b__law_add : FS := (fRet (fBi gTuple (fConsA (fOfL (fLc (fRng1 (fConsA (fBi gLen (fConsA (fVar 0) fNilA)) fNilA)) (aName 2) fYes (fOp gPlus (fOp gIx (fVar 0) (fVar 2)) (fOp gIx (fVar 1) (fVar 2))) [2])) fNilA)))
def F__law_add : FnS := mkF 2 3 0 b__law_add
def b__law_by_K51 : FS := (fRet (fBi gTuple (fConsA (fOfL (fLc (fIt (fVar 0)) (aName 2) fYes (fOp gMul (fVar 2) (fVar 1)) [2])) fNilA)))
def F__law_by_K51 : FnS := mkF 2 3 0 b__law_by_K51
def b__law_amp : FS := (fSeq (fSet 1 (fCall F__law_any (fCelA 0 (fConsA (fOfL (fLst (fConsA (fLit (.int 1)) (fConsA (fLit (.int 1)) (fConsA (fLit (.int 1)) (fConsA (fLit (.int 2)) (fConsA (fLit (.int 2)) (fConsA (fLit (.int 3)) (fConsA (fLit (.int 25)) fNilA))))))))) fNilA))))
  (fSeq (fNew 2 (fLc (fRng1 (fConsA (fLit (.int 4)) fNilA)) (aName 3) fYes (fCall F__law_num (fCelA 0 (fConsA (fVar 1) fNilA))) [3]))
  (fSeq (fIfS (fThawT (fTru (fOp gEq (fVar 2) (fOfL (fLst (fConsA (fLit (.int 0)) (fConsA (fLit (.int 0)) (fConsA (fLit (.int 0)) (fConsA (fLit (.int 0)) fNilA))))))))) (fSetc 2 (fCall F__law_pull (fCelA 0 (fConsA (fLit (.int 4)) fNilA))) (fLit (.int 1))) fSkip)
  (fFrz 1 2 (fRet (fTup (fConsA (fTup (fConsA (fOp gIx (fVar 2) (fLit (.int 0))) (fConsA (fOp gIx (fVar 2) (fLit (.int 1))) fNilA))) (fConsA (fTup (fConsA (fOp gIx (fVar 2) (fLit (.int 2))) (fConsA (fOp gIx (fVar 2) (fLit (.int 3))) fNilA))) fNilA))))))))
def F__law_amp : FnS := mkF 1 4 1 b__law_amp
def b__law_four : FS := (fSeq (fAsg (aTup 2 (aCons (aTup 2 (aCons (aName 1) (aCons (aName 2) aNil))) (aCons (aTup 2 (aCons (aName 3) (aCons (aName 4) aNil))) aNil))) (fVar 0))
  (fRet (fTup (fConsA (fOp gPlus (fOp gPlus (fOp gPlus (fOp gMul (fVar 1) (fVar 1)) (fOp gMul (fVar 2) (fVar 2))) (fOp gMul (fVar 3) (fVar 3))) (fOp gMul (fVar 4) (fVar 4))) (fConsA (fOp gSub (fOp gSub (fOp gPlus (fOp gMul (fVar 1) (fVar 1)) (fOp gMul (fVar 2) (fVar 2))) (fOp gMul (fVar 3) (fVar 3))) (fOp gMul (fVar 4) (fVar 4))) (fConsA (fOp gMul (fLit (.int 2)) (fOp gPlus (fOp gMul (fVar 1) (fVar 3)) (fOp gMul (fVar 2) (fVar 4)))) (fConsA (fOp gMul (fLit (.int 2)) (fOp gSub (fOp gMul (fVar 1) (fVar 4)) (fOp gMul (fVar 2) (fVar 3)))) fNilA)))))))
def F__law_four : FnS := mkF 1 5 0 b__law_four
def b__law_gmul : FS := (fRet (fTup (fConsA (fOp gSub (fOp gMul (fOp gIx (fVar 0) (fLit (.int 0))) (fOp gIx (fVar 1) (fLit (.int 0)))) (fOp gMul (fOp gIx (fVar 0) (fLit (.int 1))) (fOp gIx (fVar 1) (fLit (.int 1))))) (fConsA (fOp gPlus (fOp gMul (fOp gIx (fVar 0) (fLit (.int 0))) (fOp gIx (fVar 1) (fLit (.int 1)))) (fOp gMul (fOp gIx (fVar 0) (fLit (.int 1))) (fOp gIx (fVar 1) (fLit (.int 0))))) fNilA))))
def F__law_gmul : FnS := mkF 2 2 0 b__law_gmul
def b__law_gsum : FS := (fRet (fTup (fConsA (fOp gPlus (fOp gIx (fVar 0) (fLit (.int 0))) (fOp gIx (fVar 1) (fLit (.int 0)))) (fConsA (fOp gPlus (fOp gIx (fVar 0) (fLit (.int 1))) (fOp gIx (fVar 1) (fLit (.int 1)))) fNilA))))
def F__law_gsum : FnS := mkF 2 2 0 b__law_gsum
def b__law_gauss : FS := (fSeq (fSet 1 (fCall F__law_any (fCelA 0 (fConsA (fOfL (fLst (fConsA (fLit (.int 0)) (fConsA (fLit (.int 1)) (fConsA (fLit (.int 1)) (fConsA (fLit (.int 2)) (fConsA (fLit (.int 3)) fNilA))))))) fNilA))))
  (fRet (fTup (fConsA (fCall F__law_num (fCelA 0 (fConsA (fVar 1) fNilA))) (fConsA (fCall F__law_num (fCelA 0 (fConsA (fVar 1) fNilA))) fNilA)))))
def F__law_gauss : FnS := mkF 1 2 1 b__law_gauss
def b__law_mat : FS := (fSeq (fPar 1 2 (fConsA (fCall F__law_pull (fCelA 0 (fConsA (fLit (.int 8)) fNilA))) (fConsA (fOfL (fLc (fRng1 (fConsA (fLit (.int 4)) fNilA)) (aName 3) fYes (fCall F__law_gauss (fCelA 0 fNilA)) [3])) fNilA)))
  (fSeq (fIfS (fTru (fOp gEq (fVar 1) (fLit (.int 0)))) (fSet 2 (fOfL (fLst (fConsA (fOp gIx (fVar 2) (fLit (.int 0))) (fConsA (fTup (fConsA (fLit (.int 0)) (fConsA (fLit (.int 0)) fNilA))) (fConsA (fTup (fConsA (fLit (.int 0)) (fConsA (fLit (.int 0)) fNilA))) (fConsA (fOp gIx (fVar 2) (fLit (.int 3))) fNilA))))))) fSkip)
  (fSeq (fIfS (fTru (fOp gEq (fVar 1) (fLit (.int 1)))) (fSet 2 (fOfL (fLst (fConsA (fOp gIx (fVar 2) (fLit (.int 0))) (fConsA (fOp gIx (fVar 2) (fLit (.int 1))) (fConsA (fCall F__law_gmul (fConsA (fOp gIx (fVar 2) (fLit (.int 0))) (fConsA (fOp gIx (fVar 2) (fLit (.int 2))) fNilA))) (fConsA (fCall F__law_gmul (fConsA (fOp gIx (fVar 2) (fLit (.int 1))) (fConsA (fOp gIx (fVar 2) (fLit (.int 2))) fNilA))) fNilA))))))) fSkip)
  (fSeq (fIfS (fTru (fOp gEq (fVar 1) (fLit (.int 2)))) (fSet 2 (fOfL (fLst (fConsA (fOp gIx (fVar 2) (fLit (.int 0))) (fConsA (fTup (fConsA (fLit (.int 0)) (fConsA (fLit (.int 0)) fNilA))) (fConsA (fTup (fConsA (fLit (.int 0)) (fConsA (fLit (.int 0)) fNilA))) (fConsA (fOp gIx (fVar 2) (fLit (.int 0))) fNilA))))))) fSkip)
  (fSeq (fIfS (fTru (fOp gEq (fVar 1) (fLit (.int 3)))) (fSet 2 (fIf (fTru (fOp (gCmp fun i j => decide (j < i)) (fCall F__law_pull (fCelA 0 (fConsA (fLit (.int 3)) fNilA))) (fLit (.int 0)))) (fOfL (fLst (fConsA (fTup (fConsA (fLit (.int 1)) (fConsA (fLit (.int 0)) fNilA))) (fConsA (fTup (fConsA (fLit (.int 0)) (fConsA (fLit (.int 0)) fNilA))) (fConsA (fTup (fConsA (fLit (.int 0)) (fConsA (fLit (.int 0)) fNilA))) (fConsA (fTup (fConsA (fLit (.int 0)) (fConsA (fLit (.int 0)) fNilA))) fNilA)))))) (fRep (fLst (fConsA (fTup (fConsA (fLit (.int 0)) (fConsA (fLit (.int 0)) fNilA))) fNilA)) (fLit (.int 4))))) fSkip)
  (fRet (fTup (fConsA (fTup (fConsA (fOp gIx (fVar 2) (fLit (.int 0))) (fConsA (fOp gIx (fVar 2) (fLit (.int 1))) fNilA))) (fConsA (fTup (fConsA (fOp gIx (fVar 2) (fLit (.int 2))) (fConsA (fOp gIx (fVar 2) (fLit (.int 3))) fNilA))) fNilA)))))))))
def F__law_mat : FnS := mkF 1 4 1 b__law_mat
def b__law_arm : FS := (fSeq (fAsg (aTup 2 (aCons (aName 2) (aCons (aName 3) aNil))) (fTup (fConsA (fCall F__law_pull (fCelA 0 (fConsA (fLit (.int 5)) fNilA))) (fConsA (fCall F__law_gauss (fCelA 0 fNilA)) fNilA))))
  (fSeq (fIfS (fTru (fOp gEq (fVar 2) (fLit (.int 0)))) (fRet (fBi gTuple (fConsA (fOfL (fLc (fIt (fVar 1)) (aName 8) fYes (fBi gTuple (fConsA (fOfL (fLc (fIt (fVar 8)) (aName 9) fYes (fCall F__law_gmul (fConsA (fVar 3) (fConsA (fVar 9) fNilA))) [9])) fNilA)) [8])) fNilA))) fSkip)
  (fSeq (fIfS (fTru (fOp gEq (fVar 2) (fLit (.int 1)))) (fSeq (fAsg (aTup 2 (aCons (aTup 2 (aCons (aName 4) (aCons (aName 5) aNil))) (aCons (aTup 2 (aCons (aName 6) (aCons (aName 7) aNil))) aNil))) (fVar 1))
  (fRet (fTup (fConsA (fTup (fConsA (fCall F__law_gmul (fConsA (fTup (fConsA (fUn gNeg (fLit (.int 1))) (fConsA (fLit (.int 0)) fNilA))) (fConsA (fTup (fConsA (fOp gIx (fVar 6) (fLit (.int 0))) (fConsA (fUn gNeg (fOp gIx (fVar 6) (fLit (.int 1)))) fNilA))) fNilA))) (fConsA (fCall F__law_gmul (fConsA (fTup (fConsA (fUn gNeg (fLit (.int 1))) (fConsA (fLit (.int 0)) fNilA))) (fConsA (fTup (fConsA (fOp gIx (fVar 7) (fLit (.int 0))) (fConsA (fUn gNeg (fOp gIx (fVar 7) (fLit (.int 1)))) fNilA))) fNilA))) fNilA))) (fConsA (fTup (fConsA (fTup (fConsA (fOp gIx (fVar 4) (fLit (.int 0))) (fConsA (fUn gNeg (fOp gIx (fVar 4) (fLit (.int 1)))) fNilA))) (fConsA (fTup (fConsA (fOp gIx (fVar 5) (fLit (.int 0))) (fConsA (fUn gNeg (fOp gIx (fVar 5) (fLit (.int 1)))) fNilA))) fNilA))) fNilA))))) fSkip)
  (fRet (fIf (fTru (fOp gEq (fVar 2) (fLit (.int 2)))) (fTup (fConsA (fTup (fConsA (fTup (fConsA (fLit (.int 0)) (fConsA (fLit (.int 0)) fNilA))) (fConsA (fTup (fConsA (fLit (.int 0)) (fConsA (fLit (.int 0)) fNilA))) fNilA))) (fConsA (fTup (fConsA (fTup (fConsA (fLit (.int 0)) (fConsA (fLit (.int 0)) fNilA))) (fConsA (fTup (fConsA (fLit (.int 1)) (fConsA (fLit (.int 0)) fNilA))) fNilA))) fNilA))) (fCall F__law_mat (fCelA 0 fNilA)))))))
def F__law_arm : FnS := mkF 2 10 1 b__law_arm
def b__law_phase : FS := (fSeq (fSet 1 (fCall F__law_any (fCelA 0 (fConsA (fOfL (fLst (fConsA (fLit (.int 1)) (fConsA (fLit (.int 1)) (fConsA (fLit (.int 2)) (fConsA (fLit (.int 4)) (fConsA (fLit (.int 30)) fNilA))))))) fNilA))))
  (fSeq (fSet 2 (fTup (fConsA (fCall F__law_num (fCelA 0 (fConsA (fVar 1) fNilA))) (fConsA (fCall F__law_pull (fCelA 0 (fConsA (fOp gPlus (fVar 1) (fLit (.int 1))) fNilA))) fNilA))))
  (fRet (fIf (fTru (fOp gEq (fOp gIx (fVar 2) (fLit (.int 1))) (fLit (.int 0)))) (fTup (fConsA (fLit (.int 1)) (fConsA (fLit (.int 0)) fNilA))) (fCall F__law_thin (fConsA (fVar 2) fNilA))))))
def F__law_phase : FnS := mkF 1 3 1 b__law_phase
def b__law_joined : FS := (fSeq (fAsg (aTup 2 (aCons (aName 3) (aCons (aName 4) aNil))) (fVar 2))
  (fSeq (fAsg (aTup 2 (aCons (aName 5) (aCons (aName 6) aNil))) (fTup (fConsA (fTup (fConsA (fOp gPlus (fOp gMul (fVar 3) (fVar 3)) (fOp gMul (fVar 4) (fVar 4))) (fConsA (fLit (.int 0)) fNilA))) (fConsA (fTup (fConsA (fOp gSub (fOp gMul (fVar 4) (fVar 4)) (fOp gMul (fVar 3) (fVar 3))) (fConsA (fOp gMul (fOp gMul (fLit (.int 2)) (fVar 3)) (fVar 4)) fNilA))) fNilA))))
  (fRet (fBi gTuple (fConsA (fOfL (fLc (fRng1 (fConsA (fLit (.int 2)) fNilA)) (aName 7) fYes (fBi gTuple (fConsA (fOfL (fLc (fRng1 (fConsA (fLit (.int 2)) fNilA)) (aName 8) fYes (fCall F__law_gsum (fConsA (fCall F__law_gmul (fConsA (fVar 5) (fConsA (fOp gIx (fOp gIx (fVar 0) (fVar 7)) (fVar 8)) fNilA))) (fConsA (fCall F__law_gmul (fConsA (fVar 6) (fConsA (fOp gIx (fOp gIx (fVar 1) (fVar 7)) (fVar 8)) fNilA))) fNilA))) [8])) fNilA)) [7])) fNilA)))))
def F__law_joined : FnS := mkF 3 9 0 b__law_joined
def b__law_led : FS := (fRet (fBi gTuple (fConsA (fOfL (fLc (fIt (fVar 0)) (aName 2) fYes (fCall F__law_gsum (fConsA (fCall F__law_gmul (fConsA (fOp gIx (fVar 2) (fLit (.int 0))) (fConsA (fOp gIx (fVar 1) (fLit (.int 0))) fNilA))) (fConsA (fCall F__law_gmul (fConsA (fOp gIx (fVar 2) (fLit (.int 1))) (fConsA (fOp gIx (fVar 1) (fLit (.int 1))) fNilA))) fNilA))) [2])) fNilA)))
def F__law_led : FnS := mkF 2 3 0 b__law_led
def b__law_right_K51 : FS := (fSeq (fSet 1 (fCall F__law_mat (fCelA 0 fNilA)))
  (fSeq (fPar3 8 9 10 (fConsA (fCall F__law_arm (fCelA 0 (fConsA (fVar 1) fNilA))) (fConsA (fCall F__law_phase (fCelA 0 fNilA)) (fConsA (fOp gPlus (fLit (.int 1)) (fCall F__law_pull (fCelA 0 (fConsA (fLit (.int 5)) fNilA)))) fNilA))))
  (fSeq (fSet 2 (fOfL (fLc (fRng1 (fConsA (fOp gPlus (fLit (.int 1)) (fCall F__law_pull (fCelA 0 (fConsA (fLit (.int 2)) fNilA)))) fNilA)) (aName 17) fYes (fCall F__law_amp (fCelA 0 fNilA)) [17])))
  (fSeq (fAsg (aTup 4 (aCons (aName 11) (aCons (aName 12) (aCons (aName 13) (aCons (aName 14) aNil))))) (fTup (fConsA (fOp gPlus (fLit (.int 1)) (fCall F__law_pull (fCelA 0 (fConsA (fLit (.int 3)) fNilA)))) (fConsA (fOp gPlus (fOp gMul (fOp gIx (fVar 9) (fLit (.int 0))) (fOp gIx (fVar 9) (fLit (.int 0)))) (fOp gMul (fOp gIx (fVar 9) (fLit (.int 1))) (fOp gIx (fVar 9) (fLit (.int 1))))) (fConsA (fTup (fConsA (fLit (.int 0)) (fConsA (fLit (.int 0)) (fConsA (fLit (.int 0)) (fConsA (fLit (.int 0)) fNilA))))) (fConsA (fTup (fConsA (fLit (.int 0)) (fConsA (fLit (.int 0)) (fConsA (fLit (.int 0)) (fConsA (fLit (.int 0)) fNilA))))) fNilA))))))
  (fSeq (fSet 3 (fCall F__law_joined (fConsA (fVar 1) (fConsA (fVar 8) (fConsA (fVar 9) fNilA)))))
  (fSeq (fFor (fIt (fVar 2)) (aName 4) (fSeq (fSet 13 (fCall F__law_add (fConsA (fVar 13) (fConsA (fCall F__law_by_K51 (fConsA (fCall F__law_four (fConsA (fVar 4) fNilA)) (fConsA (fVar 11) fNilA))) fNilA))))
  (fSet 14 (fCall F__law_add (fConsA (fVar 14) (fConsA (fCall F__law_by_K51 (fConsA (fCall F__law_four (fConsA (fCall F__law_led (fConsA (fVar 3) (fConsA (fVar 4) fNilA))) fNilA)) (fConsA (fVar 11) fNilA))) fNilA))))))
  (fSeq (fPar 15 16 (fConsA (fCall F__law_thin (fConsA (fOp gPlus (fVar 13) (fTup (fConsA (fVar 10) fNilA))) fNilA)) (fConsA (fCall F__law_thin (fConsA (fOp gPlus (fVar 14) (fTup (fConsA (fOp gMul (fOp gMul (fVar 10) (fVar 12)) (fVar 12)) fNilA))) fNilA)) fNilA)))
  (fSeq (fSet 5 (fIf (fTru (fOp gEq (fVar 9) (fTup (fConsA (fLit (.int 1)) (fConsA (fLit (.int 0)) fNilA))))) (fTup (fConsA (fLit (.int 1)) (fConsA (fLit (.int 0)) fNilA))) (fTup (fConsA (fUn gNeg (fOp gIx (fVar 9) (fLit (.int 0)))) (fConsA (fOp gIx (fVar 9) (fLit (.int 1))) fNilA)))))
  (fSeq (fSet 6 (fOfL (fLst (fConsA (fCall F_beam_light (fConsA (fVar 1) (fConsA (fVar 8) (fConsA (fVar 15) (fConsA (fVar 9) fNilA))))) (fConsA (fCall F_beam_light (fPerm [3, 2, 1, 0] (fConsA (fVar 9) (fConsA (fVar 15) (fConsA (fVar 8) (fConsA (fVar 1) fNilA)))))) (fConsA (fCall F_beam_light (fConsA (fVar 8) (fConsA (fVar 1) (fConsA (fVar 15) (fConsA (fVar 5) fNilA))))) fNilA))))))
  (fSeq (fIfS (fTru (fOp gNe (fBi gRepr (fConsA (fVar 6) fNilA)) (fBi gRepr (fConsA (fRep (fLst (fConsA (fVar 16) fNilA)) (fLit (.int 3))) fNilA)))) (fRet (fLit (.bool false))) fSkip)
  (fSeq (fSet 7 (fCall F__law_frac (fConsA (fOp gIx (fVar 16) (fLit (.int 0))) (fConsA (fOp gIx (fVar 16) (fLit (.int 4))) fNilA))))
  (fSeq (fSet 6 (fOfL (fLst (fConsA (fCall F_beam_level (fConsA (fVar 1) (fConsA (fVar 8) (fConsA (fVar 15) (fConsA (fVar 9) fNilA))))) (fConsA (fCall F_beam_level (fPerm [3, 2, 1, 0] (fConsA (fVar 9) (fConsA (fVar 15) (fConsA (fVar 8) (fConsA (fVar 1) fNilA)))))) fNilA)))))
  (fRet (fOp gEq (fBi gRepr (fConsA (fVar 6) fNilA)) (fBi gRepr (fConsA (fOfL (fLst (fConsA (fVar 7) (fConsA (fVar 7) fNilA)))) fNilA))))))))))))))))
def F__law_right_K51 : FnS := mkF 1 18 1 b__law_right_K51
def b_law_K51 : FS := (fSeq (fFor (fRng1 (fConsA (fCall F__law_laps (fConsA (fVar 0) fNilA)) fNilA)) (aName 1) (fIfS (fNotT (fTru (fCallFr F__law_right_K51 (fCallL F__law_urn (fConsA (fVar 0) (fConsA (fVar 1) fNilA)))))) (fRet (fLit (.bool false))) fSkip))
  (fRet (fLit (.bool true))))
def F_law_K51 : FnS := mkF 1 2 0 b_law_K51
end PL


set_option Elab.async false
set_option linter.all false
set_option maxRecDepth 100000
set_option maxHeartbeats 400000
namespace PL
open PySem PySem.Spec L2 DL
open PyProof.Rows hiding St
def b_trimmed : FS := (fSeq (fSet 1 (fBi gLen (fConsA (fVar 0) fNilA)))
  (fSeq (fWhile (fAndT (fTru (fOp (gCmp fun i j => decide (j < i)) (fVar 1) (fLit (.int 0)))) (fTru (fOp gEq (fOp gIx (fVar 0) (fOp gSub (fVar 1) (fLit (.int 1)))) (fLit (.int 0))))) (fAug 1 (gAug fun i j => i - j) (fLit (.int 1))))
  (fRet (fBi gTuple (fConsA (fSl (fVar 0) fNoPart (fPart (fVar 1))) fNilA)))))
def F_trimmed : FnS := mkF 1 2 0 b_trimmed
def b_polynomial_product : FS := (fSeq (fNew 2 (fRepL (fLst (fConsA (fLit (.int 0)) fNilA)) (fOp gPlus (fBi gLen (fConsA (fVar 0) fNilA)) (fBi gLen (fConsA (fVar 1) fNilA)))))
  (fSeq (fFor (fEnum (fConsA (fVar 0) fNilA)) (aTup 2 (aCons (aName 3) (aCons (aName 4) aNil))) (fFor (fEnum (fConsA (fVar 1) fNilA)) (aTup 2 (aCons (aName 5) (aCons (aName 6) aNil))) (fAugC 2 (fOp gPlus (fVar 3) (fVar 5)) (gAug fun i j => i + j) (fOp gMul (fVar 4) (fVar 6)))))
  (fFrz 0 2 (fRet (fCall F_trimmed (fConsA (fVar 2) fNilA))))))
def F_polynomial_product : FnS := mkF 2 7 0 b_polynomial_product
def b_value_at : FS := (fSeq (fAsg (aTup 2 (aCons (aName 3) (aCons (aName 4) aNil))) (fTup (fConsA (fLit (.int 0)) (fConsA (fLit (.int 1)) fNilA))))
  (fSeq (fFor (fRev (fVar 0)) (aName 2) (fSeq (fSet 3 (fOp gPlus (fOp gMul (fVar 3) (fOp gIx (fVar 1) (fLit (.int 0)))) (fOp gMul (fVar 2) (fVar 4))))
  (fAug 4 gAugM (fOp gIx (fVar 1) (fLit (.int 1))))))
  (fRet (fVar 3))))
def F_value_at : FnS := mkF 2 5 0 b_value_at
def b_is_course : FS := (fRet (fAndV (fCall F_is_reduced_row (fConsA (fVar 0) (fConsA (fLit (.int 6)) fNilA))) (fOp (gCmp fun i j => decide (j < i)) (fOp gIx (fVar 0) (fLit (.int 5))) (fLit (.int 0)))))
def F_is_course : FnS := mkF 1 1 0 b_is_course
def b_check_course : FS := (fIfS (fNotT (fTru (fCall F_is_course (fConsA (fVar 0) fNilA)))) fNever fSkip)
def F_check_course : FnS := mkF 1 1 0 b_check_course
def b__length_of : FS := (fRet (fOp gPlus (fOp gMul (fOp gIx (fVar 0) (fLit (.int 0))) (fOp gIx (fVar 0) (fLit (.int 0)))) (fOp gMul (fOp gIx (fVar 0) (fLit (.int 1))) (fOp gIx (fVar 0) (fLit (.int 1))))))
def F__length_of : FnS := mkF 1 1 0 b__length_of
def b_level_at : FS := (fSeq (fDrop (fCall F_check_course (fConsA (fVar 0) fNilA)))
  (fSeq (fDrop (fCall F_check_setting (fConsA (fVar 1) fNilA)))
  (fSeq (fSet 2 (fCall F__length_of (fConsA (fVar 1) fNilA)))
  (fRet (fCall F_ratio (fConsA (fCall F_value_at (fConsA (fSl (fVar 0) fNoPart (fPart (fLit (.int 5)))) (fConsA (fVar 1) fNilA))) (fConsA (fOp gMul (fOp gMul (fOp gIx (fVar 0) (fLit (.int 5))) (fVar 2)) (fVar 2)) fNilA)))))))
def F_level_at : FnS := mkF 2 3 0 b_level_at
def b__power : FS := (fSeq (fSet 2 (fTup (fConsA (fLit (.int 1)) fNilA)))
  (fSeq (fFor (fRng1 (fConsA (fVar 1) fNilA)) (aName 3) (fSet 2 (fCall F_polynomial_product (fConsA (fVar 2) (fConsA (fVar 0) fNilA)))))
  (fRet (fVar 2))))
def F__power : FnS := mkF 2 4 0 b__power
def b__weighed_course : FS := (fSeq (fSet 2 (fLit (.int 1)))
  (fSeq (fFor (fIt (fVar 1)) (aName 3) (fSet 2 (fBi gLcm (fConsA (fVar 2) (fConsA (fOp gIx (fVar 3) (fLit (.int 1))) fNilA)))))
  (fSeq (fSet 4 (fTup (fConsA (fLit (.int 0)) (fConsA (fLit (.int 0)) (fConsA (fLit (.int 0)) (fConsA (fLit (.int 0)) (fConsA (fLit (.int 0)) fNilA)))))))
  (fSeq (fFor (fZip (fConsA (fVar 0) (fConsA (fVar 1) fNilA))) (aTup 2 (aCons (aName 5) (aCons (aName 3) aNil))) (fSeq (fSet 6 (fOfL (fLst (fStarA (fVar 5) (fStarA (fRep (fLst (fConsA (fLit (.int 0)) fNilA)) (fOp gSub (fLit (.int 5)) (fBi gLen (fConsA (fVar 5) fNilA)))) fNilA)))))
  (fSet 4 (fCall F_combined (fConsA (fLit (.int 1)) (fConsA (fVar 4) (fConsA (fOp gMul (fOp gIx (fVar 3) (fLit (.int 0))) (fOp gDiv (fVar 2) (fOp gIx (fVar 3) (fLit (.int 1))))) (fConsA (fVar 6) fNilA))))))))
  (fRet (fCall F_reduced (fConsA (fTup (fStarA (fVar 4) (fConsA (fVar 2) fNilA))) fNilA)))))))
def F__weighed_course : FnS := mkF 2 7 0 b__weighed_course
def b_turned_course : FS := (fSeq (fDrop (fCall F_check_course (fConsA (fVar 0) fNilA)))
  (fSeq (fDrop (fCall F_check_setting (fConsA (fVar 1) fNilA)))
  (fSeq (fAsg (aTup 2 (aCons (aName 5) (aCons (aName 6) aNil))) (fVar 1))
  (fSeq (fSet 2 (fCall F__length_of (fConsA (fVar 1) fNilA)))
  (fSeq (fSet 3 (fOp gMul (fOp gMul (fOp gIx (fVar 0) (fLit (.int 5))) (fVar 2)) (fVar 2)))
  (fSeq (fSet 4 (fOfL (fLc (fRng1 (fConsA (fLit (.int 5)) fNilA)) (aName 7) fYes (fCall F_polynomial_product (fConsA (fCall F__power (fConsA (fTup (fConsA (fVar 5) (fConsA (fVar 6) fNilA))) (fConsA (fVar 7) fNilA))) (fConsA (fCall F__power (fConsA (fTup (fConsA (fVar 6) (fConsA (fUn gNeg (fVar 5)) fNilA))) (fConsA (fOp gSub (fLit (.int 4)) (fVar 7)) fNilA))) fNilA))) [7])))
  (fRet (fCall F__weighed_course (fConsA (fVar 4) (fConsA (fOfL (fLc (fIt (fSl (fVar 0) fNoPart (fPart (fLit (.int 5))))) (aName 8) fYes (fCall F_ratio (fConsA (fVar 8) (fConsA (fVar 3) fNilA))) [8])) fNilA))))))))))
def F_turned_course : FnS := mkF 2 9 0 b_turned_course
def c__ROWS_OF_PARTS : PyData := (.tuple [(.tuple [(.int 3), (.int 0), (.int 1), (.int 0), (.int 3)]), (.tuple [(.int 4), (.int 0), (.int 0), (.int 0), (.int (-4))]), (.tuple [(.int 0), (.int 2), (.int 0), (.int 2), (.int 0)]), (.tuple [(.int 1), (.int 0), (.int (-1)), (.int 0), (.int 1)]), (.tuple [(.int 0), (.int 1), (.int 0), (.int (-1)), (.int 0)])])
def b_course_parts : FS := (fSeq (fDrop (fCall F_check_course (fConsA (fVar 0) fNilA)))
  (fRet (fBi gTuple (fConsA (fOfL (fLc (fIt (fLit c__ROWS_OF_PARTS)) (aName 1) fYes (fCall F_ratio (fConsA (fCall F_dot (fConsA (fVar 1) (fConsA (fSl (fVar 0) fNoPart (fPart (fLit (.int 5)))) fNilA))) (fConsA (fOp gMul (fLit (.int 8)) (fOp gIx (fVar 0) (fLit (.int 5)))) fNilA))) [1])) fNilA))))
def F_course_parts : FnS := mkF 1 2 0 b_course_parts
def b_setting_sum : FS := (fSeq (fDrop (fCall F_check_setting (fConsA (fVar 0) fNilA)))
  (fSeq (fDrop (fCall F_check_setting (fConsA (fVar 1) fNilA)))
  (fSeq (fAsg (aTup 2 (aCons (aName 2) (aCons (aName 3) aNil))) (fCall F_reduced (fConsA (fTup (fConsA (fOp gPlus (fOp gMul (fOp gIx (fVar 0) (fLit (.int 0))) (fOp gIx (fVar 1) (fLit (.int 1)))) (fOp gMul (fOp gIx (fVar 1) (fLit (.int 0))) (fOp gIx (fVar 0) (fLit (.int 1))))) (fConsA (fOp gSub (fOp gMul (fOp gIx (fVar 0) (fLit (.int 1))) (fOp gIx (fVar 1) (fLit (.int 1)))) (fOp gMul (fOp gIx (fVar 0) (fLit (.int 0))) (fOp gIx (fVar 1) (fLit (.int 0))))) fNilA))) fNilA)))
  (fSeq (fIfS (fOrT (fTru (fOp (gCmp fun i j => decide (i < j)) (fVar 3) (fLit (.int 0)))) (fAndT (fTru (fOp gEq (fVar 3) (fLit (.int 0)))) (fTru (fOp (gCmp fun i j => decide (i < j)) (fVar 2) (fLit (.int 0)))))) (fRet (fTup (fConsA (fUn gNeg (fVar 2)) (fConsA (fUn gNeg (fVar 3)) fNilA)))) fSkip)
  (fRet (fTup (fConsA (fVar 2) (fConsA (fVar 3) fNilA))))))))
def F_setting_sum : FnS := mkF 2 4 0 b_setting_sum
def b_setting_back : FS := (fSeq (fDrop (fCall F_check_setting (fConsA (fVar 0) fNilA)))
  (fRet (fIf (fTru (fOp gEq (fOp gIx (fVar 0) (fLit (.int 1))) (fLit (.int 0)))) (fVar 0) (fTup (fConsA (fUn gNeg (fOp gIx (fVar 0) (fLit (.int 0)))) (fConsA (fOp gIx (fVar 0) (fLit (.int 1))) fNilA))))))
def F_setting_back : FnS := mkF 1 1 0 b_setting_back
def b__law_source : FS := (fSeq (fSet 2 (fIf (fTru (fOp (gCmp fun i j => decide (i < j)) (fVar 1) (fBi gLen (fConsA (fVar 0) fNilA)))) (fBi gInt (fConsA (fOp gIx (fVar 0) (fVar 1)) fNilA)) (fOp gPlus (fOp gMul (fLit (.int 983)) (fVar 1)) (fLit (.int 57)))))
  (fSeq (fSet 3 (fOp gPlus (fLit (.int 60013)) (fOp gMul (fLit (.int 4001)) (fVar 1))))
  (fSeq (fFor (fIt (fSl (fVar 0) fNoPart (fPart (fLit (.int 8))))) (aName 4) (fSet 3 (fOp gMod (fBi gInt (fConsA (fOp gPlus (fOp gPlus (fOp gMul (fVar 3) (fLit (.int 48611))) (fOp gMod (fBi gInt (fConsA (fVar 4) fNilA)) (fLit (.int 2147483587)))) (fLit (.int 19))) fNilA)) (fLit (.int 2147483629)))))
  (fSeq (fSet 5 (fOp gMod (fBi gInt (fConsA (fOp gPlus (fOp gMul (fVar 3) (fLit (.int 83))) (fOp gMul (fOp gMod (fBi gInt (fConsA (fVar 2) fNilA)) (fLit (.int 2147483587))) (fLit (.int 20011)))) fNilA)) (fLit (.int 2147483629))))
  (fRetL (fLst (fConsA (fIf (fOrT (fTru (fOp (gCmp fun i j => decide (i < j)) (fVar 2) (fLit (.int 0)))) (fTru (fOp (gCmp fun i j => decide (j ≤ i)) (fVar 2) (fOp gPow (fLit (.int 10)) (fLit (.int 17)))))) (fBi gAbs (fConsA (fVar 2) fNilA)) (fLit (.int 0))) (fConsA (fVar 5) (fConsA (fLit (.int 0)) fNilA)))))))))
def F__law_source : FnS := mkF 2 6 0 b__law_source
def b__law_draw : FS := (fSeq (fIfS (fTru (fOp (gCmp fun i j => decide (j < i)) (fCix 0 (fLit (.int 0))) (fLit (.int 0)))) (fSeq (fSetc2 0 (fLit (.int 0)) 3 (fBi gDivmod (fConsA (fCix 0 (fLit (.int 0))) (fConsA (fVar 1) fNilA))))
  (fRet (fVar 3))) fSkip)
  (fSeq (fSetc 0 (fLit (.int 2)) (fOp gPlus (fCix 0 (fLit (.int 2))) (fLit (.int 1))))
  (fSeq (fSet 2 (fOp gMod (fBi gInt (fConsA (fOp gPlus (fOp gMul (fCix 0 (fLit (.int 1))) (fLit (.int 16807))) (fOp gMul (fCix 0 (fLit (.int 2))) (fLit (.int 65539)))) fNilA)) (fLit (.int 2147483587))))
  (fSeq (fSetc 0 (fLit (.int 1)) (fOp gMod (fBi gInt (fConsA (fOp gPlus (fOp gMul (fVar 2) (fOp gPlus (fOp gMul (fLit (.int 2)) (fOp gDiv (fVar 2) (fLit (.int 11)))) (fLit (.int 30011)))) (fCix 0 (fLit (.int 2)))) fNilA)) (fLit (.int 2147483629))))
  (fRet (fOp gMod (fBi gInt (fConsA (fOp gDiv (fCix 0 (fLit (.int 1))) (fLit (.int 257))) fNilA)) (fVar 1)))))))
def F__law_draw : FnS := mkF 2 4 1 b__law_draw
def b__law_pick_K36 : FS := (fRet (fOp gIx (fVar 1) (fCall F__law_draw (fCelA 0 (fConsA (fBi gLen (fConsA (fVar 1) fNilA)) fNilA)))))
def F__law_pick_K36 : FnS := mkF 2 2 1 b__law_pick_K36
def b__law_about : FS := (fRet (fOp gSub (fCall F__law_draw (fCelA 0 (fConsA (fOp gPlus (fOp gMul (fLit (.int 2)) (fVar 1)) (fLit (.int 1))) fNilA))) (fVar 1)))
def F__law_about : FnS := mkF 2 2 1 b__law_about
def b__law_common_K36 : FS := (fSeq (fSet 1 (fLit (.int 0)))
  (fSeq (fFor (fIt (fVar 0)) (aName 2) (fSeq (fPar 3 4 (fConsA (fVar 1) (fConsA (fBi gAbs (fConsA (fVar 2) fNilA)) fNilA)))
  (fSeq (fWhile (fTru (fOp gNe (fVar 4) (fLit (.int 0)))) (fPar 3 4 (fConsA (fVar 4) (fConsA (fOp gMod (fBi gInt (fConsA (fVar 3) fNilA)) (fVar 4)) fNilA))))
  (fSet 1 (fVar 3)))))
  (fRet (fVar 1))))
def F__law_common_K36 : FnS := mkF 1 5 0 b__law_common_K36
def b__law_low_K36 : FS := (fSeq (fSet 1 (fBi gMax (fConsA (fLit (.int 1)) (fConsA (fCall F__law_common_K36 (fConsA (fVar 0) fNilA)) fNilA))))
  (fRet (fBi gTuple (fConsA (fOfL (fLc (fIt (fVar 0)) (aName 2) fYes (fOp gDiv (fVar 2) (fVar 1)) [2])) fNilA))))
def F__law_low_K36 : FnS := mkF 1 3 0 b__law_low_K36
def b__law_ratio_K36 : FS := (fSeq (fSet 2 (fCall F__law_common_K36 (fConsA (fOfL (fLst (fConsA (fVar 0) (fConsA (fVar 1) fNilA)))) fNilA)))
  (fSeq (fSet 2 (fIf (fTru (fOp (gCmp fun i j => decide (j < i)) (fVar 1) (fLit (.int 0)))) (fVar 2) (fOp gSub (fLit (.int 0)) (fVar 2))))
  (fRet (fTup (fConsA (fOp gDiv (fVar 0) (fVar 2)) (fConsA (fOp gDiv (fVar 1) (fVar 2)) fNilA))))))
def F__law_ratio_K36 : FnS := mkF 2 3 0 b__law_ratio_K36
def b__law_slot : FS := (fSeq (fPar 1 2 (fConsA (fCall F__law_draw (fCelA 0 (fConsA (fLit (.int 4)) fNilA))) (fConsA (fCall F__law_pick_K36 (fCelA 0 (fConsA (fTup (fConsA (fLit (.int 1)) (fConsA (fLit (.int 2)) (fConsA (fLit (.int 3)) (fConsA (fLit (.int 9)) (fConsA (fLit (.int 100)) fNilA)))))) fNilA))) fNilA)))
  (fSeq (fIfS (fTru (fOp gEq (fVar 1) (fLit (.int 0)))) (fRet (fCall F__law_pick_K36 (fCelA 0 (fConsA (fTup (fConsA (fTup (fConsA (fLit (.int 0)) (fConsA (fLit (.int 1)) fNilA))) (fConsA (fTup (fConsA (fLit (.int 1)) (fConsA (fLit (.int 0)) fNilA))) (fConsA (fTup (fConsA (fLit (.int 1)) (fConsA (fLit (.int 1)) fNilA))) (fConsA (fTup (fConsA (fUn gNeg (fLit (.int 1))) (fConsA (fLit (.int 1)) fNilA))) fNilA))))) fNilA)))) fSkip)
  (fRet (fCall F__law_low_K36 (fConsA (fTup (fConsA (fCall F__law_about (fCelA 0 (fConsA (fVar 2) fNilA))) (fConsA (fOp gPlus (fLit (.int 1)) (fCall F__law_draw (fCelA 0 (fConsA (fVar 2) fNilA)))) fNilA))) fNilA)))))
def F__law_slot : FnS := mkF 1 3 1 b__law_slot
def b__law_signed : FS := (fSeq (fAsg (aTup 2 (aCons (aName 1) (aCons (aName 2) aNil))) (fCall F__law_low_K36 (fConsA (fVar 0) fNilA)))
  (fSeq (fIfS (fTru (fOp gEq (fVar 2) (fLit (.int 0)))) (fRet (fTup (fConsA (fLit (.int 1)) (fConsA (fLit (.int 0)) fNilA)))) fSkip)
  (fRet (fIf (fTru (fOp (gCmp fun i j => decide (j < i)) (fVar 2) (fLit (.int 0)))) (fTup (fConsA (fVar 1) (fConsA (fVar 2) fNilA))) (fTup (fConsA (fOp gSub (fLit (.int 0)) (fVar 1)) (fConsA (fOp gSub (fLit (.int 0)) (fVar 2)) fNilA)))))))
def F__law_signed : FnS := mkF 1 3 0 b__law_signed
def b__law_summed : FS := (fRet (fCall F__law_signed (fConsA (fTup (fConsA (fOp gPlus (fOp gMul (fOp gIx (fVar 0) (fLit (.int 0))) (fOp gIx (fVar 1) (fLit (.int 1)))) (fOp gMul (fOp gIx (fVar 1) (fLit (.int 0))) (fOp gIx (fVar 0) (fLit (.int 1))))) (fConsA (fOp gSub (fOp gMul (fOp gIx (fVar 0) (fLit (.int 1))) (fOp gIx (fVar 1) (fLit (.int 1)))) (fOp gMul (fOp gIx (fVar 0) (fLit (.int 0))) (fOp gIx (fVar 1) (fLit (.int 0))))) fNilA))) fNilA)))
def F__law_summed : FnS := mkF 2 2 0 b__law_summed
def b__law_form : FS := (fSeq (fAsg (aTup 2 (aCons (aName 3) (aCons (aName 4) aNil))) (fVar 1))
  (fSeq (fSet 2 (fOp gPlus (fOp gPlus (fOp gMul (fOp gMul (fOp gIx (fVar 0) (fLit (.int 0))) (fVar 4)) (fVar 4)) (fOp gMul (fOp gMul (fOp gIx (fVar 0) (fLit (.int 1))) (fVar 3)) (fVar 4))) (fOp gMul (fOp gMul (fOp gIx (fVar 0) (fLit (.int 2))) (fVar 3)) (fVar 3))))
  (fRet (fOp gPlus (fOp gMul (fOp gMul (fVar 2) (fVar 4)) (fVar 4)) (fOp gMul (fOp gMul (fOp gMul (fOp gPlus (fOp gMul (fOp gIx (fVar 0) (fLit (.int 3))) (fVar 4)) (fOp gMul (fOp gIx (fVar 0) (fLit (.int 4))) (fVar 3))) (fVar 3)) (fVar 3)) (fVar 3))))))
def F__law_form : FnS := mkF 2 5 0 b__law_form
def b__law_at_K36 : FS := (fSeq (fSet 2 (fOp gPlus (fOp gMul (fOp gIx (fVar 1) (fLit (.int 0))) (fOp gIx (fVar 1) (fLit (.int 0)))) (fOp gMul (fOp gIx (fVar 1) (fLit (.int 1))) (fOp gIx (fVar 1) (fLit (.int 1))))))
  (fRet (fCall F__law_ratio_K36 (fConsA (fCall F__law_form (fConsA (fVar 0) (fConsA (fVar 1) fNilA))) (fConsA (fOp gMul (fOp gMul (fOp gIx (fVar 0) (fLit (.int 5))) (fVar 2)) (fVar 2)) fNilA)))))
def F__law_at_K36 : FnS := mkF 2 3 0 b__law_at_K36
def b__law_quad : FS := (fSeq (fPar 1 2 (fConsA (fCall F__law_draw (fCelA 0 (fConsA (fLit (.int 5)) fNilA))) (fConsA (fCall F__law_pick_K36 (fCelA 0 (fConsA (fTup (fConsA (fLit (.int 1)) (fConsA (fLit (.int 2)) (fConsA (fLit (.int 3)) (fConsA (fLit (.int 7)) fNilA))))) fNilA))) fNilA)))
  (fSeq (fPar3 3 4 5 (fConsA (fCall F__law_about (fCelA 0 (fConsA (fVar 2) fNilA))) (fConsA (fCall F__law_about (fCelA 0 (fConsA (fVar 2) fNilA))) (fConsA (fCall F__law_about (fCelA 0 (fConsA (fVar 2) fNilA))) fNilA))))
  (fSeq (fIfS (fTru (fOp gEq (fVar 1) (fLit (.int 0)))) (fRet (fTup (fConsA (fOp gMul (fVar 3) (fVar 3)) (fConsA (fOp gMul (fOp gMul (fLit (.int 2)) (fVar 3)) (fVar 4)) (fConsA (fOp gMul (fVar 4) (fVar 4)) fNilA))))) fSkip)
  (fSeq (fIfS (fTru (fOp gEq (fVar 1) (fLit (.int 1)))) (fRet (fTup (fConsA (fOp gMul (fVar 3) (fVar 4)) (fConsA (fOp gPlus (fOp gMul (fVar 3) (fVar 5)) (fVar 4)) (fConsA (fVar 5) fNilA))))) fSkip)
  (fRet (fIf (fTru (fOp (gCmp fun i j => decide (i < j)) (fVar 1) (fLit (.int 4)))) (fTup (fConsA (fVar 3) (fConsA (fVar 4) (fConsA (fVar 5) fNilA)))) (fTup (fConsA (fOp gPlus (fLit (.int 1)) (fOp gMul (fVar 3) (fVar 3))) (fConsA (fOp gSub (fLit (.int 0)) (fOp gMul (fLit (.int 2)) (fVar 3))) (fConsA (fLit (.int 1)) fNilA))))))))))
def F__law_quad : FnS := mkF 1 6 1 b__law_quad
def b__law_folded : FS := (fRet (fOfL (fLst (fConsA (fOp gMul (fOp gIx (fVar 0) (fLit (.int 0))) (fOp gIx (fVar 1) (fLit (.int 0)))) (fConsA (fOp gPlus (fOp gMul (fOp gIx (fVar 0) (fLit (.int 0))) (fOp gIx (fVar 1) (fLit (.int 1)))) (fOp gMul (fOp gIx (fVar 0) (fLit (.int 1))) (fOp gIx (fVar 1) (fLit (.int 0))))) (fConsA (fOp gPlus (fOp gPlus (fOp gMul (fOp gIx (fVar 0) (fLit (.int 0))) (fOp gIx (fVar 1) (fLit (.int 2)))) (fOp gMul (fOp gIx (fVar 0) (fLit (.int 1))) (fOp gIx (fVar 1) (fLit (.int 1))))) (fOp gMul (fOp gIx (fVar 0) (fLit (.int 2))) (fOp gIx (fVar 1) (fLit (.int 0))))) (fConsA (fOp gPlus (fOp gMul (fOp gIx (fVar 0) (fLit (.int 1))) (fOp gIx (fVar 1) (fLit (.int 2)))) (fOp gMul (fOp gIx (fVar 0) (fLit (.int 2))) (fOp gIx (fVar 1) (fLit (.int 1))))) (fConsA (fOp gMul (fOp gIx (fVar 0) (fLit (.int 2))) (fOp gIx (fVar 1) (fLit (.int 2)))) fNilA))))))))
def F__law_folded : FnS := mkF 2 2 0 b__law_folded
def b__law_course : FS := (fSeq (fPar3 5 6 7 (fConsA (fCall F__law_draw (fCelA 0 (fConsA (fLit (.int 6)) fNilA))) (fConsA (fCall F__law_about (fCelA 0 (fConsA (fLit (.int 6)) fNilA))) (fConsA (fOp gPlus (fLit (.int 1)) (fCall F__law_draw (fCelA 0 (fConsA (fLit (.int 5)) fNilA)))) fNilA))))
  (fSeq (fSet 1 (fCall F__law_quad (fCelA 0 fNilA)))
  (fSeq (fSet 2 (fIf (fTru (fOp (gCmp fun i j => decide (i < j)) (fVar 5) (fLit (.int 2)))) (fVar 1) (fCall F__law_quad (fCelA 0 fNilA))))
  (fSeq (fSet 3 (fCall F__law_folded (fConsA (fVar 1) (fConsA (fVar 2) fNilA))))
  (fSeq (fIfS (fTru (fOp gEq (fVar 5) (fLit (.int 1)))) (fSet 3 (fOfL (fLc (fIt (fVar 3)) (aName 8) fYes (fOp gSub (fLit (.int 0)) (fVar 8)) [8]))) fSkip)
  (fSeq (fIfS (fTru (fOp gEq (fVar 5) (fLit (.int 5)))) (fSet 3 (fOfL (fLc (fRng1 (fConsA (fLit (.int 5)) fNilA)) (aName 9) fYes (fCall F__law_about (fCelA 0 (fConsA (fLit (.int 9)) fNilA))) [9]))) fSkip)
  (fSeq (fSet 4 (fOfL (fLst (fConsA (fVar 6) (fConsA (fLit (.int 0)) (fConsA (fOp gMul (fLit (.int 2)) (fVar 6)) (fConsA (fLit (.int 0)) (fConsA (fVar 6) fNilA))))))))
  (fRet (fTup (fConsA (fCall F__law_low_K36 (fConsA (fOp gPlus (fOfL (fLc (fRng1 (fConsA (fLit (.int 5)) fNilA)) (aName 9) fYes (fOp gPlus (fOp gIx (fVar 3) (fVar 9)) (fOp gIx (fVar 4) (fVar 9))) [9])) (fOfL (fLst (fConsA (fVar 7) fNilA)))) fNilA)) (fConsA (fCall F__law_ratio_K36 (fConsA (fVar 6) (fConsA (fVar 7) fNilA))) fNilA)))))))))))
def F__law_course : FnS := mkF 1 10 1 b__law_course
def b__law_is_turned : FS := (fSeq (fIfS (fOrT (fNotT (fTru (fUn (gIsi "tuple") (fVar 0)))) (fOrT (fTru (fOp gNe (fBi gLen (fConsA (fVar 0) fNilA)) (fLit (.int 6)))) (fNotT (fTru (fCall F_is_course (fConsA (fVar 0) fNilA)))))) (fRet (fLit (.bool false))) fSkip)
  (fSeq (fIfS (fTru (fOp gNe (fOfL (fLc (fIt (fVar 0)) (aName 6) (fOrT (fNotT (fTru (fUn (gIsi "int") (fVar 6)))) (fTru (fUn (gIsi "bool") (fVar 6)))) (fVar 6) [6])) (fOfL (fLst fNilA)))) (fRet (fLit (.bool false))) fSkip)
  (fSeq (fIfS (fOrT (fTru (fOp (gCmp fun i j => decide (i < j)) (fOp gIx (fVar 0) (fLit (.int 5))) (fLit (.int 1)))) (fTru (fOp gNe (fCall F__law_low_K36 (fConsA (fVar 0) fNilA)) (fVar 0)))) (fRet (fLit (.bool false))) fSkip)
  (fSeq (fFor (fIt (fTup (fConsA (fTup (fConsA (fLit (.int 0)) (fConsA (fLit (.int 1)) fNilA))) (fConsA (fTup (fConsA (fLit (.int 1)) (fConsA (fLit (.int 1)) fNilA))) (fConsA (fTup (fConsA (fUn gNeg (fLit (.int 1))) (fConsA (fLit (.int 1)) fNilA))) (fConsA (fTup (fConsA (fLit (.int 1)) (fConsA (fLit (.int 0)) fNilA))) (fConsA (fTup (fConsA (fLit (.int 1)) (fConsA (fLit (.int 2)) fNilA))) (fConsA (fVar 3) fNilA)))))))) (aName 4) (fSeq (fSet 5 (fCall F__law_at_K36 (fConsA (fVar 1) (fConsA (fCall F__law_summed (fConsA (fVar 4) (fConsA (fVar 2) fNilA))) fNilA))))
  (fIfS (fOrT (fTru (fOp gNe (fCall F__law_at_K36 (fConsA (fVar 0) (fConsA (fVar 4) fNilA))) (fVar 5))) (fTru (fOp gNe (fBi gRepr (fConsA (fCall F_level_at (fConsA (fVar 0) (fConsA (fVar 4) fNilA))) fNilA)) (fBi gRepr (fConsA (fVar 5) fNilA))))) (fRet (fLit (.bool false))) fSkip)))
  (fRet (fLit (.bool true)))))))
def F__law_is_turned : FnS := mkF 4 7 0 b__law_is_turned
def b__law_right_K36 : FS := (fSeq (fSet 1 (fOp gIx (fCall F__law_course (fCelA 0 fNilA)) (fLit (.int 0))))
  (fSeq (fPar 4 5 (fConsA (fCall F__law_slot (fCelA 0 fNilA)) (fConsA (fCall F__law_slot (fCelA 0 fNilA)) fNilA)))
  (fSeq (fPar3 6 7 8 (fConsA (fCall F_turned_course (fConsA (fVar 1) (fConsA (fVar 4) fNilA))) (fConsA (fCall F__law_slot (fCelA 0 fNilA)) (fConsA (fCall F__law_summed (fConsA (fVar 4) (fConsA (fVar 5) fNilA))) fNilA))))
  (fSeq (fIfS (fOrT (fNotT (fTru (fCall F__law_is_turned (fConsA (fVar 6) (fConsA (fVar 1) (fConsA (fVar 4) (fConsA (fVar 7) fNilA))))))) (fNotT (fTru (fCall F__law_is_turned (fConsA (fCall F_turned_course (fConsA (fVar 6) (fConsA (fVar 5) fNilA))) (fConsA (fVar 1) (fConsA (fVar 8) (fConsA (fVar 7) fNilA)))))))) (fRet (fLit (.bool false))) fSkip)
  (fSeq (fSet 2 (fCall F_turned_course (fConsA (fCall F_turned_course (fConsA (fVar 1) (fConsA (fVar 5) fNilA))) (fConsA (fVar 4) fNilA))))
  (fSeq (fSet 3 (fOfL (fLst (fConsA (fCall F_turned_course (fPerm [1, 0] (fConsA (fVar 4) (fConsA (fVar 1) fNilA)))) (fConsA (fCall F_turned_course (fConsA (fVar 1) (fConsA (fTup (fConsA (fLit (.int 0)) (fConsA (fLit (.int 1)) fNilA))) fNilA))) (fConsA (fCall F_turned_course (fConsA (fVar 6) (fConsA (fCall F_setting_back (fConsA (fVar 4) fNilA)) fNilA))) fNilA))))))
  (fSeq (fIfS (fOrT (fTru (fOp gNe (fBi gRepr (fConsA (fVar 3) fNilA)) (fBi gRepr (fConsA (fOfL (fLst (fConsA (fVar 6) (fConsA (fVar 1) (fConsA (fVar 1) fNilA))))) fNilA)))) (fTru (fOp gNe (fBi gRepr (fConsA (fCall F_turned_course (fConsA (fVar 1) (fConsA (fCall F_setting_sum (fConsA (fVar 4) (fConsA (fVar 5) fNilA))) fNilA))) fNilA)) (fBi gRepr (fConsA (fVar 2) fNilA))))) (fRet (fLit (.bool false))) fSkip)
  (fRet (fOp gEq (fBi gRepr (fConsA (fOp gIx (fCall F_course_parts (fConsA (fVar 6) fNilA)) (fLit (.int 0))) fNilA)) (fBi gRepr (fConsA (fCall F__law_ratio_K36 (fConsA (fOp gPlus (fOp gPlus (fOp gMul (fLit (.int 3)) (fOp gIx (fVar 1) (fLit (.int 0)))) (fOp gIx (fVar 1) (fLit (.int 2)))) (fOp gMul (fLit (.int 3)) (fOp gIx (fVar 1) (fLit (.int 4))))) (fConsA (fOp gMul (fLit (.int 8)) (fOp gIx (fVar 1) (fLit (.int 5)))) fNilA))) fNilA)))))))))))
def F__law_right_K36 : FnS := mkF 1 9 1 b__law_right_K36
def b_law_K36 : FS := (fRet (fBi gAll (fConsA (fOfL (fLc (fRng1 (fConsA (fBi gMax (fConsA (fLit (.int 2)) (fConsA (fBi gMin (fConsA (fBi gLen (fConsA (fVar 0) fNilA)) (fConsA (fLit (.int 4)) fNilA))) fNilA))) fNilA)) (aName 1) fYes (fCallFr F__law_right_K36 (fCallL F__law_source (fConsA (fVar 0) (fConsA (fVar 1) fNilA)))) [1])) fNilA)))
def F_law_K36 : FnS := mkF 1 2 0 b_law_K36
end PL


set_option Elab.async false
set_option linter.all false
set_option maxRecDepth 100000
set_option maxHeartbeats 4000000
set_option exponentiation.threshold 20000
namespace PL
open PySem PySem.Spec L2 DL
local macro_rules | `(tactic| simp! [$as,*]) => `(tactic| simp only [fThaw, fThawT, fThawL, thawD, thawO, noL, noLAll, fAug, gAug, fRev, fFnA, fCallV, fBot, fZip, zipD, gSum, intsOf, List.foldl_cons, List.foldl_nil, mkF, fRet, fRetL, fRetN, fSkip, fSeq, fNever, fSet, fAsg, fNew, fIfS, fDrop, fPar, fPar3, fSetc, fSetc2, fVar, fLit, fOp, fUn, fTup, fTup.datsOf, fLst, fNilA, fConsA, fStarA, fCelA, fOfL, fTru, fAndT, fOrT, fNotT, fAndV, fOrV, fNotV, fIf, fBi, fCall, fCallL, fCallFr, fPerm, callF, celOf, celsOk, norm, aName, aNil, aCons, aTup, setD, fSl, fIt, fItL, fItT, fFor, forGo, fLc, lcGo, fYes, wipeD, fCix, fList, fSlL, fPart, fNoPart, fChain, List.length_cons, List.length_nil, List.getElem?_cons_zero, List.getElem?_cons_succ, List.getElem?_nil, List.set_cons_zero, List.set_cons_succ, List.map_cons, List.map_nil, List.cons_append, List.nil_append, List.append_nil, List.replicate, List.take_zero, List.take_nil, List.take_succ_cons, ↓bsome, ↓msome, Option.bind_some, Option.map_some, Option.bind_none, Option.map_none, Nat.sub_self, Int.cast_ofNat_Int, Nat.reduceAdd, Nat.reduceMul, Nat.reduceSub, Nat.reduceLeDiff, Nat.reduceLT, Nat.zero_add, Nat.add_zero, and_self, and_true, true_and, if_true, if_false, ↓reduceIte, ite_true, Bool.true_eq_false, Bool.false_eq_true, beq_self_eq_true, Bool.and_self, Bool.not_true, Bool.not_false, decide_true, decide_false, gLen, gTyIs, gTyNot, tyOf, gNeg, gPlus, DL.gSub, gCmp, gInt, gAbs, gTuple, gMax, gMin, gGcd, LIM, gIx, $as,*])
local macro_rules | `(tactic| simpa! [$as,*]) => `(tactic| simp (maxDischargeDepth := 40) only [fThaw, fThawT, fThawL, thawD, thawO, noL, noLAll, fAug, gAug, fRev, fFnA, fCallV, fBot, fZip, zipD, gSum, intsOf, List.foldl_cons, List.foldl_nil, mkF, fRet, fRetL, fRetN, fSkip, fSeq, fNever, fSet, fAsg, fNew, fIfS, fDrop, fPar, fPar3, fSetc, fSetc2, fVar, fLit, fOp, fUn, fTup, fTup.datsOf, fLst, fNilA, fConsA, fStarA, fCelA, fOfL, fTru, fAndT, fOrT, fNotT, fAndV, fOrV, fNotV, fIf, fBi, fCall, fCallL, fCallFr, fPerm, callF, celOf, celsOk, norm, aName, aNil, aCons, aTup, setD, fSl, fIt, fItL, fItT, fFor, forGo, fLc, lcGo, fYes, wipeD, fCix, fList, fSlL, fPart, fNoPart, fChain, List.length_cons, List.length_nil, List.getElem?_cons_zero, List.getElem?_cons_succ, List.getElem?_nil, List.set_cons_zero, List.set_cons_succ, List.map_cons, List.map_nil, List.cons_append, List.nil_append, List.append_nil, List.replicate, List.take_zero, List.take_nil, List.take_succ_cons, ↓bsome, ↓msome, Option.bind_some, Option.map_some, Option.bind_none, Option.map_none, Nat.sub_self, Int.cast_ofNat_Int, Nat.reduceAdd, Nat.reduceMul, Nat.reduceSub, Nat.reduceLeDiff, Nat.reduceLT, Nat.zero_add, Nat.add_zero, and_self, and_true, true_and, if_true, if_false, ↓reduceIte, ite_true, Bool.true_eq_false, Bool.false_eq_true, beq_self_eq_true, Bool.and_self, Bool.not_true, Bool.not_false, decide_true, decide_false, gLen, gTyIs, gTyNot, tyOf, gNeg, gPlus, DL.gSub, gCmp, gInt, gAbs, gTuple, gMax, gMin, gGcd, LIM, gIx, ix1_0, ix2_0, ix2_1, ix3_0, ix3_1, ix3_2, ix4_0, ix4_1, ix4_2, ix4_3, ix5_0, ix5_1, ix5_2, ix5_3, ix5_4, ix6_0, ix6_1, ix6_2, ix6_3, ix6_4, ix6_5, cut5_04, cut5_14, cut4_04, cut4_03, cut4_14, Sm.mul, Sm.add, Sm.sub, Sm.neg, Sm.div, Sm.lit, sz_0, sz_1, sz_2, sz_3, sz_4, sz_8, Nat.reduceDiv, Nat.reduceSub, Nat.reduceLT, Nat.reduceLeDiff, Int.reduceLT, Int.reduceNeg, Int.mul_pos, gMul_ok, gDiv_ok, gMod_ok, $as,*])
/-! a while loop with less fuel -/
theorem wh_mono {t : FT} {b : FS} : ∀ (n m : Nat) (st : Sta) (o : Out), whileGo t b n st = some o → n ≤ m → whileGo t b m st = some o
  | 0, _, _, _, h, _ => by cases h
  | n + 1, 0, _, _, _, hm => absurd hm (by omega)
  | n + 1, m + 1, st, o, h, hm => by
    unfold whileGo at h ⊢
    cases ht : t st with
    | none => rw [ht] at h; cases h
    | some p =>
      rw [ht] at h
      simp only [Option.bind_some] at h ⊢
      by_cases hp : p.1 = true
      · rw [if_pos hp] at h ⊢
        cases hb : b ⟨st.ds, p.2⟩ with
        | none => rw [hb] at h; cases h
        | some o2 =>
          rw [hb] at h
          cases o2 with
          | nx st2 => exact wh_mono n m st2 o h (by omega)
          | ct st2 => exact wh_mono n m st2 o h (by omega)
          | bk st2 => exact h
          | rt r c => exact h
      · rw [if_neg hp] at h ⊢
        exact h
theorem wh_ok {t : FT} {b : FS} {n : Nat} {st : Sta} {o : Out} (h : whileGo t b n st = some o) (hn : n ≤ 2 ^ 10000) : fWhile t b st = some o := wh_mono n _ st o h hn
/-! the law's own greatest divisor, by a while -/
abbrev GwT : FT := (fTru (fOp gNe (fVar 4) (fLit (.int 0))))
abbrev GwB : FS := (fPar 3 4 (fConsA (fVar 4) (fConsA (fOp gMod (fBi gInt (fConsA (fVar 3) fNilA)) (fVar 4)) fNilA)))
abbrev gSt (x0 x1 x2 : Option SV) (p q : Nat) : Sta := ⟨[x0, x1, x2, some (.dat (.int (p : Nat))), some (.dat (.int (q : Nat)))], []⟩
theorem gw_t (x0 x1 x2 : Option SV) (p q : Nat) : GwT (gSt x0 x1 x2 p q) = some (!((q : Int) == 0), []) := by
  simp! [gNe_int]
theorem gw_b (x0 x1 x2 : Option SV) (p q : Nat) (hq : q ≠ 0) : GwB (gSt x0 x1 x2 p q) = some (.nx (gSt x0 x1 x2 q (p % q))) := by
  have hm : (0 : Int) < q := by omega
  have hd : gMod (.int (p : Int)) (.int (q : Int)) = some (.int ((p % q : Nat) : Int)) := gMod_ok hm
  simp! [hd]
theorem gw_go (x0 x1 x2 : Option SV) : ∀ (n q p : Nat), q ≤ n → whileGo GwT GwB (n + 1) (gSt x0 x1 x2 p q) = some (.nx (gSt x0 x1 x2 (Nat.gcd p q) 0))
  | n, 0, p, _ => by
    have h := gw_t x0 x1 x2 p 0
    unfold whileGo
    rw [h, Nat.gcd_zero_right]
    rfl
  | 0, q + 1, p, h => absurd h (by omega)
  | n + 1, q + 1, p, h => by
    have ht := gw_t x0 x1 x2 p (q + 1)
    have hb := gw_b x0 x1 x2 p (q + 1) (by omega)
    have hq' : (!(((q + 1 : Nat) : Int) == 0)) = true := by
      rw [beq_eq_false_iff_ne.mpr (by omega)]; rfl
    rw [hq'] at ht
    have eg : Nat.gcd p (q + 1) = Nat.gcd (q + 1) (p % (q + 1)) := by rw [Nat.gcd_comm p (q + 1), Nat.gcd_rec (q + 1) p, Nat.gcd_comm]
    have ih := gw_go x0 x1 x2 n (p % (q + 1)) (q + 1) (by have := Nat.mod_lt p (show 0 < q + 1 by omega); omega)
    unfold whileGo
    rw [ht]
    simp only [Option.bind_some, if_true]
    have hb' : GwB ⟨(gSt x0 x1 x2 p (q + 1)).ds, []⟩ = some (.nx (gSt x0 x1 x2 (q + 1) (p % (q + 1)))) := hb
    rw [hb', eg]
    exact ih
abbrev CwB : FS := (fSeq (fPar 3 4 (fConsA (fVar 1) (fConsA (fBi gAbs (fConsA (fVar 2) fNilA)) fNilA))) (fSeq (fWhile GwT GwB) (fSet 1 (fVar 3))))
theorem cw_1 (x0 x3 x4 : Option SV) (g : Nat) (x : Int) (h : Sm 9000 x) : CwB ⟨[x0, some (.dat (.int (g : Nat))), some (.dat (.int x)), x3, x4], []⟩ = some (.nx ⟨[x0, some (.dat (.int ((Nat.gcd g x.natAbs : Nat) : Int))), some (.dat (.int x)), some (.dat (.int ((Nat.gcd g x.natAbs : Nat) : Int))), some (.dat (.int (0 : Nat)))], []⟩) := by
  have a1 : (fPar 3 4 (fConsA (fVar 1) (fConsA (fBi gAbs (fConsA (fVar 2) fNilA)) fNilA))) ⟨[x0, some (.dat (.int (g : Nat))), some (.dat (.int x)), x3, x4], []⟩ = some (.nx (gSt x0 (some (.dat (.int (g : Nat)))) (some (.dat (.int x))) g x.natAbs)) := by
    have ea : (if x < 0 then -x else x) = ((x.natAbs : Nat) : Int) := by split <;> omega
    simp! [ea]
  have hn : x.natAbs + 1 ≤ 2 ^ 10000 := by
    have h1 : x.natAbs < 2 ^ 9000 := h
    have h2 : (2 : Nat) ^ 9000 ≤ 2 ^ 10000 := Nat.pow_le_pow_right (by decide) (by decide)
    omega
  have a2 := wh_ok (gw_go x0 (some (.dat (.int (g : Nat)))) (some (.dat (.int x))) x.natAbs x.natAbs g (Nat.le_refl _)) hn
  refine (seq_nx a1).trans ((seq_nx a2).trans ?_)
  simp! []
theorem cw_for (x0 : Option SV) : ∀ (v : List Int) (g : Nat) (x2 x3 x4 : Option SV), (∀ x ∈ v, Sm 9000 x) → ∃ y2 y3 y4, forGo (aName 2) CwB (v.map .int) ⟨[x0, some (.dat (.int (g : Nat))), x2, x3, x4], []⟩ = some (.nx ⟨[x0, some (.dat (.int ((Nat.gcd g (gL v) : Nat) : Int))), y2, y3, y4], []⟩)
  | [], g, x2, x3, x4, _ => ⟨x2, x3, x4, by simp [forGo, gL]⟩
  | x :: v, g, x2, x3, x4, h => by
    have e := cw_1 x0 x3 x4 g x (h x List.mem_cons_self)
    obtain ⟨y2, y3, y4, ih⟩ := cw_for x0 v (Nat.gcd g x.natAbs) (some (.dat (.int x))) (some (.dat (.int ((Nat.gcd g x.natAbs : Nat) : Int)))) (some (.dat (.int (0 : Nat)))) fun y m => h y (List.mem_cons_of_mem _ m)
    refine ⟨y2, y3, y4, ?_⟩
    rw [Nat.gcd_assoc] at ih
    generalize CwB = b at e ih ⊢
    simp only [List.map_cons, forGo, aName, setD, List.set_cons_succ, List.set_cons_zero, Option.bind_some, e]
    exact ih
theorem w_common {v : List Int} {r : PyData} (h : IsRow v r) (hs : ∀ x ∈ v, Sm 9000 x) : F__law_common_K36 [.dat r] [] = some (.dat (.int (gL v : Nat)), []) := by
  obtain ⟨y2, y3, y4, e⟩ := cw_for (some (.dat r)) v 0 none none none hs
  rw [Nat.gcd_zero_left] at e
  have e0 : b__law_common_K36 = (fSeq (fSet 1 (fLit (.int (0 : Nat)))) (fSeq (fFor (fIt (fVar 0)) (aName 2) CwB) (fRet (fVar 1)))) := rfl
  generalize CwB = b at e e0
  cases h <;> simp only [F__law_common_K36, mkF, e0, fSeq, fSet, fLit, fFor, fIt, fVar, List.length_cons, List.length_nil, List.map_cons, List.map_nil, List.replicate, List.cons_append, List.nil_append, List.set_cons_zero, List.set_cons_succ, List.getElem?_cons_zero, List.getElem?_cons_succ, Option.bind_some, Option.map_some, e, fRet, Nat.reduceAdd, Nat.reduceSub, and_self, if_true, List.take_zero, Nat.zero_add]
theorem w_low {v : List Int} {r : PyData} (h : IsRow v r) (hs : ∀ x ∈ v, Sm 4000 x) (hl : v.length ≤ 1000) : F__law_low_K36 [.dat r] [] = some (.dat (.tuple ((red v).map .int)), []) := by
  have h1 := mL_pos v
  have h2 := sm_mL (n := 4000) (by decide) fun x m => hs x m
  have h3 := w_common h fun x m => (hs x m).up 9000 (by decide)
  have h4 := lc_div (some (.dat r)) h1 h2 [] v
  have h5 : (v.map PyData.int).length ≤ 100000 := by rw [List.length_map]; omega
  have h6 := mL_max' v
  unfold red
  cases h <;> simp! [F__law_low_K36, b__law_low_K36, h3, h6, h4, h5]
theorem w_ratio {p q : Int} (hq : 0 < q) (hp : Sm 4000 p) (hq' : Sm 4000 q) : F__law_ratio_K36 [.dat (.int p), .dat (.int q)] [] = some (.dat (Rt p q), []) := by
  have e1 := w_common (v := [p, q]) .l (fun x h => by
    simp only [List.mem_cons, List.not_mem_nil, or_false] at h
    rcases h with rfl | rfl
    · exact hp.up 9000 (by decide)
    · exact hq'.up 9000 (by decide))
  have e2 := rg_red (p := p) hq
  have g0 : gL [p, q] ≠ 0 := gL_ne (x := q) (by simp) (by omega)
  have hm : mL [p, q] = ((gL [p, q] : Nat) : Int) := mL_eq g0
  unfold red at e2
  rw [hm] at e2
  simp only [List.map_cons, List.map_nil, List.cons.injEq, and_true] at e2
  have gp : (0 : Int) < ((gL [p, q] : Nat) : Int) := by omega
  have sg := sm_mL (v := [p, q]) (n := 4000) (by decide) (fun x h => by
    simp only [List.mem_cons, List.not_mem_nil, or_false] at h
    rcases h with rfl | rfl
    · exact hp
    · exact hq')
  rw [hm] at sg
  unfold Rt
  rw [e2.1, e2.2]
  generalize ((gL [p, q] : Nat) : Int) = G at *
  have d1 := gDiv_ok (i := p) gp sg
  have d2 := gDiv_ok (i := q) gp sg
  simp only [List.map_cons, List.map_nil] at e1
  simp! [F__law_ratio_K36, b__law_ratio_K36, e1, hq, d1, d2]
/-! where draws come from: the second family -/
structure SrcO (k : Nat) (a s n : Int) : Prop where
  a0 : 0 ≤ a
  s0 : 0 ≤ s
  s1 : s < 2147483629
  n0 : 0 ≤ n
  n1 : n + k < 2 ^ 40
def Src (k : Nat) (t : List PyData) : Prop := ∃ a s n, t = L3 a s n ∧ SrcO k a s n
theorem Src.le {k m : Nat} {t : List PyData} (h : Src k t) (hm : m ≤ k) : Src m t := by
  obtain ⟨a, s, n, e, h⟩ := h
  exact ⟨a, s, n, e, h.a0, h.s0, h.s1, h.n0, by have := h.n1; omega⟩
theorem w_draw {k : Nat} {t : List PyData} {m : Int} (h : Src (k + 1) t) (hm : 0 < m) (hm2 : m < 2 ^ 40) :
    ∃ v t', F__law_draw [.cel 0, .dat (.int m)] [t] = some (.dat (.int v), [t']) ∧ Src k t' ∧ 0 ≤ v ∧ v < m := by
  obtain ⟨a, s, n, rfl, ha, h0, h1, h2, h3⟩ := h
  have st := (sz_of (by omega) (by omega : m < 2 ^ 60)).sm (m := 1000)
  by_cases hp : 0 < a
  · refine ⟨a % m, L3 (a / m) s n, ?_, ⟨_, _, _, rfl, Int.ediv_nonneg ha (by omega), h0, h1, h2, by omega⟩, Int.emod_nonneg _ (by omega), Int.emod_lt_of_pos _ hm⟩
    have hd := dm_ok (i := a) hm st
    simpa! [F__law_draw, b__law_draw, ixN3_0, hp, hd]
  · have m1 := gMul_sm h0 (by omega) (by decide : (0 : Int) ≤ 16807) (by decide)
    have m2 := gMul_sm (by omega : 0 ≤ n + 1) (by omega : n + 1 < 2 ^ 60) (by decide : (0 : Int) ≤ 65539) (by decide)
    have d1 := fun i : Int => gMod_ok (i := i) (by decide : (0 : Int) < 2147483587)
    have d2 := fun i : Int => gMod_ok (i := i) (by decide : (0 : Int) < 2147483629)
    have d3 := fun i : Int => gMod_ok (i := i) hm
    generalize hx : (s * 16807 + (n + 1) * 65539) % 2147483587 = x
    have x0 : 0 ≤ x := by omega
    have x1 : x < 2147483587 := by omega
    have q1 : gDiv (.int x) (.int 11) = some (.int (x / 11)) := gDiv_ok (by decide) (Sz.of40 (by decide)).sm
    have m3 := gMul_sm (by decide : (0 : Int) ≤ 2) (by decide) (by omega : 0 ≤ x / 11) (by omega)
    have m4 := gMul_sm x0 (by omega) (by omega : 0 ≤ 2 * (x / 11) + 30011) (by omega)
    generalize hy : (x * (2 * (x / 11) + 30011) + (n + 1)) % 2147483629 = y
    have q2 : gDiv (.int y) (.int 257) = some (.int (y / 257)) := gDiv_ok (by decide) (Sz.of40 (by decide)).sm
    refine ⟨y / 257 % m, L3 a y (n + 1), ?_, ⟨_, _, _, rfl, ha, by omega, by omega, by omega, by push_cast at h3; omega⟩, Int.emod_nonneg _ (by omega), Int.emod_lt_of_pos _ hm⟩
    simp! [F__law_draw, b__law_draw, gIx, ix3_0, ix3_1, ix3_2, ixN3_0, ixN3_1, ixN3_2, hp, m1, m2, d1, d2, d3, hx, q1, m3, m4, hy, q2]
theorem w_pick {k : Nat} {t : List PyData} {xs : List PyData} (h : Src (k + 1) t) (h0 : 0 < xs.length) (h1 : xs.length < 1000) :
    ∃ x t', F__law_pick_K36 [.cel 0, .dat (.tuple xs)] [t] = some (.dat x, [t']) ∧ Src k t' ∧ x ∈ xs := by
  obtain ⟨v, t', e, h', v0, v1⟩ := w_draw (m := (xs.length : Nat)) h (by omega) (by omega)
  obtain ⟨x, hx, ex⟩ := atI_in v0 v1
  refine ⟨x, t', ?_, h', hx⟩
  simp! [F__law_pick_K36, b__law_pick_K36, e, gIx, ex]
theorem w_pickn {k : Nat} {t : List PyData} (ns : List Int) (h : Src (k + 1) t) (h0 : 0 < ns.length) (h1 : ns.length < 1000) :
    ∃ x t', F__law_pick_K36 [.cel 0, .dat (.tuple (ns.map .int))] [t] = some (.dat (.int x), [t']) ∧ Src k t' ∧ x ∈ ns := by
  obtain ⟨x, t', e, h', hx⟩ := w_pick (xs := ns.map .int) h (by simpa using h0) (by simpa using h1)
  obtain ⟨n, hn, rfl⟩ := List.mem_map.mp hx
  exact ⟨n, t', e, h', hn⟩
theorem w_about {k : Nat} {t : List PyData} {m : Int} (h : Src (k + 1) t) (h0 : 0 ≤ m) (h1 : m ≤ 1000) : ∃ v t', F__law_about [.cel 0, .dat (.int m)] [t] = some (.dat (.int v), [t']) ∧ Src k t' ∧ -m ≤ v ∧ v ≤ m := by
  obtain ⟨v, t', e, h', v0, v1⟩ := w_draw (k := k) (m := 2 * m + 1) h (by omega) (by omega)
  have mm := gMul_sm (by decide : (0 : Int) ≤ 2) (by decide) h0 (by omega)
  refine ⟨v - m, t', ?_, h', by omega, by omega⟩
  simp! [F__law_about, b__law_about, mm, e]
end PL


set_option Elab.async false
set_option linter.all false
set_option maxRecDepth 100000
set_option maxHeartbeats 4000000
set_option exponentiation.threshold 20000
namespace PL
open PySem PySem.Spec L2 DL
local macro_rules | `(tactic| simp! [$as,*]) => `(tactic| simp only [fThaw, fThawT, fThawL, thawD, thawO, noL, noLAll, fAug, gAug, fRev, fFnA, fCallV, fBot, fZip, zipD, gSum, intsOf, List.foldl_cons, List.foldl_nil, mkF, fRet, fRetL, fRetN, fSkip, fSeq, fNever, fSet, fAsg, fNew, fIfS, fDrop, fPar, fPar3, fSetc, fSetc2, fVar, fLit, fOp, fUn, fTup, fTup.datsOf, fLst, fNilA, fConsA, fStarA, fCelA, fOfL, fTru, fAndT, fOrT, fNotT, fAndV, fOrV, fNotV, fIf, fBi, fCall, fCallL, fCallFr, fPerm, callF, celOf, celsOk, norm, aName, aNil, aCons, aTup, setD, fSl, fIt, fItL, fItT, fFor, forGo, fLc, lcGo, fYes, wipeD, fCix, fList, fSlL, fPart, fNoPart, fChain, List.length_cons, List.length_nil, List.getElem?_cons_zero, List.getElem?_cons_succ, List.getElem?_nil, List.set_cons_zero, List.set_cons_succ, List.map_cons, List.map_nil, List.cons_append, List.nil_append, List.append_nil, List.replicate, List.take_zero, List.take_nil, List.take_succ_cons, ↓bsome, ↓msome, Option.bind_some, Option.map_some, Option.bind_none, Option.map_none, Nat.sub_self, Int.cast_ofNat_Int, Nat.reduceAdd, Nat.reduceMul, Nat.reduceSub, Nat.reduceLeDiff, Nat.reduceLT, Nat.zero_add, Nat.add_zero, and_self, and_true, true_and, if_true, if_false, ↓reduceIte, ite_true, Bool.true_eq_false, Bool.false_eq_true, beq_self_eq_true, Bool.and_self, Bool.not_true, Bool.not_false, decide_true, decide_false, gLen, gTyIs, gTyNot, tyOf, gNeg, gPlus, DL.gSub, gCmp, gInt, gAbs, gTuple, gMax, gMin, gGcd, LIM, gIx, $as,*])
abbrev SoB : FS := (fSet 3 (fOp gMod (fBi gInt (fConsA (fOp gPlus (fOp gPlus (fOp gMul (fVar 3) (fLit (.int 48611))) (fOp gMod (fBi gInt (fConsA (fVar 4) fNilA)) (fLit (.int 2147483587)))) (fLit (.int 19))) fNilA)) (fLit (.int 2147483629))))
theorem so_1 {x0 x1 x2 x5 : Option SV} {s x : Int} (h0 : 0 ≤ s) (h1 : s < 2 ^ 40) : ∃ s', SoB ⟨[x0, x1, x2, some (.dat (.int s)), some (.dat (.int x)), x5], []⟩ = some (.nx ⟨[x0, x1, x2, some (.dat (.int s')), some (.dat (.int x)), x5], []⟩) ∧ 0 ≤ s' ∧ s' < 2 ^ 40 := by
  have m1 := gMul_sm h0 (by omega) (by decide : (0 : Int) ≤ 48611) (by decide)
  have d1 : gMod (.int x) (.int 2147483587) = some (.int (x % 2147483587)) := gMod_ok (by decide)
  have d2 := fun i : Int => gMod_ok (i := i) (by decide : (0 : Int) < 2147483629)
  refine ⟨(s * 48611 + x % 2147483587 + 19) % 2147483629, ?_, by omega, by omega⟩
  simp! [m1, d1, d2]
theorem so_for {x0 x1 x2 x5 : Option SV} : ∀ (ms : List Int) (s : Int) (x4 : Option SV), 0 ≤ s → s < 2 ^ 40 → ∃ s' y4, forGo (aName 4) SoB (ms.map .int) ⟨[x0, x1, x2, some (.dat (.int s)), x4, x5], []⟩ = some (.nx ⟨[x0, x1, x2, some (.dat (.int s')), y4, x5], []⟩) ∧ 0 ≤ s' ∧ s' < 2 ^ 40
  | [], s, x4, h0, h1 => ⟨s, x4, rfl, h0, h1⟩
  | x :: ms, s, x4, h0, h1 => by
    obtain ⟨s1, e, g0, g1⟩ := so_1 (x0 := x0) (x1 := x1) (x2 := x2) (x5 := x5) (x := x) h0 h1
    obtain ⟨s2, y4, ih, k0, k1⟩ := so_for (x0 := x0) (x1 := x1) (x2 := x2) (x5 := x5) ms s1 (some (.dat (.int x))) g0 g1
    refine ⟨s2, y4, ?_, k0, k1⟩
    generalize SoB = b at e ih ⊢
    simp only [List.map_cons, forGo, aName, setD, List.set_cons_succ, List.set_cons_zero, Option.bind_some, e]
    exact ih
theorem pow17 : gPow (.int 10) (.int 17) = some (.int 100000000000000000) := rfl
theorem w_source {ns : List Int} {k : Int} (h0 : 0 ≤ k) (h1 : k < 1000) : ∃ t, F__law_source [.dat (.list (ns.map .int)), .dat (.int k)] [] = some (.new t, []) ∧ Src 100000 t := by
  have m0 := gMul_sm (by decide : (0 : Int) ≤ 983) (by decide) h0 (by omega)
  have m1 := gMul_sm (by decide : (0 : Int) ≤ 4001) (by decide) h0 (by omega)
  obtain ⟨ms, em⟩ := cut_ints ns none (some 8)
  have own : ∃ x : Int, (fSet 2 (fIf (fTru (fOp (gCmp fun i j => decide (i < j)) (fVar 1) (fBi gLen (fConsA (fVar 0) fNilA)))) (fBi gInt (fConsA (fOp gIx (fVar 0) (fVar 1)) fNilA)) (fOp gPlus (fOp gMul (fLit (.int 983)) (fVar 1)) (fLit (.int 57))))) ⟨[some (.dat (.list (ns.map .int))), some (.dat (.int k)), none, none, none, none], []⟩ = some (.nx ⟨[some (.dat (.list (ns.map .int))), some (.dat (.int k)), some (.dat (.int x)), none, none, none], []⟩) := by
    by_cases hk : k < ((ns.map PyData.int).length : Nat)
    · obtain ⟨x, hx, ex⟩ := atI_in h0 hk
      obtain ⟨n, hn, rfl⟩ := List.mem_map.mp hx
      refine ⟨n, ?_⟩
      simp! [hk, gIx, ex]
    · refine ⟨983 * k + 57, ?_⟩
      simp! [hk, m0]
  obtain ⟨x, a1⟩ := own
  obtain ⟨s, y4, ef, s0, s1⟩ := so_for (x0 := some (.dat (.list (ns.map .int)))) (x1 := some (.dat (.int k))) (x2 := some (.dat (.int x))) (x5 := none) ms (60013 + 4001 * k) none (by omega) (by omega)
  have a2 : (fSet 3 (fOp gPlus (fLit (.int 60013)) (fOp gMul (fLit (.int 4001)) (fVar 1)))) ⟨[some (.dat (.list (ns.map .int))), some (.dat (.int k)), some (.dat (.int x)), none, none, none], []⟩ = some (.nx ⟨[some (.dat (.list (ns.map .int))), some (.dat (.int k)), some (.dat (.int x)), some (.dat (.int (60013 + 4001 * k))), none, none], []⟩) := by
    simp! [m1]
  have a3 : (fFor (fIt (fSl (fVar 0) fNoPart (fPart (fLit (.int 8))))) (aName 4) SoB) ⟨[some (.dat (.list (ns.map .int))), some (.dat (.int k)), some (.dat (.int x)), some (.dat (.int (60013 + 4001 * k))), none, none], []⟩ = some (.nx ⟨[some (.dat (.list (ns.map .int))), some (.dat (.int k)), some (.dat (.int x)), some (.dat (.int s)), y4, none], []⟩) := by
    have ei : (fIt (fSl (fVar 0) fNoPart (fPart (fLit (.int 8))))) ⟨[some (.dat (.list (ns.map .int))), some (.dat (.int k)), some (.dat (.int x)), some (.dat (.int (60013 + 4001 * k))), none, none], []⟩ = some (ms.map .int, []) := by
      simp! [em]
    unfold fFor
    rw [ei]
    exact ef
  have ea : (if x < 0 then -x else x) = ((x.natAbs : Nat) : Int) := by split <;> omega
  have m2 := gMul_sm s0 (by omega : s < 2 ^ 60) (by decide : (0 : Int) ≤ 83) (by decide)
  have m3 := gMul_sm (by omega : 0 ≤ x % 2147483587) (by omega : x % 2147483587 < 2 ^ 60) (by decide : (0 : Int) ≤ 20011) (by decide)
  have d1 : gMod (.int x) (.int 2147483587) = some (.int (x % 2147483587)) := gMod_ok (by decide)
  have d2 := fun i : Int => gMod_ok (i := i) (by decide : (0 : Int) < 2147483629)
  have a4 : (fSet 5 (fOp gMod (fBi gInt (fConsA (fOp gPlus (fOp gMul (fVar 3) (fLit (.int 83))) (fOp gMul (fOp gMod (fBi gInt (fConsA (fVar 2) fNilA)) (fLit (.int 2147483587))) (fLit (.int 20011)))) fNilA)) (fLit (.int 2147483629)))) ⟨[some (.dat (.list (ns.map .int))), some (.dat (.int k)), some (.dat (.int x)), some (.dat (.int s)), y4, none], []⟩ = some (.nx ⟨[some (.dat (.list (ns.map .int))), some (.dat (.int k)), some (.dat (.int x)), some (.dat (.int s)), y4, some (.dat (.int ((s * 83 + x % 2147483587 * 20011) % 2147483629)))], []⟩) := by
    simp! [m2, m3, d1, d2]
  have r0 : 0 ≤ (s * 83 + x % 2147483587 * 20011) % 2147483629 := by omega
  have r1 : (s * 83 + x % 2147483587 * 20011) % 2147483629 < 2147483629 := by omega
  generalize (s * 83 + x % 2147483587 * 20011) % 2147483629 = r at *
  have e0 : b__law_source = fSeq (fSet 2 (fIf (fTru (fOp (gCmp fun i j => decide (i < j)) (fVar 1) (fBi gLen (fConsA (fVar 0) fNilA)))) (fBi gInt (fConsA (fOp gIx (fVar 0) (fVar 1)) fNilA)) (fOp gPlus (fOp gMul (fLit (.int 983)) (fVar 1)) (fLit (.int 57))))) (fSeq (fSet 3 (fOp gPlus (fLit (.int 60013)) (fOp gMul (fLit (.int 4001)) (fVar 1)))) (fSeq (fFor (fIt (fSl (fVar 0) fNoPart (fPart (fLit (.int 8))))) (aName 4) SoB) (fSeq (fSet 5 (fOp gMod (fBi gInt (fConsA (fOp gPlus (fOp gMul (fVar 3) (fLit (.int 83))) (fOp gMul (fOp gMod (fBi gInt (fConsA (fVar 2) fNilA)) (fLit (.int 2147483587))) (fLit (.int 20011)))) fNilA)) (fLit (.int 2147483629)))) (fRetL (fLst (fConsA (fIf (fOrT (fTru (fOp (gCmp fun i j => decide (i < j)) (fVar 2) (fLit (.int 0)))) (fTru (fOp (gCmp fun i j => decide (j ≤ i)) (fVar 2) (fOp gPow (fLit (.int 10)) (fLit (.int 17)))))) (fBi gAbs (fConsA (fVar 2) fNilA)) (fLit (.int 0))) (fConsA (fVar 5) (fConsA (fLit (.int 0)) fNilA)))))))) := rfl
  by_cases hb : x < 0
  · refine ⟨L3 ((x.natAbs : Nat) : Int) r 0, ?_, _, _, _, rfl, by omega, r0, r1, by decide, by decide⟩
    refine fn_ok (np := 2) (nN := 6) (n0 := 0) (c := []) ?_ ⟨rfl, rfl⟩ rfl
    rw [e0]
    refine (seq_nx a1).trans ((seq_nx a2).trans ((seq_nx a3).trans ((seq_nx a4).trans ?_)))
    have hb' := decide_eq_true hb
    clear r0 r1
    have ea' : -x = ((x.natAbs : Nat) : Int) := by omega
    simp! [hb, ea']
  · by_cases hc : (100000000000000000 : Int) ≤ x
    · refine ⟨L3 ((x.natAbs : Nat) : Int) r 0, ?_, _, _, _, rfl, by omega, r0, r1, by decide, by decide⟩
      refine fn_ok (np := 2) (nN := 6) (n0 := 0) (c := []) ?_ ⟨rfl, rfl⟩ rfl
      rw [e0]
      refine (seq_nx a1).trans ((seq_nx a2).trans ((seq_nx a3).trans ((seq_nx a4).trans ?_)))
      have ea' : x = ((x.natAbs : Nat) : Int) := by omega
      rw [← ea']
      simp! [hb, pow17, hc]
    · refine ⟨L3 0 r 0, ?_, _, _, _, rfl, by decide, r0, r1, by decide, by decide⟩
      refine fn_ok (np := 2) (nN := 6) (n0 := 0) (c := []) ?_ ⟨rfl, rfl⟩ rfl
      rw [e0]
      refine (seq_nx a1).trans ((seq_nx a2).trans ((seq_nx a3).trans ((seq_nx a4).trans ?_)))
      simp! [hb, pow17, hc]
/-! the law, over what checks one turn -/
abbrev srcR (m : Int) : FL := (fRng1 (fConsA (fBi gMax (fConsA (fLit (.int 2)) (fConsA (fBi gMin (fConsA (fBi gLen (fConsA (fVar 0) fNilA)) (fConsA (fLit (.int m)) fNilA))) fNilA))) fNilA))
abbrev srcE (FR : FnS) : FE := (fCallFr FR (fCallL F__law_source (fConsA (fVar 0) (fConsA (fVar 1) fNilA))))
def srcB (FR : FnS) (m : Int) : FS := (fRet (fBi gAll (fConsA (fOfL (fLc (srcR m) (aName 1) fYes (srcE FR) [1])) fNilA)))
theorem srcE_ok {FR : FnS} {ns : List Int} (hR : ∀ t, Src 100000 t → ∃ c, FR [.cel 0] [t] = some (.dat (.bool true), c)) {k : Int} (h0 : 0 ≤ k) (h1 : k < 1000) : srcE FR ⟨[some (.dat (.list (ns.map PyData.int))), some (.dat (.int k))], []⟩ = some (.bool true, []) := by
  obtain ⟨t, e, ht⟩ := w_source (ns := ns) h0 h1
  obtain ⟨c, e2⟩ := hR t ht
  simp! [e, e2]
theorem src_go {FR : FnS} {ns : List Int} (hR : ∀ t, Src 100000 t → ∃ c, FR [.cel 0] [t] = some (.dat (.bool true), c)) : ∀ ks : List Nat, (∀ k ∈ ks, k < 1000) → lcGo (aName 1) fYes (srcE FR) [some (.dat (.list (ns.map PyData.int))), none] (ks.map fun i => PyData.int (0 + (i : Nat))) [] = some (ks.map fun _ => PyData.bool true, [])
  | [], _ => rfl
  | k :: ks, h => by
    have ih := src_go (ns := ns) hR ks fun j hj => h j (List.mem_cons_of_mem _ hj)
    have hk := h k (List.mem_cons_self ..)
    have e := srcE_ok (ns := ns) hR (k := 0 + (k : Nat)) (by omega) (by omega)
    generalize srcE FR = eb at e ih ⊢
    simp only [lcGo, List.map_cons, aName, fYes, setD, List.set_cons_zero, List.set_cons_succ, Option.bind_some, if_true, e, ih, Option.map_some]
theorem src_ok {FR : FnS} {m : Int} (h0 : 0 ≤ m) (h1 : m ≤ 100) (hR : ∀ t, Src 100000 t → ∃ c, FR [.cel 0] [t] = some (.dat (.bool true), c)) (ns : List Int) : ∃ c, mkF 1 2 0 (srcB FR m) [.dat (.list (ns.map PyData.int))] [] = some (.dat (.bool true), c) := by
  obtain ⟨n, hn, en⟩ : ∃ n : Nat, n ≤ 100 ∧ (if (if m < (((ns.map PyData.int).length : Nat) : Int) then m else (((ns.map PyData.int).length : Nat) : Int)) > 2 then (if m < (((ns.map PyData.int).length : Nat) : Int) then m else (((ns.map PyData.int).length : Nat) : Int)) else 2) = (n : Nat) := by
    refine ⟨(if (if m < (((ns.map PyData.int).length : Nat) : Int) then m else (((ns.map PyData.int).length : Nat) : Int)) > 2 then (if m < (((ns.map PyData.int).length : Nat) : Int) then m else (((ns.map PyData.int).length : Nat) : Int)) else 2).toNat, ?_, ?_⟩ <;> (split <;> split <;> omega)
  have e : srcR m ⟨[some (.dat (.list (ns.map PyData.int))), none], []⟩ = some (rangeD 0 n, []) := rg_of (J := n) (by simp! [en]) (by omega)
  have hb := src_go (ns := ns) hR (List.range n) fun k hk => by have := List.mem_range.mp hk; omega
  have hlen : (rangeD 0 n).length ≤ 100000 := by rw [rangeD_len]; omega
  have hb' : lcGo (aName 1) fYes (srcE FR) [some (.dat (.list (ns.map PyData.int))), none] (rangeD 0 n) [] = some ((List.range n).map fun _ => PyData.bool true, []) := hb
  have hall : gAll [.list ((List.range n).map fun _ => PyData.bool true)] = some (.bool true) := by
    show (boolsOf _).map (fun bs => PyData.bool (bs.all id)) = _
    rw [bools_true]
    simp
  refine ⟨[], ?_⟩
  unfold srcB
  generalize srcR m = rg at e
  generalize srcE FR = eb at hb'
  simp! [e, hlen, hb', hall]
/-! settings -/
structure Sg (m : Nat) (a b : Int) : Prop where
  b0 : 0 ≤ b
  z : b = 0 → a = 1
  one : gL [a, b] = 1
  sa : Sz m a
  sb : Sz m b
theorem Sg.up {m n : Nat} {a b : Int} (S : Sg m a b) (h : m ≤ n) : Sg n a b := ⟨S.b0, S.z, S.one, S.sa.by _ h, S.sb.by _ h⟩
theorem w_chset {m : Nat} {p q : Int} (P : Sg m p q) : F_check_setting [.dat (T2 p q)] [] = some (.dat .none, []) := by
  have e1 := e_rrow2 (a := p) (b := q)
  rw [P.one] at e1
  have o1 : ((((1 : Nat) : Int)) == 1) = true := rfl
  have hs : F_is_setting [.dat (T2 p q)] [] = some (.dat (.bool true), []) := by
    by_cases hq : 0 < q
    · simp! [F_is_setting, b_is_setting, e1, o1, gIx, ix2_1, hq]
    · have q0 : q = 0 := by have := P.b0; omega
      subst q0
      have p1 := P.z rfl
      subst p1
      have h1 : gEq (T2 1 0) (T2 1 0) = some (.bool true) := rfl
      simp! [F_is_setting, b_is_setting, e1, o1, gIx, ix2_1, hq, h1]
  simp! [F_check_setting, b_check_setting, hs]
theorem w_slot {k : Nat} {t : List PyData} (h : Src (k + 4) t) : ∃ (a b : Int) (t' : List PyData), F__law_slot [.cel 0] [t] = some (.dat (T2 a b), [t']) ∧ Src k t' ∧ Sg 8 a b := by
  obtain ⟨w, t1, e1, h1, w0, w1⟩ := w_draw (k := k + 3) (m := 4) h (by decide) (by decide)
  obtain ⟨m, t2, e2, h2, hm⟩ := w_pickn (k := k + 2) [1, 2, 3, 9, 100] h1 (by decide) (by decide)
  have hm' : 0 < m ∧ m ≤ 100 := by
    simp only [List.mem_cons, List.not_mem_nil, or_false] at hm
    rcases hm with rfl | rfl | rfl | rfl | rfl <;> decide
  simp only [List.map_cons, List.map_nil] at e2
  by_cases hw : w = 0
  · subst hw
    obtain ⟨x, t3, e3, h3, hx⟩ := w_pick (k := k + 1) (xs := [T2 0 1, T2 1 0, T2 1 1, T2 (-1) 1]) h2 (by decide) (by decide)
    have z : Sz 8 (0 : Int) := sz_0.by _ (by decide)
    have o : Sz 8 (1 : Int) := sz_1.by _ (by decide)
    have w00 : gEq (.int 0) (.int 0) = some (.bool true) := rfl
    simp only [List.mem_cons, List.not_mem_nil, or_false] at hx
    rcases hx with rfl | rfl | rfl | rfl
    · exact ⟨0, 1, t3, by simp! [F__law_slot, b__law_slot, e1, e2, w00, Int.reduceNeg, e3], h3.le (by omega), by decide, by decide, by decide, z, o⟩
    · exact ⟨1, 0, t3, by simp! [F__law_slot, b__law_slot, e1, e2, w00, Int.reduceNeg, e3], h3.le (by omega), by decide, by decide, by decide, o, z⟩
    · exact ⟨1, 1, t3, by simp! [F__law_slot, b__law_slot, e1, e2, w00, Int.reduceNeg, e3], h3.le (by omega), by decide, by decide, by decide, o, o⟩
    · exact ⟨-1, 1, t3, by simp! [F__law_slot, b__law_slot, e1, e2, w00, Int.reduceNeg, e3], h3.le (by omega), by decide, by decide, by decide, o.neg, o⟩
  · have hw' : (w == 0) = false := beq_eq_false_iff_ne.mpr hw
    obtain ⟨v, t3, e3, h3, v0, v1⟩ := w_about (k := k + 1) (m := m) h2 (by omega) (by omega)
    obtain ⟨u, t4, e4, h4, u0, u1⟩ := w_draw (k := k) (m := m) h3 (by omega) (by omega)
    have sv : Sz 8 v := Sm.sz (by unfold Sm; omega)
    have su : Sz 8 (1 + u) := Sm.sz (by unfold Sm; omega)
    have r := w_low (v := [v, 1 + u]) (r := T2 v (1 + u)) .t (m2 sv.sm su.sm) (by simp)
    have rr := rg_red (p := v) (q := 1 + u) (by omega)
    have F := rt_fr (n := 8) (p := v) (q := 1 + u) (by omega) sv su
    rw [← rr] at r
    have q0 := F.q0
    refine ⟨_, _, t4, ?_, h4, ⟨by omega, fun z => absurd z (by omega), F.one, F.sp, F.sq⟩⟩
    simp only [List.map_cons, List.map_nil] at r
    clear F rr sv su q0
    simp! [F__law_slot, b__law_slot, e1, e2, gEq_int, hw', e3, e4, r]
end PL


set_option Elab.async false
set_option linter.all false
set_option maxRecDepth 100000
set_option maxHeartbeats 4000000
set_option exponentiation.threshold 20000
namespace PL
open PySem PySem.Spec L2 DL
local macro_rules | `(tactic| simp! [$as,*]) => `(tactic| simp only [fThaw, fThawT, fThawL, thawD, thawO, noL, noLAll, fAug, gAug, fRev, fFnA, fCallV, fBot, fZip, zipD, gSum, intsOf, List.foldl_cons, List.foldl_nil, mkF, fRet, fRetL, fRetN, fSkip, fSeq, fNever, fSet, fAsg, fNew, fIfS, fDrop, fPar, fPar3, fSetc, fSetc2, fVar, fLit, fOp, fUn, fTup, fTup.datsOf, fLst, fNilA, fConsA, fStarA, fCelA, fOfL, fTru, fAndT, fOrT, fNotT, fAndV, fOrV, fNotV, fIf, fBi, fCall, fCallL, fCallFr, fPerm, callF, celOf, celsOk, norm, aName, aNil, aCons, aTup, setD, fSl, fIt, fItL, fItT, fFor, forGo, fLc, lcGo, fYes, wipeD, fCix, fList, fSlL, fPart, fNoPart, fChain, List.length_cons, List.length_nil, List.getElem?_cons_zero, List.getElem?_cons_succ, List.getElem?_nil, List.set_cons_zero, List.set_cons_succ, List.map_cons, List.map_nil, List.cons_append, List.nil_append, List.append_nil, List.replicate, List.take_zero, List.take_nil, List.take_succ_cons, ↓bsome, ↓msome, Option.bind_some, Option.map_some, Option.bind_none, Option.map_none, Nat.sub_self, Int.cast_ofNat_Int, Nat.reduceAdd, Nat.reduceMul, Nat.reduceSub, Nat.reduceLeDiff, Nat.reduceLT, Nat.zero_add, Nat.add_zero, and_self, and_true, true_and, if_true, if_false, ↓reduceIte, ite_true, Bool.true_eq_false, Bool.false_eq_true, beq_self_eq_true, Bool.and_self, Bool.not_true, Bool.not_false, decide_true, decide_false, gLen, gTyIs, gTyNot, tyOf, gNeg, gPlus, DL.gSub, gCmp, gInt, gAbs, gTuple, gMax, gMin, gGcd, LIM, gIx, $as,*])
/-! polynomials -/
theorem nts_len (v : List Int) : (nts v).length = v.length := by unfold nts; rw [List.length_map]
theorem atI_nts {v : List Int} {j : Nat} (h : j < v.length) : atI (nts v) (j : Nat) = some (.int (v.getD j 0)) := by
  unfold atI ixN
  rw [if_pos (by omega), nts_len, if_pos (by omega)]
  show (nts v)[((j : Nat) : Int).toNat]? = _
  rw [Int.toNat_natCast]
  unfold nts
  rw [List.getElem?_map, List.getElem?_eq_getElem h, List.getD_eq_getElem?_getD, List.getElem?_eq_getElem h]
  rfl
theorem ixN_nat {n j : Nat} (h : j < n) : ixN n (j : Nat) = some j := by
  unfold ixN
  rw [if_pos (by omega), if_pos (by omega), Int.toNat_natCast]
theorem cutD_take {xs : List PyData} {m : Nat} (h : m ≤ xs.length) : cutD xs none (some (m : Nat)) = xs.take m := by
  unfold cutD
  rw [HT.sIx_nat, HT.sIx_none, List.drop_zero, Nat.sub_zero, Nat.min_eq_left h]
abbrev TrT : FT := (fAndT (fTru (fOp (gCmp fun i j => decide (j < i)) (fVar 1) (fLit (.int 0)))) (fTru (fOp gEq (fOp gIx (fVar 0) (fOp gSub (fVar 1) (fLit (.int 1)))) (fLit (.int 0)))))
abbrev TrB : FS := (fAug 1 (gAug fun i j => i - j) (fLit (.int 1)))
theorem tr_go (v : List Int) : ∀ n : Nat, n ≤ v.length → ∃ m, m ≤ n ∧ whileGo TrT TrB (n + 1) ⟨[some (.dat (.list (nts v))), some (.dat (.int (n : Nat)))], []⟩ = some (.nx ⟨[some (.dat (.list (nts v))), some (.dat (.int (m : Nat)))], []⟩) ∧ (∀ k, m ≤ k → k < n → v.getD k 0 = 0) ∧ (m = 0 ∨ v.getD (m - 1) 0 ≠ 0)
  | 0, _ => by
    refine ⟨0, Nat.le_refl _, ?_, fun k h1 h2 => absurd h2 (by omega), .inl rfl⟩
    have q0 : decide ((0 : Int) < 0) = false := rfl
    have ht : TrT ⟨[some (.dat (.list (nts v))), some (.dat (.int ((0 : Nat) : Int)))], []⟩ = some (false, []) := by
      simp! [Int.natCast_zero, Int.ofNat_zero, q0]
    unfold whileGo
    rw [ht]
    rfl
  | n + 1, h => by
    have ha := atI_nts (v := v) (j := n) (by omega)
    have hp : decide ((0 : Int) < ((n + 1 : Nat) : Int)) = true := decide_eq_true (by omega)
    have hs : ((n + 1 : Nat) : Int) - 1 = (n : Nat) := by omega
    have ht : TrT ⟨[some (.dat (.list (nts v))), some (.dat (.int ((n + 1 : Nat) : Int)))], []⟩ = some (v.getD n 0 == 0, []) := by
      generalize hN : ((n + 1 : Nat) : Int) = N at *
      simp! [hp, hs, gIx, ha, gEq_int]
    by_cases hz : v.getD n 0 = 0
    · obtain ⟨m, hm, e, h1, h2⟩ := tr_go v n (by omega)
      refine ⟨m, by omega, ?_, fun k k1 k2 => ?_, h2⟩
      · have hb : TrB ⟨[some (.dat (.list (nts v))), some (.dat (.int ((n + 1 : Nat) : Int)))], []⟩ = some (.nx ⟨[some (.dat (.list (nts v))), some (.dat (.int (n : Nat)))], []⟩) := by
          generalize hN : ((n + 1 : Nat) : Int) = N at *
          simp! [hs]
        have hz' : (v.getD n 0 == 0) = true := beq_iff_eq.mpr hz
        rw [hz'] at ht
        unfold whileGo
        rw [ht]
        simp only [Option.bind_some, if_true]
        rw [hb]
        exact e
      · by_cases hk : k < n
        · exact h1 k k1 hk
        · have : k = n := by omega
          subst this
          exact hz
    · refine ⟨n + 1, Nat.le_refl _, ?_, fun k k1 k2 => absurd k2 (by omega), .inr hz⟩
      have hz' : (v.getD n 0 == 0) = false := beq_eq_false_iff_ne.mpr hz
      rw [hz'] at ht
      unfold whileGo
      rw [ht]
      rfl
theorem w_trimmed {v : List Int} (h : v.length ≤ 1000) : ∃ m, m ≤ v.length ∧ F_trimmed [.dat (.list (nts v))] [] = some (.dat (.tuple (nts (v.take m))), []) ∧ (∀ k, m ≤ k → v.getD k 0 = 0) ∧ (m = 0 ∨ v.getD (m - 1) 0 ≠ 0) := by
  obtain ⟨m, hm, e, h1, h2⟩ := tr_go v v.length (Nat.le_refl _)
  refine ⟨m, hm, ?_, fun k hk => ?_, h2⟩
  · have w := wh_ok e (by
      have : (1001 : Nat) ≤ 2 ^ 10000 := Nat.le_trans (by decide : 1001 ≤ 2 ^ 10) (Nat.pow_le_pow_right (by decide) (by decide))
      omega)
    have a1 : (fSet 1 (fBi gLen (fConsA (fVar 0) fNilA))) ⟨[some (.dat (.list (nts v))), none], []⟩ = some (.nx ⟨[some (.dat (.list (nts v))), some (.dat (.int (v.length : Nat)))], []⟩) := by
      have hl := nts_len v
      simp! [hl]
    have ec : cutD (nts v) none (some ((m : Nat) : Int)) = nts (v.take m) := by
      rw [cutD_take (by rw [nts_len]; exact hm)]
      unfold nts
      rw [List.map_take]
    have e0 : b_trimmed = fSeq (fSet 1 (fBi gLen (fConsA (fVar 0) fNilA))) (fSeq (fWhile TrT TrB) (fRet (fBi gTuple (fConsA (fSl (fVar 0) fNoPart (fPart (fVar 1))) fNilA)))) := rfl
    refine fn_ok (np := 1) (nN := 2) (n0 := 0) (c := []) ?_ ⟨rfl, rfl⟩ rfl
    rw [e0]
    refine (seq_nx a1).trans ((seq_nx w).trans ?_)
    simp! [ec]
  · by_cases hk2 : k < v.length
    · exact h1 k hk hk2
    · rw [List.getD_eq_getElem?_getD, List.getElem?_eq_none (by omega)]
      rfl
/-- the product's numbers -/
def cvs (f : Nat → Int) : Nat → Int
  | 0 => 0
  | n + 1 => cvs f n + f n
def cv (c d : Nat → Int) (k : Nat) : Int := cvs (fun i => c i * d (k - i)) (k + 1)
theorem cvs_zero {f : Nat → Int} : ∀ n, (∀ i, i < n → f i = 0) → cvs f n = 0
  | 0, _ => rfl
  | n + 1, h => by
    unfold cvs
    rw [cvs_zero n fun i hi => h i (by omega), h n (by omega)]; rfl
theorem cvs_sz {m : Nat} {f : Nat → Int} (h : ∀ i, Sz m (f i)) : ∀ n, Sz (m + n) (cvs f n)
  | 0 => sz_0.by _ (by omega)
  | n + 1 => by
    unfold cvs
    exact ((cvs_sz h n).add ((h n).by (m + n) (by omega))).by _ (by omega)
abbrev InB : FS := (fAugC 2 (fOp gPlus (fVar 3) (fVar 5)) (gAug fun i j => i + j) (fOp gMul (fVar 4) (fVar 6)))
theorem in_1 {X Y : PyData} {acc : List Int} {i j : Nat} {x y : Int} (hi : i + j < acc.length) (hm : gMul (.int x) (.int y) = some (.int (x * y))) :
    InB ⟨[some (.dat X), some (.dat Y), some (.cel 0), some (.dat (.int (i : Nat))), some (.dat (.int x)), some (.dat (.int (j : Nat))), some (.dat (.int y))], [nts acc]⟩ =
      some (.nx ⟨[some (.dat X), some (.dat Y), some (.cel 0), some (.dat (.int (i : Nat))), some (.dat (.int x)), some (.dat (.int (j : Nat))), some (.dat (.int y))], [nts (acc.set (i + j) (acc.getD (i + j) 0 + x * y))]⟩) := by
  have ha := atI_nts hi
  have hx : ixN (nts acc).length ((i + j : Nat) : Int) = some (i + j) := ixN_nat (by rw [nts_len]; exact hi)
  have hc : ((i : Nat) : Int) + (j : Nat) = ((i + j : Nat) : Int) := by omega
  have hs : (nts acc).set (i + j) (.int (acc.getD (i + j) 0 + x * y)) = nts (acc.set (i + j) (acc.getD (i + j) 0 + x * y)) := by
    unfold nts
    rw [List.map_set]
  generalize hij : ((i + j : Nat) : Int) = J at *
  unfold InB
  simp! [fAugC, hc, ha, hm, hx, hs]
theorem getD_set {v : List Int} {k j : Nat} {z : Int} (h : j < v.length) : (v.set j z).getD k 0 = if k = j then z else v.getD k 0 := by
  rw [List.getD_eq_getElem?_getD, List.getElem?_set, List.getD_eq_getElem?_getD]
  by_cases hk : j = k
  · subst hk
    rw [if_pos rfl, if_pos h, if_pos rfl]; rfl
  · rw [if_neg hk, if_neg fun e => hk e.symm]
def Dt : Option SV → Prop
  | some (.cel _) => False
  | _ => True
theorem noCel_dt {o : Option SV} (h : Dt o) (k : Nat) (r : Slots) : noCel k (o :: r) = noCel k r := by
  cases o with
  | none => rfl
  | some v => cases v <;> first | rfl | exact False.elim h
theorem in_for {X Y : PyData} {i : Nat} {x : Int} : ∀ (ys : List Int) (j : Nat) (acc : List Int) (x5 x6 : Option SV), Dt x5 → Dt x6 → i + j + ys.length ≤ acc.length → (∀ y ∈ ys, gMul (.int x) (.int y) = some (.int (x * y))) →
    ∃ acc' y5 y6, forGo (aTup 2 (aCons (aName 5) (aCons (aName 6) aNil))) InB (enumD j (nts ys)) ⟨[some (.dat X), some (.dat Y), some (.cel 0), some (.dat (.int (i : Nat))), some (.dat (.int x)), x5, x6], [nts acc]⟩ = some (.nx ⟨[some (.dat X), some (.dat Y), some (.cel 0), some (.dat (.int (i : Nat))), some (.dat (.int x)), y5, y6], [nts acc']⟩) ∧
      Dt y5 ∧ Dt y6 ∧ acc'.length = acc.length ∧ ∀ k, acc'.getD k 0 = acc.getD k 0 + (if i + j ≤ k then x * ys.getD (k - (i + j)) 0 else 0)
  | [], j, acc, x5, x6, d5, d6, _, _ => ⟨acc, x5, x6, rfl, d5, d6, rfl, fun k => by
      have : ([] : List Int).getD (k - (i + j)) 0 = 0 := by simp
      rw [this]
      split <;> simp⟩
  | y :: ys, j, acc, x5, x6, d5, d6, hl, hm => by
    rw [List.length_cons] at hl
    have e := in_1 (X := X) (Y := Y) (acc := acc) (i := i) (j := j) (x := x) (y := y) (by omega) (hm y List.mem_cons_self)
    obtain ⟨acc', y5, y6, ih, e5, e6, h1, h2⟩ := in_for (X := X) (Y := Y) (i := i) (x := x) ys (j + 1) (acc.set (i + j) (acc.getD (i + j) 0 + x * y)) (some (.dat (.int (j : Nat)))) (some (.dat (.int y))) trivial trivial (by rw [List.length_set]; omega) fun z hz => hm z (List.mem_cons_of_mem _ hz)
    refine ⟨acc', y5, y6, ?_, e5, e6, by rw [h1, List.length_set], fun k => ?_⟩
    · have en : enumD j (nts (y :: ys)) = .tuple [.int (j : Nat), .int y] :: enumD (j + 1) (nts ys) := rfl
      rw [en]
      generalize InB = b at e ih ⊢
      simp only [forGo, aTup, aCons, aName, aNil, setD, List.length_cons, List.length_nil, List.set_cons_succ, List.set_cons_zero, Option.bind_some, Nat.reduceAdd, and_self, if_true, ↓reduceIte, e]
      exact ih
    · rw [h2, getD_set (by omega)]
      by_cases hk : k = i + j
      · subst hk
        rw [if_pos rfl, if_neg (by omega), if_pos (Nat.le_refl _), Nat.sub_self]
        simp
      · rw [if_neg hk]
        by_cases hk2 : i + j ≤ k
        · rw [if_pos (by omega), if_pos hk2, show k - (i + j) = (k - (i + (j + 1))) + 1 by omega, List.getD_cons_succ]
        · rw [if_neg (by omega), if_neg hk2]
abbrev OuB : FS := (fFor (fEnum (fConsA (fVar 1) fNilA)) (aTup 2 (aCons (aName 5) (aCons (aName 6) aNil))) InB)
def smx (w : Nat → Int) : Nat → List Int → Nat → Int
  | _, [], _ => 0
  | i, x :: xs, k => (if i ≤ k then x * w (k - i) else 0) + smx w (i + 1) xs k
theorem ou_for {X : PyData} {w : List Int} : ∀ (xs : List Int) (i : Nat) (acc : List Int) (x3 x4 x5 x6 : Option SV), Dt x3 → Dt x4 → Dt x5 → Dt x6 → i + xs.length + w.length ≤ acc.length → (∀ x ∈ xs, ∀ y ∈ w, gMul (.int x) (.int y) = some (.int (x * y))) →
    ∃ acc' y3 y4 y5 y6, forGo (aTup 2 (aCons (aName 3) (aCons (aName 4) aNil))) OuB (enumD i (nts xs)) ⟨[some (.dat X), some (.dat (.tuple (nts w))), some (.cel 0), x3, x4, x5, x6], [nts acc]⟩ = some (.nx ⟨[some (.dat X), some (.dat (.tuple (nts w))), some (.cel 0), y3, y4, y5, y6], [nts acc']⟩) ∧
      Dt y3 ∧ Dt y4 ∧ Dt y5 ∧ Dt y6 ∧ acc'.length = acc.length ∧ ∀ k, acc'.getD k 0 = acc.getD k 0 + smx (fun j => w.getD j 0) i xs k
  | [], i, acc, x3, x4, x5, x6, d3, d4, d5, d6, _, _ => ⟨acc, x3, x4, x5, x6, rfl, d3, d4, d5, d6, rfl, fun k => by unfold smx; omega⟩
  | x :: xs, i, acc, x3, x4, x5, x6, d3, d4, d5, d6, hl, hm => by
    rw [List.length_cons] at hl
    obtain ⟨acc1, z5, z6, e, g5, g6, h1, h2⟩ := in_for (X := X) (Y := .tuple (nts w)) (i := i) (x := x) w 0 acc x5 x6 d5 d6 (by omega) (hm x List.mem_cons_self)
    obtain ⟨acc', y3, y4, y5, y6, ih, e3, e4, e5, e6, h3, h4⟩ := ou_for (X := X) (w := w) xs (i + 1) acc1 (some (.dat (.int (i : Nat)))) (some (.dat (.int x))) z5 z6 trivial trivial g5 g6 (by omega) fun a ha => hm a (List.mem_cons_of_mem _ ha)
    refine ⟨acc', y3, y4, y5, y6, ?_, e3, e4, e5, e6, by omega, fun k => ?_⟩
    · have en : enumD i (nts (x :: xs)) = .tuple [.int (i : Nat), .int x] :: enumD (i + 1) (nts xs) := rfl
      have eo : OuB ⟨[some (.dat X), some (.dat (.tuple (nts w))), some (.cel 0), some (.dat (.int (i : Nat))), some (.dat (.int x)), x5, x6], [nts acc]⟩ = some (.nx ⟨[some (.dat X), some (.dat (.tuple (nts w))), some (.cel 0), some (.dat (.int (i : Nat))), some (.dat (.int x)), z5, z6], [nts acc1]⟩) := e
      rw [en]
      generalize OuB = b at eo ih ⊢
      simp only [forGo, aTup, aCons, aName, aNil, setD, List.length_cons, List.length_nil, List.set_cons_succ, List.set_cons_zero, Option.bind_some, Nat.reduceAdd, and_self, if_true, ↓reduceIte, eo]
      exact ih
    · rw [h4, h2]
      show _ = _ + ((if i ≤ k then x * w.getD (k - i) 0 else 0) + smx _ (i + 1) xs k)
      rw [Nat.add_zero]
      omega
theorem cvs_front (f : Nat → Int) : ∀ n, cvs f (n + 1) = f 0 + cvs (fun t => f (t + 1)) n
  | 0 => by simp [cvs]
  | n + 1 => by
    have h := cvs_front f n
    show cvs f (n + 1) + f (n + 1) = f 0 + (cvs (fun t => f (t + 1)) n + f (n + 1))
    rw [h]; omega
theorem smx_cvs (w : Nat → Int) (k : Nat) : ∀ (xs : List Int) (i : Nat), smx w i xs k = cvs (fun t => xs.getD t 0 * w (k - i - t)) (k + 1 - i)
  | [], i => by
    unfold smx
    rw [cvs_zero]
    intro t _
    simp
  | x :: xs, i => by
    unfold smx
    rw [smx_cvs w k xs (i + 1)]
    by_cases h : i ≤ k
    · rw [if_pos h, show k + 1 - i = (k + 1 - (i + 1)) + 1 by omega, cvs_front]
      have e : ∀ t, k - (i + 1) - t = k - i - (t + 1) := fun t => by omega
      simp only [List.getD_cons_zero, List.getD_cons_succ, Nat.sub_zero, e]
    · rw [if_neg h, show k + 1 - i = 0 by omega, show k + 1 - (i + 1) = 0 by omega]; rfl
theorem smx_cv (w : Nat → Int) (k : Nat) (xs : List Int) : smx w 0 xs k = cv (fun t => xs.getD t 0) w k := smx_cvs w k xs 0
theorem frzk {n0 i k : Nat} {b : FS} {st : Sta} {xs : List PyData} (h1 : st.ds[i]? = some (some (.cel k))) (h2 : n0 ≤ k ∧ k + 1 = st.cs.length) (h3 : st.cs[k]? = some xs) (h4 : noCel k (st.ds.set i (some (.dat (.list xs)))) = true) : fFrz n0 i b st = b ⟨st.ds.set i (some (.dat (.list xs))), st.cs.dropLast⟩ := by
  unfold fFrz
  rw [h1]
  simp only [h3, Option.bind_some]
  rw [if_pos h2, if_pos h4]
/-- the tuple of a polynomial's numbers, of m bits, none behind the d-th -/
def Pol (d m : Nat) (c : Nat → Int) (x : PyData) : Prop := ∃ v : List Int, x = .tuple (nts v) ∧ v.length ≤ d + 1 ∧ (∀ k, v.getD k 0 = c k) ∧ ∀ k, Sz m (c k)
theorem nts_rep (n : Nat) : (List.replicate n [PyData.int 0]).flatten = nts (List.replicate n 0) := by
  unfold nts
  rw [List.map_replicate]
  induction n with
  | zero => rfl
  | succ n ih => rw [List.replicate_succ, List.flatten_cons, ih]; rfl
end PL


set_option Elab.async false
set_option linter.all false
set_option maxRecDepth 100000
set_option maxHeartbeats 4000000
set_option exponentiation.threshold 20000
namespace PL
open PySem PySem.Spec L2 DL
local macro_rules | `(tactic| simp! [$as,*]) => `(tactic| simp only [fThaw, fThawT, fThawL, thawD, thawO, noL, noLAll, fAug, gAug, fRev, fFnA, fCallV, fBot, fZip, zipD, gSum, intsOf, List.foldl_cons, List.foldl_nil, mkF, fRet, fRetL, fRetN, fSkip, fSeq, fNever, fSet, fAsg, fNew, fIfS, fDrop, fPar, fPar3, fSetc, fSetc2, fVar, fLit, fOp, fUn, fTup, fTup.datsOf, fLst, fNilA, fConsA, fStarA, fCelA, fOfL, fTru, fAndT, fOrT, fNotT, fAndV, fOrV, fNotV, fIf, fBi, fCall, fCallL, fCallFr, fPerm, callF, celOf, celsOk, norm, aName, aNil, aCons, aTup, setD, fSl, fIt, fItL, fItT, fFor, forGo, fLc, lcGo, fYes, wipeD, fCix, fList, fSlL, fPart, fNoPart, fChain, List.length_cons, List.length_nil, List.getElem?_cons_zero, List.getElem?_cons_succ, List.getElem?_nil, List.set_cons_zero, List.set_cons_succ, List.map_cons, List.map_nil, List.cons_append, List.nil_append, List.append_nil, List.replicate, List.take_zero, List.take_nil, List.take_succ_cons, ↓bsome, ↓msome, Option.bind_some, Option.map_some, Option.bind_none, Option.map_none, Nat.sub_self, Int.cast_ofNat_Int, Nat.reduceAdd, Nat.reduceMul, Nat.reduceSub, Nat.reduceLeDiff, Nat.reduceLT, Nat.zero_add, Nat.add_zero, and_self, and_true, true_and, if_true, if_false, ↓reduceIte, ite_true, Bool.true_eq_false, Bool.false_eq_true, beq_self_eq_true, Bool.and_self, Bool.not_true, Bool.not_false, decide_true, decide_false, gLen, gTyIs, gTyNot, tyOf, gNeg, gPlus, DL.gSub, gCmp, gInt, gAbs, gTuple, gMax, gMin, gGcd, LIM, gIx, $as,*])
theorem noCel_d (x : PyData) (k : Nat) (r : Slots) : noCel k (some (.dat x) :: r) = noCel k r := rfl
theorem repL_ok {fa : FL} {fb : FE} {st : Sta} {xs : List PyData} {k : Int} {c1 c : Cs} (e1 : fa st = some (xs, c1)) (e2 : fb ⟨st.ds, c1⟩ = some (.int k, c)) (h : rngOk k = true ∧ xs.length * k.toNat ≤ 100000) : fRepL fa fb st = some ((List.replicate k.toNat xs).flatten, c) := by
  unfold fRepL
  rw [e1]
  simp only [Option.bind_some]
  rw [e2]
  simp only [Option.bind_some]
  rw [if_pos h]
theorem len1_ok {n : Nat} (h : n ≤ 1000) : [PyData.int 0].length * (n : Int).toNat ≤ 100000 := by
  rw [Int.toNat_natCast, List.length_singleton, Nat.one_mul]
  exact Nat.le_trans h (by decide)
theorem wp_1 {v w : List Int} (hN : rngOk ((v.length + w.length : Nat) : Int) = true) (hL : v.length + w.length ≤ 1000) : (fNew 2 (fRepL (fLst (fConsA (fLit (.int 0)) fNilA)) (fOp gPlus (fBi gLen (fConsA (fVar 0) fNilA)) (fBi gLen (fConsA (fVar 1) fNilA))))) ⟨[some (.dat (.tuple (nts v))), some (.dat (.tuple (nts w))), none, none, none, none, none], []⟩ = some (.nx ⟨[some (.dat (.tuple (nts v))), some (.dat (.tuple (nts w))), some (.cel 0), none, none, none, none], [nts (List.replicate (v.length + w.length) 0)]⟩) := by
  have l1 := nts_len v
  have l2 := nts_len w
  have hc : ((v.length : Nat) : Int) + (w.length : Nat) = ((v.length + w.length : Nat) : Int) := by omega
  have hr := nts_rep (v.length + w.length)
  have e1 : (fLst (fConsA (fLit (.int 0)) fNilA)) ⟨[some (.dat (.tuple (nts v))), some (.dat (.tuple (nts w))), none, none, none, none, none], []⟩ = some ([.int 0], []) := by simp! []
  have e2 : (fOp gPlus (fBi gLen (fConsA (fVar 0) fNilA)) (fBi gLen (fConsA (fVar 1) fNilA))) ⟨[some (.dat (.tuple (nts v))), some (.dat (.tuple (nts w))), none, none, none, none, none], []⟩ = some (.int ((v.length + w.length : Nat) : Int), []) := by simp! [l1, l2, hc]
  generalize (fLst (fConsA (fLit (.int 0)) fNilA)) = fa at *
  generalize (fOp gPlus (fBi gLen (fConsA (fVar 0) fNilA)) (fBi gLen (fConsA (fVar 1) fNilA))) = fb at *
  have e3 := repL_ok (st := ⟨[some (.dat (.tuple (nts v))), some (.dat (.tuple (nts w))), none, none, none, none, none], []⟩) e1 e2 ⟨hN, len1_ok hL⟩
  rw [Int.toNat_natCast, hr] at e3
  unfold fNew
  rw [e3]
  rfl
theorem wp_2 {v w acc : List Int} {s : Sta} (e : forGo (aTup 2 (aCons (aName 3) (aCons (aName 4) aNil))) OuB (enumD 0 (nts v)) ⟨[some (.dat (.tuple (nts v))), some (.dat (.tuple (nts w))), some (.cel 0), none, none, none, none], [nts acc]⟩ = some (.nx s)) :
    (fFor (fEnum (fConsA (fVar 0) fNilA)) (aTup 2 (aCons (aName 3) (aCons (aName 4) aNil))) OuB) ⟨[some (.dat (.tuple (nts v))), some (.dat (.tuple (nts w))), some (.cel 0), none, none, none, none], [nts acc]⟩ = some (.nx s) := by
  have ee : (fEnum (fConsA (fVar 0) fNilA)) ⟨[some (.dat (.tuple (nts v))), some (.dat (.tuple (nts w))), some (.cel 0), none, none, none, none], [nts acc]⟩ = some (enumD 0 (nts v), [nts acc]) := rfl
  unfold fFor
  rw [ee]
  exact e
theorem wp_3 {X Y : PyData} {acc z : List Int} {y3 y4 y5 y6 : Option SV} (d3 : Dt y3) (d4 : Dt y4) (d5 : Dt y5) (d6 : Dt y6) (e3 : F_trimmed [.dat (.list (nts acc))] [] = some (.dat (.tuple (nts z)), [])) :
    (fFrz 0 2 (fRet (fCall F_trimmed (fConsA (fVar 2) fNilA)))) ⟨[some (.dat X), some (.dat Y), some (.cel 0), y3, y4, y5, y6], [nts acc]⟩ = some (.rt (.dat (.tuple (nts z))) []) := by
  refine (frzk (n0 := 0) (k := 0) (xs := nts acc) rfl ⟨Nat.le_refl _, rfl⟩ rfl ?_).trans ?_
  · show noCel 0 [some (.dat X), some (.dat Y), some (.dat (.list (nts acc))), y3, y4, y5, y6] = true
    rw [noCel_d, noCel_d, noCel_d, noCel_dt d3, noCel_dt d4, noCel_dt d5, noCel_dt d6]
    rfl
  · show (fRet (fCall F_trimmed (fConsA (fVar 2) fNilA))) ⟨[some (.dat X), some (.dat Y), some (.dat (.list (nts acc))), y3, y4, y5, y6], []⟩ = _
    simp! [e3]
theorem w_product {v w : List Int} (hv : v.length ≤ 100) (hw : w.length ≤ 100) (hm : ∀ x ∈ v, ∀ y ∈ w, gMul (.int x) (.int y) = some (.int (x * y))) :
    ∃ z : List Int, F_polynomial_product [.dat (.tuple (nts v)), .dat (.tuple (nts w))] [] = some (.dat (.tuple (nts z)), []) ∧ z.length ≤ v.length + w.length ∧ (∀ k, z.getD k 0 = if k < v.length + w.length then cv (fun t => v.getD t 0) (fun t => w.getD t 0) k else 0) ∧ (z = [] ∨ z.getD (z.length - 1) 0 ≠ 0) := by
  have hN : rngOk ((v.length + w.length : Nat) : Int) = true := rng_ok (by omega) (by omega)
  have hL : v.length + w.length ≤ 1000 := by omega
  obtain ⟨acc, y3, y4, y5, y6, e, d3, d4, d5, d6, h1, h2⟩ := ou_for (X := .tuple (nts v)) (w := w) v 0 (List.replicate (v.length + w.length) 0) none none none none trivial trivial trivial trivial (by rw [List.length_replicate]; omega) hm
  rw [List.length_replicate] at h1
  obtain ⟨m, m0, e3, m1, m2⟩ := w_trimmed (v := acc) (by omega)
  refine ⟨acc.take m, ?_, by rw [List.length_take]; omega, fun k => ?_, ?_⟩
  · have a1 := wp_1 (v := v) (w := w) hN hL
    have a2 := wp_2 e
    have a3 := wp_3 (X := .tuple (nts v)) (Y := .tuple (nts w)) d3 d4 d5 d6 e3
    have e0 : b_polynomial_product = fSeq (fNew 2 (fRepL (fLst (fConsA (fLit (.int 0)) fNilA)) (fOp gPlus (fBi gLen (fConsA (fVar 0) fNilA)) (fBi gLen (fConsA (fVar 1) fNilA))))) (fSeq (fFor (fEnum (fConsA (fVar 0) fNilA)) (aTup 2 (aCons (aName 3) (aCons (aName 4) aNil))) OuB) (fFrz 0 2 (fRet (fCall F_trimmed (fConsA (fVar 2) fNilA))))) := rfl
    refine fn_ok (np := 2) (nN := 7) (n0 := 0) (c := []) ?_ ⟨rfl, rfl⟩ rfl
    rw [e0]
    generalize OuB = ob at *
    exact (seq_nx a1).trans ((seq_nx a2).trans a3)
  · have hr : (List.replicate (v.length + w.length) (0 : Int)).getD k 0 = 0 := by
      rw [List.getD_eq_getElem?_getD, List.getElem?_replicate]
      split <;> rfl
    have ek := h2 k
    rw [hr, Int.zero_add, smx_cv] at ek
    by_cases hk : k < m
    · rw [if_pos (by omega), ← ek, List.getD_eq_getElem?_getD, List.getElem?_take_of_lt hk, List.getD_eq_getElem?_getD]
    · have hz := m1 k (by omega)
      have hz2 : (acc.take m).getD k 0 = 0 := by
        rw [List.getD_eq_getElem?_getD, List.getElem?_eq_none (by rw [List.length_take]; omega)]; rfl
      rw [hz2]
      split
      · rw [← ek, hz]
      · rfl
  · rcases m2 with hm0 | hm0
    · left
      rw [hm0, List.take_zero]
    · right
      by_cases hz : m = 0
      · exact absurd (m1 (m - 1) (by omega)) hm0
      · rw [List.length_take, Nat.min_eq_left m0, List.getD_eq_getElem?_getD, List.getElem?_take_of_lt (by omega), ← List.getD_eq_getElem?_getD]
        exact hm0
theorem pol_zero {d m : Nat} {c : Nat → Int} {x : PyData} (h : Pol d m c x) {k : Nat} (hk : d < k) : c k = 0 := by
  obtain ⟨v, _, hl, hc, _⟩ := h
  rw [← hc k, List.getD_eq_getElem?_getD, List.getElem?_eq_none (by omega)]; rfl
theorem w_pol {d e m n : Nat} {c b : Nat → Int} {x y : PyData} (hx : Pol d m c x) (hy : Pol e n b y) (hd : d + e ≤ 50) (hm : m ≤ 3000) (hn : n ≤ 3000) : ∃ z, F_polynomial_product [.dat x, .dat y] [] = some (.dat z, []) ∧ Pol (d + e) (m + n + d + e + 1) (cv c b) z := by
  have zx := fun k => pol_zero hx (k := k)
  have zy := fun k => pol_zero hy (k := k)
  obtain ⟨v, rfl, hl, hc, hs⟩ := hx
  obtain ⟨w, rfl, hl2, hc2, hs2⟩ := hy
  have sv : ∀ a ∈ v, Sz m a := fun a ha => by
    obtain ⟨k, hk, rfl⟩ := List.getElem_of_mem ha
    have := hc k
    rw [List.getD_eq_getElem?_getD, List.getElem?_eq_getElem hk] at this
    rw [show v[k] = c k from this]
    exact hs k
  have sw : ∀ a ∈ w, Sz n a := fun a ha => by
    obtain ⟨k, hk, rfl⟩ := List.getElem_of_mem ha
    have := hc2 k
    rw [List.getD_eq_getElem?_getD, List.getElem?_eq_getElem hk] at this
    rw [show w[k] = b k from this]
    exact hs2 k
  obtain ⟨z, ez, z1, z2, z3⟩ := w_product (v := v) (w := w) (by omega) (by omega) fun a ha a' ha' => gMul_ok ((sv a ha).sm (by omega)) ((sw a' ha').sm (by omega))
  have ec : (fun t => v.getD t 0) = c := funext hc
  have eb : (fun t => w.getD t 0) = b := funext hc2
  rw [ec, eb] at z2
  have far : ∀ k, d + e < k → cv c b k = 0 := fun k hk => cvs_zero _ fun i _ => by
    by_cases hi : d < i
    · rw [zx i hi, Int.zero_mul]
    · rw [zy (k - i) (by omega), Int.mul_zero]
  have zk : ∀ k, z.getD k 0 = cv c b k := fun k => by
    rw [z2 k]
    split
    · rfl
    · refine (cvs_zero _ fun i _ => ?_).symm
      by_cases hi : i < v.length
      · have : w.getD (k - i) 0 = 0 := by rw [List.getD_eq_getElem?_getD, List.getElem?_eq_none (by omega)]; rfl
        rw [← hc2, this, Int.mul_zero]
      · have : v.getD i 0 = 0 := by rw [List.getD_eq_getElem?_getD, List.getElem?_eq_none (by omega)]; rfl
        rw [← hc, this, Int.zero_mul]
  refine ⟨_, ez, z, rfl, ?_, zk, fun k => ?_⟩
  · rcases z3 with rfl | hz
    · simp
    · refine Classical.byContradiction fun hn => hz ?_
      rw [zk]
      exact far _ (by omega)
  · by_cases hk : k ≤ d + e
    · have := cvs_sz (m := m + n) (f := fun i => c i * b (k - i)) (fun i => (hs i).mul (hs2 (k - i))) (k + 1)
      exact this.by _ (by omega)
    · rw [far k (by omega)]
      exact sz_0.by _ (by omega)
end PL


set_option Elab.async false
set_option linter.all false
set_option maxRecDepth 100000
set_option maxHeartbeats 4000000
set_option exponentiation.threshold 20000
namespace PL
open PySem PySem.Spec L2 DL
local macro_rules | `(tactic| simp! [$as,*]) => `(tactic| simp only [fThaw, fThawT, fThawL, thawD, thawO, noL, noLAll, fAug, gAug, fRev, fFnA, fCallV, fBot, fZip, zipD, gSum, intsOf, List.foldl_cons, List.foldl_nil, mkF, fRet, fRetL, fRetN, fSkip, fSeq, fNever, fSet, fAsg, fNew, fIfS, fDrop, fPar, fPar3, fSetc, fSetc2, fVar, fLit, fOp, fUn, fTup, fTup.datsOf, fLst, fNilA, fConsA, fStarA, fCelA, fOfL, fTru, fAndT, fOrT, fNotT, fAndV, fOrV, fNotV, fIf, fBi, fCall, fCallL, fCallFr, fPerm, callF, celOf, celsOk, norm, aName, aNil, aCons, aTup, setD, fSl, fIt, fItL, fItT, fFor, forGo, fLc, lcGo, fYes, wipeD, fCix, fList, fSlL, fPart, fNoPart, fChain, List.length_cons, List.length_nil, List.getElem?_cons_zero, List.getElem?_cons_succ, List.getElem?_nil, List.set_cons_zero, List.set_cons_succ, List.map_cons, List.map_nil, List.cons_append, List.nil_append, List.append_nil, List.replicate, List.take_zero, List.take_nil, List.take_succ_cons, ↓bsome, ↓msome, Option.bind_some, Option.map_some, Option.bind_none, Option.map_none, Nat.sub_self, Int.cast_ofNat_Int, Nat.reduceAdd, Nat.reduceMul, Nat.reduceSub, Nat.reduceLeDiff, Nat.reduceLT, Nat.zero_add, Nat.add_zero, and_self, and_true, true_and, if_true, if_false, ↓reduceIte, ite_true, Bool.true_eq_false, Bool.false_eq_true, beq_self_eq_true, Bool.and_self, Bool.not_true, Bool.not_false, decide_true, decide_false, gLen, gTyIs, gTyNot, tyOf, gNeg, gPlus, DL.gSub, gCmp, gInt, gAbs, gTuple, gMax, gMin, gGcd, LIM, gIx, $as,*])
def one0 : Nat → Int
  | 0 => 1
  | _ => 0
def lin (a b : Int) : Nat → Int
  | 0 => a
  | 1 => b
  | _ => 0
def pwi (b : Nat → Int) : (Nat → Int) → Nat → (Nat → Int)
  | c, 0 => c
  | c, n + 1 => pwi b (cv c b) n
theorem pol_one : Pol 0 2 one0 (.tuple [.int 1]) := ⟨[1], rfl, by decide, fun k => by cases k <;> rfl, fun k => by
  cases k with
  | zero => exact sz_1.by _ (by decide)
  | succ k => exact sz_0.by _ (by decide)⟩
theorem pol_lin {m : Nat} {a b : Int} (sa : Sz m a) (sb : Sz m b) : Pol 1 m (lin a b) (T2 a b) := ⟨[a, b], rfl, by simp, fun k => by
  match k with
  | 0 => rfl
  | 1 => rfl
  | k + 2 => rfl, fun k => by
  match k with
  | 0 => exact sa
  | 1 => exact sb
  | k + 2 => exact sz_0.by _ (by omega)⟩
abbrev PwB : FS := (fSet 2 (fCall F_polynomial_product (fConsA (fVar 2) (fConsA (fVar 0) fNilA))))
theorem pw_for {m : Nat} {b : Nat → Int} {x N : PyData} (hx : Pol 1 m b x) (hm : m ≤ 300) : ∀ (ks : List PyData) (D M : Nat) (c : Nat → Int) (W : PyData) (x3 : Option SV), Pol D M c W → D + ks.length ≤ 10 → M + ks.length * (m + 15) ≤ 2500 →
    ∃ W' y3, forGo (aName 3) PwB ks ⟨[some (.dat x), some (.dat N), some (.dat W), x3], []⟩ = some (.nx ⟨[some (.dat x), some (.dat N), some (.dat W'), y3], []⟩) ∧ Pol (D + ks.length) (M + ks.length * (m + 15)) (pwi b c ks.length) W'
  | [], D, M, c, W, x3, h, _, _ => ⟨W, x3, rfl, by simpa [pwi] using h⟩
  | k :: ks, D, M, c, W, x3, h, h1, h2 => by
    rw [List.length_cons] at h1 h2
    rw [Nat.add_mul] at h2
    obtain ⟨z, ez, pz⟩ := w_pol h hx (by omega) (by omega) (by omega)
    have pz' : Pol (D + 1) (M + (m + 15)) (cv c b) z := by
      obtain ⟨v, e1, e2, e3, e4⟩ := pz
      exact ⟨v, e1, e2, e3, fun k => (e4 k).by _ (by omega)⟩
    obtain ⟨W', y3, ih, p⟩ := pw_for hx hm ks (D + 1) (M + (m + 15)) (cv c b) z (some (.dat k)) pz' (by omega) (by omega)
    refine ⟨W', y3, ?_, ?_⟩
    · have e : PwB ⟨[some (.dat x), some (.dat N), some (.dat W), some (.dat k)], []⟩ = some (.nx ⟨[some (.dat x), some (.dat N), some (.dat z), some (.dat k)], []⟩) := by
        simp! [ez]
      generalize PwB = bb at e ih ⊢
      simp only [forGo, aName, setD, List.set_cons_succ, List.set_cons_zero, Option.bind_some, e]
      exact ih
    · have q1 : D + 1 + ks.length = D + (k :: ks).length := by rw [List.length_cons]; omega
      have q2 : M + (m + 15) + ks.length * (m + 15) = M + (k :: ks).length * (m + 15) := by rw [List.length_cons, Nat.add_mul]; omega
      rw [q1, q2] at p
      exact p
theorem w_power {m n : Nat} {b : Nat → Int} {x : PyData} (hx : Pol 1 m b x) (hm : m ≤ 300) (hn : n ≤ 4) : ∃ W, F__power [.dat x, .dat (.int (n : Nat))] [] = some (.dat W, []) ∧ Pol n (2 + n * (m + 15)) (pwi b one0 n) W := by
  have hb : n * (m + 15) ≤ 4 * (m + 15) := Nat.mul_le_mul_right _ hn
  obtain ⟨W, y3, e, p⟩ := pw_for (N := .int (n : Nat)) hx hm (rangeD 0 n) 0 2 one0 (.tuple [.int 1]) none pol_one (by rw [rangeD_len]; omega) (by rw [rangeD_len]; omega)
  rw [rangeD_len, Nat.zero_add] at p
  refine ⟨W, ?_, p⟩
  have a1 : (fSet 2 (fTup (fConsA (fLit (.int 1)) fNilA))) ⟨[some (.dat x), some (.dat (.int (n : Nat))), none, none], []⟩ = some (.nx ⟨[some (.dat x), some (.dat (.int (n : Nat))), some (.dat (.tuple [.int 1])), none], []⟩) := by
    simp! []
  have er : fRng1 (fConsA (fVar 1) fNilA) ⟨[some (.dat x), some (.dat (.int (n : Nat))), some (.dat (.tuple [.int 1])), none], []⟩ = some (rangeD 0 n, []) := rg_of (J := n) rfl (by omega)
  have a2 : (fFor (fRng1 (fConsA (fVar 1) fNilA)) (aName 3) PwB) ⟨[some (.dat x), some (.dat (.int (n : Nat))), some (.dat (.tuple [.int 1])), none], []⟩ = some (.nx ⟨[some (.dat x), some (.dat (.int (n : Nat))), some (.dat W), y3], []⟩) := by
    unfold fFor
    rw [er]
    exact e
  have e0 : b__power = fSeq (fSet 2 (fTup (fConsA (fLit (.int 1)) fNilA))) (fSeq (fFor (fRng1 (fConsA (fVar 1) fNilA)) (aName 3) PwB) (fRet (fVar 2))) := rfl
  refine fn_ok (np := 2) (nN := 4) (n0 := 0) (c := []) ?_ ⟨rfl, rfl⟩ rfl
  rw [e0]
  refine (seq_nx a1).trans ((seq_nx a2).trans ?_)
  simp! []
/-- the numbers of (a + b h)^i (b - a h)^(4 - i) -/
def C4 (a b : Int) (i : Nat) : Nat → Int := cv (pwi (lin a b) one0 i) (pwi (lin b (-a)) one0 (4 - i))
def C4s (a b : Int) : Nat → Nat → Int
  | 0, 0 => b * b * b * b
  | 0, 1 => -(4 * a * b * b * b)
  | 0, 2 => 6 * a * a * b * b
  | 0, 3 => -(4 * a * a * a * b)
  | 0, 4 => a * a * a * a
  | 1, 0 => a * b * b * b
  | 1, 1 => b * b * b * b - 3 * a * a * b * b
  | 1, 2 => 3 * a * a * a * b - 3 * a * b * b * b
  | 1, 3 => 3 * a * a * b * b - a * a * a * a
  | 1, 4 => -(a * a * a * b)
  | 2, 0 => a * a * b * b
  | 2, 1 => 2 * a * b * b * b - 2 * a * a * a * b
  | 2, 2 => a * a * a * a - 4 * a * a * b * b + b * b * b * b
  | 2, 3 => 2 * a * a * a * b - 2 * a * b * b * b
  | 2, 4 => a * a * b * b
  | 3, 0 => a * a * a * b
  | 3, 1 => 3 * a * a * b * b - a * a * a * a
  | 3, 2 => 3 * a * b * b * b - 3 * a * a * a * b
  | 3, 3 => b * b * b * b - 3 * a * a * b * b
  | 3, 4 => -(a * b * b * b)
  | 4, 0 => a * a * a * a
  | 4, 1 => 4 * a * a * a * b
  | 4, 2 => 6 * a * a * b * b
  | 4, 3 => 4 * a * b * b * b
  | 4, 4 => b * b * b * b
  | _, _ => 0
theorem c4_s (a b : Int) : ∀ i, i < 5 → ∀ k, k < 5 → C4 a b i k = C4s a b i k := by
  intro i hi k hk
  have h1 : i = 0 ∨ i = 1 ∨ i = 2 ∨ i = 3 ∨ i = 4 := by omega
  have h2 : k = 0 ∨ k = 1 ∨ k = 2 ∨ k = 3 ∨ k = 4 := by omega
  rcases h1 with rfl | rfl | rfl | rfl | rfl <;> rcases h2 with rfl | rfl | rfl | rfl | rfl <;> (simp only [C4, C4s, pwi, cv, cvs, lin, one0, Nat.sub_self, Nat.reduceSub, Nat.reduceAdd, Nat.zero_add, Nat.sub_zero]; grind)
end PL


set_option Elab.async false
set_option linter.all false
set_option maxRecDepth 100000
set_option maxHeartbeats 4000000
set_option exponentiation.threshold 20000
namespace PL
open PySem PySem.Spec L2 DL
local macro_rules | `(tactic| simp! [$as,*]) => `(tactic| simp only [fThaw, fThawT, fThawL, thawD, thawO, noL, noLAll, fAug, gAug, fRev, fFnA, fCallV, fBot, fZip, zipD, gSum, intsOf, List.foldl_cons, List.foldl_nil, mkF, fRet, fRetL, fRetN, fSkip, fSeq, fNever, fSet, fAsg, fNew, fIfS, fDrop, fPar, fPar3, fSetc, fSetc2, fVar, fLit, fOp, fUn, fTup, fTup.datsOf, fLst, fNilA, fConsA, fStarA, fCelA, fOfL, fTru, fAndT, fOrT, fNotT, fAndV, fOrV, fNotV, fIf, fBi, fCall, fCallL, fCallFr, fPerm, callF, celOf, celsOk, norm, aName, aNil, aCons, aTup, setD, fSl, fIt, fItL, fItT, fFor, forGo, fLc, lcGo, fYes, wipeD, fCix, fList, fSlL, fPart, fNoPart, fChain, List.length_cons, List.length_nil, List.getElem?_cons_zero, List.getElem?_cons_succ, List.getElem?_nil, List.set_cons_zero, List.set_cons_succ, List.map_cons, List.map_nil, List.cons_append, List.nil_append, List.append_nil, List.replicate, List.take_zero, List.take_nil, List.take_succ_cons, ↓bsome, ↓msome, Option.bind_some, Option.map_some, Option.bind_none, Option.map_none, Nat.sub_self, Int.cast_ofNat_Int, Nat.reduceAdd, Nat.reduceMul, Nat.reduceSub, Nat.reduceLeDiff, Nat.reduceLT, Nat.zero_add, Nat.add_zero, and_self, and_true, true_and, if_true, if_false, ↓reduceIte, ite_true, Bool.true_eq_false, Bool.false_eq_true, beq_self_eq_true, Bool.and_self, Bool.not_true, Bool.not_false, decide_true, decide_false, gLen, gTyIs, gTyNot, tyOf, gNeg, gPlus, DL.gSub, gCmp, gInt, gAbs, gTuple, gMax, gMin, gGcd, LIM, gIx, $as,*])
abbrev T6 (a b c d e f : Int) : PyData := .tuple [.int a, .int b, .int c, .int d, .int e, .int f]
theorem sz_dvd {m : Nat} {a b : Int} (h : Sz m b) (hb : 0 < b) (hd : a ∣ b) (ha : 0 < a) : Sz m a := by
  have h1 : a ≤ b := Int.le_of_dvd hb hd
  have h2 := h.sm (m := m) (Nat.le_refl _)
  refine Sm.sz ?_
  unfold Sm at *
  omega
theorem lcm_ok {m : Nat} {a b : Int} (sa : Sz m a) (sb : Sz m b) (sl : Sz m ((Nat.lcm a.natAbs b.natAbs : Nat) : Int)) (hm : m ≤ 3000) (h0 : 1 ≤ m) (ha : 0 < a) (hb : 0 < b) : gLcm [.int a, .int b] = some (.int ((Nat.lcm a.natAbs b.natAbs : Nat) : Int)) := by
  have a1 : a.natAbs < 2 ^ m := sa.sm (m := m) (Nat.le_refl _)
  have b1 : b.natAbs < 2 ^ m := sb.sm (m := m) (Nat.le_refl _)
  have l1 : ((Nat.lcm a.natAbs b.natAbs : Nat) : Int).natAbs < 2 ^ m := sl.sm (m := m) (Nat.le_refl _)
  rw [Int.natAbs_natCast] at l1
  have lg : ∀ n : Nat, n ≠ 0 → n < 2 ^ m → n.log2 ≤ 3000 := fun n h0 h => by
    have := (Nat.log2_lt h0).mpr h
    omega
  have hl0 : Nat.lcm a.natAbs b.natAbs ≠ 0 := Nat.lcm_ne_zero (by omega) (by omega)
  have ok : lcmOk a b = true := by
    unfold lcmOk
    rw [decide_eq_true_eq]
    refine ⟨?_, ?_, ?_⟩
    · exact Nat.le_trans (lg _ (by omega) (by omega)) (by decide)
    · exact Nat.le_trans (lg _ (by omega) (by omega)) (by decide)
    · exact Nat.lt_of_le_of_lt (lg _ hl0 l1) (by decide)
  show (if lcmOk a b = true then _ else _) = _
  rw [if_pos ok]
abbrev LcB : FS := (fSet 2 (fBi gLcm (fConsA (fVar 2) (fConsA (fOp gIx (fVar 3) (fLit (.int 1))) fNilA))))
theorem lc_for {m : Nat} {N : Int} {X Y : PyData} (sN : Sz m N) (hN : 0 < N) (hm : m ≤ 3000) (h1 : 1 ≤ m) : ∀ (ws : List (Int × Int)) (B : Int) (x3 : Option SV), 0 < B → B ∣ N → (∀ w ∈ ws, 0 < w.2 ∧ w.2 ∣ N) →
    ∃ B' y3, forGo (aName 3) LcB (ws.map fun w => T2 w.1 w.2) ⟨[some (.dat X), some (.dat Y), some (.dat (.int B)), x3, none, none, none], []⟩ = some (.nx ⟨[some (.dat X), some (.dat Y), some (.dat (.int B')), y3, none, none, none], []⟩) ∧ 0 < B' ∧ B' ∣ N ∧ B ∣ B' ∧ ∀ w ∈ ws, w.2 ∣ B'
  | [], B, x3, b0, bN, _ => ⟨B, x3, rfl, b0, bN, Int.dvd_refl _, fun w h => by simp at h⟩
  | w :: ws, B, x3, b0, bN, hw => by
    obtain ⟨w0, wN⟩ := hw w List.mem_cons_self
    have dN : ((Nat.lcm B.natAbs w.2.natAbs : Nat) : Int) ∣ N := by
      rw [← Int.natAbs_dvd_natAbs, Int.natAbs_natCast]
      exact Nat.lcm_dvd (Int.natAbs_dvd_natAbs.mpr bN) (Int.natAbs_dvd_natAbs.mpr wN)
    have l0 : (0 : Int) < ((Nat.lcm B.natAbs w.2.natAbs : Nat) : Int) := by
      have := Nat.lcm_pos (show 0 < B.natAbs by omega) (show 0 < w.2.natAbs by omega)
      omega
    have lc := lcm_ok (sz_dvd sN hN bN b0) (sz_dvd sN hN wN w0) (sz_dvd sN hN dN l0) hm h1 b0 w0
    have d1 : B ∣ ((Nat.lcm B.natAbs w.2.natAbs : Nat) : Int) := by
      rw [← Int.natAbs_dvd_natAbs, Int.natAbs_natCast]; exact Nat.dvd_lcm_left _ _
    have d2 : w.2 ∣ ((Nat.lcm B.natAbs w.2.natAbs : Nat) : Int) := by
      rw [← Int.natAbs_dvd_natAbs, Int.natAbs_natCast]; exact Nat.dvd_lcm_right _ _
    generalize ((Nat.lcm B.natAbs w.2.natAbs : Nat) : Int) = L at *
    obtain ⟨B', y3, ih, p0, pN, pB, pw⟩ := lc_for (X := X) (Y := Y) sN hN hm h1 ws L (some (.dat (T2 w.1 w.2))) l0 dN fun v hv => hw v (List.mem_cons_of_mem _ hv)
    refine ⟨B', y3, ?_, p0, pN, Int.dvd_trans d1 pB, fun v hv => ?_⟩
    · have e : LcB ⟨[some (.dat X), some (.dat Y), some (.dat (.int B)), some (.dat (T2 w.1 w.2)), none, none, none], []⟩ = some (.nx ⟨[some (.dat X), some (.dat Y), some (.dat (.int L)), some (.dat (T2 w.1 w.2)), none, none, none], []⟩) := by
        simp! [gIx, ix2_1, lc]
      generalize LcB = b at e ih ⊢
      simp only [List.map_cons, forGo, aName, setD, List.set_cons_succ, List.set_cons_zero, Option.bind_some, e]
      exact ih
    · rcases List.mem_cons.mp hv with rfl | hv
      · exact Int.dvd_trans d2 pB
      · exact pw v hv
theorem repE_ok {fa : FL} {fb : FE} {st : Sta} {xs : List PyData} {k : Int} {c1 c : Cs} (e1 : fa st = some (xs, c1)) (e2 : fb ⟨st.ds, c1⟩ = some (.int k, c)) (h : rngOk k = true ∧ xs.length * k.toNat ≤ 100000) : fRep fa fb st = some (.list (List.replicate k.toNat xs).flatten, c) := by
  unfold fRep
  rw [e1]
  simp only [Option.bind_some]
  rw [e2]
  simp only [Option.bind_some]
  rw [if_pos h]
theorem rep0 (k : Nat) (h : k ≤ 5) (ds : Slots) {fb : FE} {c : Cs} (e2 : fb ⟨ds, []⟩ = some (.int (k : Nat), c)) : (fRep (fLst (fConsA (fLit (.int 0)) fNilA)) fb) ⟨ds, []⟩ = some (.list (nts (List.replicate k 0)), c) := by
  have e1 : (fLst (fConsA (fLit (.int 0)) fNilA)) ⟨ds, []⟩ = some ([.int 0], []) := by
    simp! []
  have e3 := repE_ok (st := ⟨ds, []⟩) e1 e2 ⟨rng_ok (by omega) (by omega), len1_ok (by omega)⟩
  rw [Int.toNat_natCast, nts_rep] at e3
  exact e3
abbrev WhE : FS := (fSet 6 (fOfL (fLst (fStarA (fVar 5) (fStarA (fRep (fLst (fConsA (fLit (.int 0)) fNilA)) (fOp gSub (fLit (.int 5)) (fBi gLen (fConsA (fVar 5) fNilA)))) fNilA)))))
theorem whole_ok {m : Nat} {c : Nat → Int} {W : PyData} (h : Pol 4 m c W) {x0 x1 x2 x3 x4 x6 : Option SV} : WhE ⟨[x0, x1, x2, x3, x4, some (.dat W), x6], []⟩ = some (.nx ⟨[x0, x1, x2, x3, x4, some (.dat W), some (.dat (L5 (c 0) (c 1) (c 2) (c 3) (c 4)))], []⟩) := by
  obtain ⟨v, rfl, hl, hc, _⟩ := h
  have es : (fOp gSub (fLit (.int 5)) (fBi gLen (fConsA (fVar 5) fNilA))) ⟨[x0, x1, x2, x3, x4, some (.dat (.tuple (nts v))), x6], []⟩ = some (.int ((5 - v.length : Nat) : Int), []) := by
    have l1 := nts_len v
    have hs : (5 : Int) - ((v.length : Nat) : Int) = ((5 - v.length : Nat) : Int) := by omega
    simp! [l1, hs]
  have er := rep0 (5 - v.length) (by omega) [x0, x1, x2, x3, x4, some (.dat (.tuple (nts v))), x6] es
  generalize hfr : (fRep (fLst (fConsA (fLit (.int 0)) fNilA)) (fOp gSub (fLit (.int 5)) (fBi gLen (fConsA (fVar 5) fNilA)))) = fr at er
  have hall : nts v ++ nts (List.replicate (5 - v.length) 0) = [.int (c 0), .int (c 1), .int (c 2), .int (c 3), .int (c 4)] := by
    rw [← hc 0, ← hc 1, ← hc 2, ← hc 3, ← hc 4]
    match v, hl with
    | [], _ => rfl
    | [_], _ => rfl
    | [_, _], _ => rfl
    | [_, _, _], _ => rfl
    | [_, _, _, _], _ => rfl
    | [_, _, _, _, _], _ => rfl
  have ea : (fStarA (fVar 5) (fStarA fr fNilA)) ⟨[x0, x1, x2, x3, x4, some (.dat (.tuple (nts v))), x6], []⟩ = some ([.dat (.int (c 0)), .dat (.int (c 1)), .dat (.int (c 2)), .dat (.int (c 3)), .dat (.int (c 4))], []) := by
    have hm : (nts v).map SV.dat ++ (nts (List.replicate (5 - v.length) 0)).map SV.dat = [.dat (.int (c 0)), .dat (.int (c 1)), .dat (.int (c 2)), .dat (.int (c 3)), .dat (.int (c 4))] := by
      rw [← List.map_append, hall]; rfl
    simp! [er, hm]
  have e0 : WhE = (fSet 6 (fOfL (fLst (fStarA (fVar 5) (fStarA (fRep (fLst (fConsA (fLit (.int 0)) fNilA)) (fOp gSub (fLit (.int 5)) (fBi gLen (fConsA (fVar 5) fNilA)))) fNilA))))) := rfl
  rw [e0, hfr]
  generalize (fStarA (fVar 5) (fStarA fr fNilA)) = fs at ea ⊢
  simp! [ea]
end PL


set_option Elab.async false
set_option linter.all false
set_option maxRecDepth 100000
set_option maxHeartbeats 4000000
set_option exponentiation.threshold 20000
namespace PL
open PySem PySem.Spec L2 DL
local macro_rules | `(tactic| simp! [$as,*]) => `(tactic| simp only [fThaw, fThawT, fThawL, thawD, thawO, noL, noLAll, fAug, gAug, fRev, fFnA, fCallV, fBot, fZip, zipD, gSum, intsOf, List.foldl_cons, List.foldl_nil, mkF, fRet, fRetL, fRetN, fSkip, fSeq, fNever, fSet, fAsg, fNew, fIfS, fDrop, fPar, fPar3, fSetc, fSetc2, fVar, fLit, fOp, fUn, fTup, fTup.datsOf, fLst, fNilA, fConsA, fStarA, fCelA, fOfL, fTru, fAndT, fOrT, fNotT, fAndV, fOrV, fNotV, fIf, fBi, fCall, fCallL, fCallFr, fPerm, callF, celOf, celsOk, norm, aName, aNil, aCons, aTup, setD, fSl, fIt, fItL, fItT, fFor, forGo, fLc, lcGo, fYes, wipeD, fCix, fList, fSlL, fPart, fNoPart, fChain, List.length_cons, List.length_nil, List.getElem?_cons_zero, List.getElem?_cons_succ, List.getElem?_nil, List.set_cons_zero, List.set_cons_succ, List.map_cons, List.map_nil, List.cons_append, List.nil_append, List.append_nil, List.replicate, List.take_zero, List.take_nil, List.take_succ_cons, ↓bsome, ↓msome, Option.bind_some, Option.map_some, Option.bind_none, Option.map_none, Nat.sub_self, Int.cast_ofNat_Int, Nat.reduceAdd, Nat.reduceMul, Nat.reduceSub, Nat.reduceLeDiff, Nat.reduceLT, Nat.zero_add, Nat.add_zero, and_self, and_true, true_and, if_true, if_false, ↓reduceIte, ite_true, Bool.true_eq_false, Bool.false_eq_true, beq_self_eq_true, Bool.and_self, Bool.not_true, Bool.not_false, decide_true, decide_false, gLen, gTyIs, gTyNot, tyOf, gNeg, gPlus, DL.gSub, gCmp, gInt, gAbs, gTuple, gMax, gMin, gGcd, LIM, gIx, $as,*])
theorem w_comb {t0 t1 t2 t3 t4 s c0 c1 c2 c3 c4 : Int} (h0 : Sm 4000 t0) (h1 : Sm 4000 t1) (h2 : Sm 4000 t2) (h3 : Sm 4000 t3) (h4 : Sm 4000 t4) (hs : Sm 4000 s) (k0 : Sm 4000 c0) (k1 : Sm 4000 c1) (k2 : Sm 4000 c2) (k3 : Sm 4000 c3) (k4 : Sm 4000 c4) :
    F_combined [.dat (.int 1), .dat (T5 t0 t1 t2 t3 t4), .dat (.int s), .dat (L5 c0 c1 c2 c3 c4)] [] = some (.dat (T5 (t0 + s * c0) (t1 + s * c1) (t2 + s * c2) (t3 + s * c3) (t4 + s * c4)), []) := by
  have o : ∀ {x : Int}, Sm 4000 x → gMul (.int 1) (.int x) = some (.int x) := fun h => by rw [gMul_ok sz_1.sm h, Int.one_mul]
  have a0 := o h0
  have a1 := o h1
  have a2 := o h2
  have a3 := o h3
  have a4 := o h4
  have b0 := gMul_ok hs k0
  have b1 := gMul_ok hs k1
  have b2 := gMul_ok hs k2
  have b3 := gMul_ok hs k3
  have b4 := gMul_ok hs k4
  simp! [F_combined, b_combined, fZip, zipD, a0, a1, a2, a3, a4, b0, b1, b2, b3, b4]
abbrev WbB : FS := (fSeq WhE (fSet 4 (fCall F_combined (fConsA (fLit (.int 1)) (fConsA (fVar 4) (fConsA (fOp gMul (fOp gIx (fVar 3) (fLit (.int 0))) (fOp gDiv (fVar 2) (fOp gIx (fVar 3) (fLit (.int 1))))) (fConsA (fVar 6) fNilA)))))))
abbrev T5f (t : Nat → Int) : PyData := T5 (t 0) (t 1) (t 2) (t 3) (t 4)
theorem wb_1 {m : Nat} {c t : Nat → Int} {X Y W : PyData} {B p q : Int} {x6 : Option SV} (h : Pol 4 m c W) (hm : m ≤ 3000) (ht : ∀ k, Sm 4000 (t k)) (q0 : 0 < q) (sq : Sm 4000 q) (sB : Sm 4000 (B / q)) (sp : Sm 4000 p) (ss : Sm 4000 (p * (B / q))) :
    WbB ⟨[some (.dat X), some (.dat Y), some (.dat (.int B)), some (.dat (T2 p q)), some (.dat (T5f t)), some (.dat W), x6], []⟩ = some (.nx ⟨[some (.dat X), some (.dat Y), some (.dat (.int B)), some (.dat (T2 p q)), some (.dat (T5f fun k => t k + p * (B / q) * c k)), some (.dat W), some (.dat (L5 (c 0) (c 1) (c 2) (c 3) (c 4)))], []⟩) := by
  have w := whole_ok h (x0 := some (.dat X)) (x1 := some (.dat Y)) (x2 := some (.dat (.int B))) (x3 := some (.dat (T2 p q))) (x4 := some (.dat (T5f t))) (x6 := x6)
  obtain ⟨_, _, _, _, hs⟩ := h
  have d := gDiv_ok (i := B) q0 sq
  have m1 := gMul_ok sp sB
  have cb := w_comb (ht 0) (ht 1) (ht 2) (ht 3) (ht 4) ss ((hs 0).sm (by omega)) ((hs 1).sm (by omega)) ((hs 2).sm (by omega)) ((hs 3).sm (by omega)) ((hs 4).sm (by omega))
  refine (seq_nx w).trans ?_
  show (fSet 4 (fCall F_combined (fConsA (fLit (.int 1)) (fConsA (fVar 4) (fConsA (fOp gMul (fOp gIx (fVar 3) (fLit (.int 0))) (fOp gDiv (fVar 2) (fOp gIx (fVar 3) (fLit (.int 1))))) (fConsA (fVar 6) fNilA)))))) ⟨[some (.dat X), some (.dat Y), some (.dat (.int B)), some (.dat (T2 p q)), some (.dat (T5 (t 0) (t 1) (t 2) (t 3) (t 4))), some (.dat W), some (.dat (L5 (c 0) (c 1) (c 2) (c 3) (c 4)))], []⟩ = some (.nx ⟨[some (.dat X), some (.dat Y), some (.dat (.int B)), some (.dat (T2 p q)), some (.dat (T5 (t 0 + p * (B / q) * c 0) (t 1 + p * (B / q) * c 1) (t 2 + p * (B / q) * c 2) (t 3 + p * (B / q) * c 3) (t 4 + p * (B / q) * c 4))), some (.dat W), some (.dat (L5 (c 0) (c 1) (c 2) (c 3) (c 4)))], []⟩)
  clear w hs ht
  simp! [gIx, ix2_0, ix2_1, d, m1, cb]
structure Wt4 (m M : Nat) (N : Int) (l : (Nat → Int) × PyData × Int × Int) : Prop where
  pol : Pol 4 m l.1 l.2.1
  q0 : 0 < l.2.2.2
  qN : l.2.2.2 ∣ N
  sp : Sz M l.2.2.1
def accL (B : Int) (ls : List ((Nat → Int) × PyData × Int × Int)) (t : Nat → Int) : Nat → Int := ls.foldl (fun u l => fun k => u k + l.2.2.1 * (B / l.2.2.2) * l.1 k) t
theorem wb_for {m M : Nat} {N B : Int} {X Y : PyData} (sN : Sz M N) (hN : 0 < N) (b0 : 0 < B) (bN : B ∣ N) (hm : m + 2 * M ≤ 600) : ∀ (ls : List ((Nat → Int) × PyData × Int × Int)) (t : Nat → Int) (P : Nat) (x3 x5 x6 : Option SV), (∀ l ∈ ls, Wt4 m M N l) → (∀ k, Sz P (t k)) → P + ls.length * (m + 2 * M + 2) ≤ 3900 →
    ∃ y3 y5 y6, forGo (aTup 2 (aCons (aName 5) (aCons (aName 3) aNil))) WbB (ls.map fun l => .tuple [l.2.1, T2 l.2.2.1 l.2.2.2]) ⟨[some (.dat X), some (.dat Y), some (.dat (.int B)), x3, some (.dat (T5f t)), x5, x6], []⟩ = some (.nx ⟨[some (.dat X), some (.dat Y), some (.dat (.int B)), y3, some (.dat (T5f (accL B ls t))), y5, y6], []⟩) ∧ ∀ k, Sz (P + ls.length * (m + 2 * M + 2)) (accL B ls t k)
  | [], t, P, x3, x5, x6, _, ht, _ => ⟨x3, x5, x6, rfl, fun k => by simpa [accL] using ht k⟩
  | l :: ls, t, P, x3, x5, x6, hl, ht, hP => by
    rw [List.length_cons, Nat.add_mul] at hP
    have L := hl l List.mem_cons_self
    have sB := sz_dvd sN hN bN b0
    have sq := sz_dvd sN hN L.qN L.q0
    have sBq : Sz M (B / l.2.2.2) := sB.div
    have ss : Sz (2 * M) (l.2.2.1 * (B / l.2.2.2)) := (L.sp.mul sBq).by _ (by omega)
    have e := wb_1 (X := X) (Y := Y) (B := B) (t := t) (x6 := x6) L.pol (by omega) (fun k => (ht k).sm (by omega)) L.q0 (sq.sm (by omega)) (sBq.sm (by omega)) (L.sp.sm (by omega)) (ss.sm (by omega))
    have ht' : ∀ k, Sz (P + (m + 2 * M + 2)) (t k + l.2.2.1 * (B / l.2.2.2) * l.1 k) := fun k => by
      obtain ⟨_, _, _, _, hs⟩ := L.pol
      exact ((ht k).by (P + (m + 2 * M + 1)) (by omega) |>.add ((ss.mul (hs k)).by (P + (m + 2 * M + 1)) (by omega))).by _ (by omega)
    obtain ⟨y3, y5, y6, ih, hz⟩ := wb_for (X := X) (Y := Y) sN hN b0 bN hm ls (fun k => t k + l.2.2.1 * (B / l.2.2.2) * l.1 k) (P + (m + 2 * M + 2)) (some (.dat (T2 l.2.2.1 l.2.2.2))) (some (.dat l.2.1)) (some (.dat (L5 (l.1 0) (l.1 1) (l.1 2) (l.1 3) (l.1 4)))) (fun v hv => hl v (List.mem_cons_of_mem _ hv)) ht' (by omega)
    refine ⟨y3, y5, y6, ?_, fun k => ?_⟩
    · generalize WbB = b at e ih ⊢
      simp only [List.map_cons, forGo, aTup, aCons, aName, aNil, setD, List.length_cons, List.length_nil, List.set_cons_succ, List.set_cons_zero, Option.bind_some, Nat.reduceAdd, and_self, if_true, ↓reduceIte, e]
      exact ih
    · have := hz k
      rw [List.length_cons, Nat.add_mul]
      exact this.by _ (by omega)
theorem w_weighed {m M : Nat} {N : Int} {l0 l1 l2 l3 l4 : (Nat → Int) × PyData × Int × Int} (sN : Sz M N) (hN : 0 < N) (hM : 1 ≤ M) (hm : m + 2 * M ≤ 600) (h0 : Wt4 m M N l0) (h1 : Wt4 m M N l1) (h2 : Wt4 m M N l2) (h3 : Wt4 m M N l3) (h4 : Wt4 m M N l4) :
    ∃ (B : Int) (u : Nat → Int), F__weighed_course [.dat (.list [l0.2.1, l1.2.1, l2.2.1, l3.2.1, l4.2.1]), .dat (.list [T2 l0.2.2.1 l0.2.2.2, T2 l1.2.2.1 l1.2.2.2, T2 l2.2.2.1 l2.2.2.2, T2 l3.2.2.1 l3.2.2.2, T2 l4.2.2.1 l4.2.2.2])] [] = some (.dat (.tuple ((red [u 0, u 1, u 2, u 3, u 4, B]).map .int)), []) ∧ 0 < B ∧ B ∣ N ∧
      (∀ l ∈ [l0, l1, l2, l3, l4], l.2.2.2 ∣ B) ∧ u = accL B [l0, l1, l2, l3, l4] (fun _ => 0) := by
  have hall : ∀ l ∈ [l0, l1, l2, l3, l4], Wt4 m M N l := fun l hl => by
    simp only [List.mem_cons, List.not_mem_nil, or_false] at hl
    rcases hl with rfl | rfl | rfl | rfl | rfl <;> assumption
  obtain ⟨B, y3, e1, b0, bN, _, hd⟩ := lc_for (X := (.list [l0.2.1, l1.2.1, l2.2.1, l3.2.1, l4.2.1])) (Y := (.list [T2 l0.2.2.1 l0.2.2.2, T2 l1.2.2.1 l1.2.2.2, T2 l2.2.2.1 l2.2.2.2, T2 l3.2.2.1 l3.2.2.2, T2 l4.2.2.1 l4.2.2.2])) sN hN (by omega) hM [(l0.2.2.1, l0.2.2.2), (l1.2.2.1, l1.2.2.2), (l2.2.2.1, l2.2.2.2), (l3.2.2.1, l3.2.2.2), (l4.2.2.1, l4.2.2.2)] 1 none (by decide) (Int.one_dvd _) (fun w hw => by
    simp only [List.mem_cons, List.not_mem_nil, or_false] at hw
    rcases hw with rfl | rfl | rfl | rfl | rfl
    · exact ⟨h0.q0, h0.qN⟩
    · exact ⟨h1.q0, h1.qN⟩
    · exact ⟨h2.q0, h2.qN⟩
    · exact ⟨h3.q0, h3.qN⟩
    · exact ⟨h4.q0, h4.qN⟩)
  obtain ⟨z3, z5, z6, e2, hz⟩ := wb_for (X := (.list [l0.2.1, l1.2.1, l2.2.1, l3.2.1, l4.2.1])) (Y := (.list [T2 l0.2.2.1 l0.2.2.2, T2 l1.2.2.1 l1.2.2.2, T2 l2.2.2.1 l2.2.2.2, T2 l3.2.2.1 l3.2.2.2, T2 l4.2.2.1 l4.2.2.2])) sN hN b0 bN hm [l0, l1, l2, l3, l4] (fun _ => 0) 2 y3 none none hall (fun k => sz_0.by _ (by decide)) (by simp only [List.length_cons, List.length_nil]; omega)
  refine ⟨B, _, ?_, b0, bN, fun l hl => ?_, rfl⟩
  · generalize accL B [l0, l1, l2, l3, l4] (fun _ => 0) = u at *
    simp only [List.length_cons, List.length_nil] at hz
    have hr := e_reduced (v := [u 0, u 1, u 2, u 3, u 4, B]) (r := T6 (u 0) (u 1) (u 2) (u 3) (u 4) B) .t (fun x hx => by
      have hk : ∀ k, Sm 4000 (u k) := fun k => (hz k).sm (by omega)
      simp only [List.mem_cons, List.not_mem_nil, or_false] at hx
      rcases hx with rfl | rfl | rfl | rfl | rfl | rfl
      · exact hk 0
      · exact hk 1
      · exact hk 2
      · exact hk 3
      · exact hk 4
      · exact (sz_dvd sN hN bN b0).sm (by omega)) (by simp)
    generalize ((red [u 0, u 1, u 2, u 3, u 4, B]).map PyData.int) = out at *
    clear h0 h1 h2 h3 h4 hall hz
    have a0 : (fSet 2 (fLit (.int 1))) ⟨[some (.dat (.list [l0.2.1, l1.2.1, l2.2.1, l3.2.1, l4.2.1])), some (.dat (.list [T2 l0.2.2.1 l0.2.2.2, T2 l1.2.2.1 l1.2.2.2, T2 l2.2.2.1 l2.2.2.2, T2 l3.2.2.1 l3.2.2.2, T2 l4.2.2.1 l4.2.2.2])), none, none, none, none, none], []⟩ = some (.nx ⟨[some (.dat (.list [l0.2.1, l1.2.1, l2.2.1, l3.2.1, l4.2.1])), some (.dat (.list [T2 l0.2.2.1 l0.2.2.2, T2 l1.2.2.1 l1.2.2.2, T2 l2.2.2.1 l2.2.2.2, T2 l3.2.2.1 l3.2.2.2, T2 l4.2.2.1 l4.2.2.2])), some (.dat (.int 1)), none, none, none, none], []⟩) := by
      simp! []
    have a1 : (fFor (fIt (fVar 1)) (aName 3) LcB) ⟨[some (.dat (.list [l0.2.1, l1.2.1, l2.2.1, l3.2.1, l4.2.1])), some (.dat (.list [T2 l0.2.2.1 l0.2.2.2, T2 l1.2.2.1 l1.2.2.2, T2 l2.2.2.1 l2.2.2.2, T2 l3.2.2.1 l3.2.2.2, T2 l4.2.2.1 l4.2.2.2])), some (.dat (.int 1)), none, none, none, none], []⟩ = some (.nx ⟨[some (.dat (.list [l0.2.1, l1.2.1, l2.2.1, l3.2.1, l4.2.1])), some (.dat (.list [T2 l0.2.2.1 l0.2.2.2, T2 l1.2.2.1 l1.2.2.2, T2 l2.2.2.1 l2.2.2.2, T2 l3.2.2.1 l3.2.2.2, T2 l4.2.2.1 l4.2.2.2])), some (.dat (.int B)), y3, none, none, none], []⟩) := e1
    have a2 : (fSet 4 (fTup (fConsA (fLit (.int 0)) (fConsA (fLit (.int 0)) (fConsA (fLit (.int 0)) (fConsA (fLit (.int 0)) (fConsA (fLit (.int 0)) fNilA))))))) ⟨[some (.dat (.list [l0.2.1, l1.2.1, l2.2.1, l3.2.1, l4.2.1])), some (.dat (.list [T2 l0.2.2.1 l0.2.2.2, T2 l1.2.2.1 l1.2.2.2, T2 l2.2.2.1 l2.2.2.2, T2 l3.2.2.1 l3.2.2.2, T2 l4.2.2.1 l4.2.2.2])), some (.dat (.int B)), y3, none, none, none], []⟩ = some (.nx ⟨[some (.dat (.list [l0.2.1, l1.2.1, l2.2.1, l3.2.1, l4.2.1])), some (.dat (.list [T2 l0.2.2.1 l0.2.2.2, T2 l1.2.2.1 l1.2.2.2, T2 l2.2.2.1 l2.2.2.2, T2 l3.2.2.1 l3.2.2.2, T2 l4.2.2.1 l4.2.2.2])), some (.dat (.int B)), y3, some (.dat (T5f fun _ => 0)), none, none], []⟩) := by
      simp! []
    have a3 : (fFor (fZip (fConsA (fVar 0) (fConsA (fVar 1) fNilA))) (aTup 2 (aCons (aName 5) (aCons (aName 3) aNil))) WbB) ⟨[some (.dat (.list [l0.2.1, l1.2.1, l2.2.1, l3.2.1, l4.2.1])), some (.dat (.list [T2 l0.2.2.1 l0.2.2.2, T2 l1.2.2.1 l1.2.2.2, T2 l2.2.2.1 l2.2.2.2, T2 l3.2.2.1 l3.2.2.2, T2 l4.2.2.1 l4.2.2.2])), some (.dat (.int B)), y3, some (.dat (T5f fun _ => 0)), none, none], []⟩ = some (.nx ⟨[some (.dat (.list [l0.2.1, l1.2.1, l2.2.1, l3.2.1, l4.2.1])), some (.dat (.list [T2 l0.2.2.1 l0.2.2.2, T2 l1.2.2.1 l1.2.2.2, T2 l2.2.2.1 l2.2.2.2, T2 l3.2.2.1 l3.2.2.2, T2 l4.2.2.1 l4.2.2.2])), some (.dat (.int B)), z3, some (.dat (T5 (u 0) (u 1) (u 2) (u 3) (u 4))), z5, z6], []⟩) := e2
    have e0 : b__weighed_course = fSeq (fSet 2 (fLit (.int 1))) (fSeq (fFor (fIt (fVar 1)) (aName 3) LcB) (fSeq (fSet 4 (fTup (fConsA (fLit (.int 0)) (fConsA (fLit (.int 0)) (fConsA (fLit (.int 0)) (fConsA (fLit (.int 0)) (fConsA (fLit (.int 0)) fNilA))))))) (fSeq (fFor (fZip (fConsA (fVar 0) (fConsA (fVar 1) fNilA))) (aTup 2 (aCons (aName 5) (aCons (aName 3) aNil))) WbB) (fRet (fCall F_reduced (fConsA (fTup (fStarA (fVar 4) (fConsA (fVar 2) fNilA))) fNilA)))))) := rfl
    refine fn_ok (np := 2) (nN := 7) (n0 := 0) (c := []) ?_ ⟨rfl, rfl⟩ rfl
    rw [e0]
    refine (seq_nx a0).trans ((seq_nx a1).trans ((seq_nx a2).trans ((seq_nx a3).trans ?_)))
    clear a0 a1 a2 a3 e1 e2
    simp! [fStarA, hr]
  · simp only [List.mem_cons, List.not_mem_nil, or_false] at hl
    rcases hl with rfl | rfl | rfl | rfl | rfl
    · exact hd (l.2.2.1, l.2.2.2) (by simp)
    · exact hd (l.2.2.1, l.2.2.2) (by simp)
    · exact hd (l.2.2.1, l.2.2.2) (by simp)
    · exact hd (l.2.2.1, l.2.2.2) (by simp)
    · exact hd (l.2.2.1, l.2.2.2) (by simp)
end PL


set_option Elab.async false
set_option linter.all false
set_option maxRecDepth 100000
set_option maxHeartbeats 4000000
set_option exponentiation.threshold 20000
namespace PL
open PySem PySem.Spec L2 DL
local macro_rules | `(tactic| simp! [$as,*]) => `(tactic| simp only [fThaw, fThawT, fThawL, thawD, thawO, noL, noLAll, fAug, gAug, fRev, fFnA, fCallV, fBot, fZip, zipD, gSum, intsOf, List.foldl_cons, List.foldl_nil, mkF, fRet, fRetL, fRetN, fSkip, fSeq, fNever, fSet, fAsg, fNew, fIfS, fDrop, fPar, fPar3, fSetc, fSetc2, fVar, fLit, fOp, fUn, fTup, fTup.datsOf, fLst, fNilA, fConsA, fStarA, fCelA, fOfL, fTru, fAndT, fOrT, fNotT, fAndV, fOrV, fNotV, fIf, fBi, fCall, fCallL, fCallFr, fPerm, callF, celOf, celsOk, norm, aName, aNil, aCons, aTup, setD, fSl, fIt, fItL, fItT, fFor, forGo, fLc, lcGo, fYes, wipeD, fCix, fList, fSlL, fPart, fNoPart, fChain, List.length_cons, List.length_nil, List.getElem?_cons_zero, List.getElem?_cons_succ, List.getElem?_nil, List.set_cons_zero, List.set_cons_succ, List.map_cons, List.map_nil, List.cons_append, List.nil_append, List.append_nil, List.replicate, List.take_zero, List.take_nil, List.take_succ_cons, ↓bsome, ↓msome, Option.bind_some, Option.map_some, Option.bind_none, Option.map_none, Nat.sub_self, Int.cast_ofNat_Int, Nat.reduceAdd, Nat.reduceMul, Nat.reduceSub, Nat.reduceLeDiff, Nat.reduceLT, Nat.zero_add, Nat.add_zero, and_self, and_true, true_and, if_true, if_false, ↓reduceIte, ite_true, Bool.true_eq_false, Bool.false_eq_true, beq_self_eq_true, Bool.and_self, Bool.not_true, Bool.not_false, decide_true, decide_false, gLen, gTyIs, gTyNot, tyOf, gNeg, gPlus, DL.gSub, gCmp, gInt, gAbs, gTuple, gMax, gMin, gGcd, LIM, gIx, $as,*])
local macro_rules | `(tactic| simpa! [$as,*]) => `(tactic| simp (maxDischargeDepth := 40) only [fThaw, fThawT, fThawL, thawD, thawO, noL, noLAll, fAug, gAug, fRev, fFnA, fCallV, fBot, fZip, zipD, gSum, intsOf, List.foldl_cons, List.foldl_nil, mkF, fRet, fRetL, fRetN, fSkip, fSeq, fNever, fSet, fAsg, fNew, fIfS, fDrop, fPar, fPar3, fSetc, fSetc2, fVar, fLit, fOp, fUn, fTup, fTup.datsOf, fLst, fNilA, fConsA, fStarA, fCelA, fOfL, fTru, fAndT, fOrT, fNotT, fAndV, fOrV, fNotV, fIf, fBi, fCall, fCallL, fCallFr, fPerm, callF, celOf, celsOk, norm, aName, aNil, aCons, aTup, setD, fSl, fIt, fItL, fItT, fFor, forGo, fLc, lcGo, fYes, wipeD, fCix, fList, fSlL, fPart, fNoPart, fChain, List.length_cons, List.length_nil, List.getElem?_cons_zero, List.getElem?_cons_succ, List.getElem?_nil, List.set_cons_zero, List.set_cons_succ, List.map_cons, List.map_nil, List.cons_append, List.nil_append, List.append_nil, List.replicate, List.take_zero, List.take_nil, List.take_succ_cons, ↓bsome, ↓msome, Option.bind_some, Option.map_some, Option.bind_none, Option.map_none, Nat.sub_self, Int.cast_ofNat_Int, Nat.reduceAdd, Nat.reduceMul, Nat.reduceSub, Nat.reduceLeDiff, Nat.reduceLT, Nat.zero_add, Nat.add_zero, and_self, and_true, true_and, if_true, if_false, ↓reduceIte, ite_true, Bool.true_eq_false, Bool.false_eq_true, beq_self_eq_true, Bool.and_self, Bool.not_true, Bool.not_false, decide_true, decide_false, gLen, gTyIs, gTyNot, tyOf, gNeg, gPlus, DL.gSub, gCmp, gInt, gAbs, gTuple, gMax, gMin, gGcd, LIM, gIx, ix1_0, ix2_0, ix2_1, ix3_0, ix3_1, ix3_2, ix4_0, ix4_1, ix4_2, ix4_3, ix5_0, ix5_1, ix5_2, ix5_3, ix5_4, ix6_0, ix6_1, ix6_2, ix6_3, ix6_4, ix6_5, cut5_04, cut5_14, cut4_04, cut4_03, cut4_14, Sm.mul, Sm.add, Sm.sub, Sm.neg, Sm.div, Sm.lit, sz_0, sz_1, sz_2, sz_3, sz_4, sz_8, Nat.reduceDiv, Nat.reduceSub, Nat.reduceLT, Nat.reduceLeDiff, Int.reduceLT, Int.reduceNeg, Int.mul_pos, gMul_ok, gDiv_ok, gMod_ok, $as,*])
section
variable {a b c d e f : Int}
theorem e_row6 : F_is_row [.dat (T6 a b c d e f), .dat (.int 6)] [] = some (.dat (.bool true), []) := rfl
theorem e_div6 : F_divisor_of [.dat (T6 a b c d e f)] [] = some (.dat (.int (gL [a, b, c, d, e, f] : Nat)), []) := e_div (v := [a, b, c, d, e, f]) .t
theorem e_rrow6 : F_is_reduced_row [.dat (T6 a b c d e f), .dat (.int 6)] [] = some (.dat (.bool ((gL [a, b, c, d, e, f] : Int) == 1)), []) := by
  simpa! [*, F_is_reduced_row, b_is_reduced_row, e_row6, e_div6, gEq_int]
theorem ix6' : atI [PyData.int a, .int b, .int c, .int d, .int e, .int f] 5 = some (.int f) := rfl
end
/-- a course -/
structure Co (m : Nat) (x0 x1 x2 x3 x4 n : Int) : Prop where
  n0 : 0 < n
  one : gL [x0, x1, x2, x3, x4, n] = 1
  s0 : Sz m x0
  s1 : Sz m x1
  s2 : Sz m x2
  s3 : Sz m x3
  s4 : Sz m x4
  sn : Sz m n
section
variable {m : Nat} {x0 x1 x2 x3 x4 n : Int}
theorem Co.up {k : Nat} (C : Co m x0 x1 x2 x3 x4 n) (h : m ≤ k) : Co k x0 x1 x2 x3 x4 n := ⟨C.n0, C.one, C.s0.by _ h, C.s1.by _ h, C.s2.by _ h, C.s3.by _ h, C.s4.by _ h, C.sn.by _ h⟩
theorem w_isco (C : Co m x0 x1 x2 x3 x4 n) : F_is_course [.dat (T6 x0 x1 x2 x3 x4 n)] [] = some (.dat (.bool true), []) := by
  have e1 := e_rrow6 (a := x0) (b := x1) (c := x2) (d := x3) (e := x4) (f := n)
  rw [C.one] at e1
  have o1 : ((((1 : Nat) : Int)) == 1) = true := rfl
  have n0 := C.n0
  simp! [F_is_course, b_is_course, e1, o1, gIx, ix6', n0]
theorem w_chco (C : Co m x0 x1 x2 x3 x4 n) : F_check_course [.dat (T6 x0 x1 x2 x3 x4 n)] [] = some (.dat .none, []) := by
  have e1 := w_isco C
  simp! [F_check_course, b_check_course, e1]
/-- the form of five numbers -/
def Fo (x0 x1 x2 x3 x4 p q : Int) : Int := x0 * (q * q * q * q) + x1 * (p * q * q * q) + x2 * (p * p * q * q) + x3 * (p * p * p * q) + x4 * (p * p * p * p)
def Ls (a b : Int) : Int := a * a + b * b
def Yc (x0 x1 x2 x3 x4 a b : Int) (k : Nat) : Int := x0 * C4 a b 0 k + x1 * C4 a b 1 k + x2 * C4 a b 2 k + x3 * C4 a b 3 k + x4 * C4 a b 4 k
theorem sqn (a : Int) : 0 ≤ a * a := by
  rcases Int.le_total 0 a with h | h
  · exact Int.mul_nonneg h h
  · exact Int.mul_nonneg_of_nonpos_of_nonpos h h
theorem fo_scale {t0 t1 t2 t3 t4 G d p q : Int} : Fo t0 t1 t2 t3 t4 p q * (d * G) = Fo (t0 * G) (t1 * G) (t2 * G) (t3 * G) (t4 * G) p q * d := by
  unfold Fo
  grind
theorem yc_fo (a b p q : Int) : Fo (Yc x0 x1 x2 x3 x4 a b 0) (Yc x0 x1 x2 x3 x4 a b 1) (Yc x0 x1 x2 x3 x4 a b 2) (Yc x0 x1 x2 x3 x4 a b 3) (Yc x0 x1 x2 x3 x4 a b 4) p q = Fo x0 x1 x2 x3 x4 (p * b + a * q) (q * b - p * a) := by
  have h : ∀ i, i < 5 → ∀ k, k < 5 → C4 a b i k = C4s a b i k := c4_s a b
  unfold Yc
  rw [h 0 (by decide) 0 (by decide), h 0 (by decide) 1 (by decide), h 0 (by decide) 2 (by decide), h 0 (by decide) 3 (by decide), h 0 (by decide) 4 (by decide),
    h 1 (by decide) 0 (by decide), h 1 (by decide) 1 (by decide), h 1 (by decide) 2 (by decide), h 1 (by decide) 3 (by decide), h 1 (by decide) 4 (by decide),
    h 2 (by decide) 0 (by decide), h 2 (by decide) 1 (by decide), h 2 (by decide) 2 (by decide), h 2 (by decide) 3 (by decide), h 2 (by decide) 4 (by decide),
    h 3 (by decide) 0 (by decide), h 3 (by decide) 1 (by decide), h 3 (by decide) 2 (by decide), h 3 (by decide) 3 (by decide), h 3 (by decide) 4 (by decide),
    h 4 (by decide) 0 (by decide), h 4 (by decide) 1 (by decide), h 4 (by decide) 2 (by decide), h 4 (by decide) 3 (by decide), h 4 (by decide) 4 (by decide)]
  clear h
  unfold Fo
  have k0 : C4s a b 0 0 * (q * q * q * q) + C4s a b 0 1 * (p * q * q * q) + C4s a b 0 2 * (p * p * q * q) + C4s a b 0 3 * (p * p * p * q) + C4s a b 0 4 * (p * p * p * p) = (q * b - p * a) * (q * b - p * a) * (q * b - p * a) * (q * b - p * a) := by
    simp only [C4s]; grind
  have k1 : C4s a b 1 0 * (q * q * q * q) + C4s a b 1 1 * (p * q * q * q) + C4s a b 1 2 * (p * p * q * q) + C4s a b 1 3 * (p * p * p * q) + C4s a b 1 4 * (p * p * p * p) = (p * b + a * q) * (q * b - p * a) * (q * b - p * a) * (q * b - p * a) := by
    simp only [C4s]; grind
  have k2 : C4s a b 2 0 * (q * q * q * q) + C4s a b 2 1 * (p * q * q * q) + C4s a b 2 2 * (p * p * q * q) + C4s a b 2 3 * (p * p * p * q) + C4s a b 2 4 * (p * p * p * p) = (p * b + a * q) * (p * b + a * q) * (q * b - p * a) * (q * b - p * a) := by
    simp only [C4s]; grind
  have k3 : C4s a b 3 0 * (q * q * q * q) + C4s a b 3 1 * (p * q * q * q) + C4s a b 3 2 * (p * p * q * q) + C4s a b 3 3 * (p * p * p * q) + C4s a b 3 4 * (p * p * p * p) = (p * b + a * q) * (p * b + a * q) * (p * b + a * q) * (q * b - p * a) := by
    simp only [C4s]; grind
  have k4 : C4s a b 4 0 * (q * q * q * q) + C4s a b 4 1 * (p * q * q * q) + C4s a b 4 2 * (p * p * q * q) + C4s a b 4 3 * (p * p * p * q) + C4s a b 4 4 * (p * p * p * p) = (p * b + a * q) * (p * b + a * q) * (p * b + a * q) * (p * b + a * q) := by
    simp only [C4s]; grind
  rw [← k0, ← k1, ← k2, ← k3, ← k4]
  generalize q * q * q * q = z0, p * q * q * q = z1, p * p * q * q = z2, p * p * p * q = z3, p * p * p * p = z4
  clear k0 k1 k2 k3 k4
  generalize C4s a b 0 0 = c00, C4s a b 0 1 = c01, C4s a b 0 2 = c02, C4s a b 0 3 = c03, C4s a b 0 4 = c04
  generalize C4s a b 1 0 = c10, C4s a b 1 1 = c11, C4s a b 1 2 = c12, C4s a b 1 3 = c13, C4s a b 1 4 = c14
  generalize C4s a b 2 0 = c20, C4s a b 2 1 = c21, C4s a b 2 2 = c22, C4s a b 2 3 = c23, C4s a b 2 4 = c24
  generalize C4s a b 3 0 = c30, C4s a b 3 1 = c31, C4s a b 3 2 = c32, C4s a b 3 3 = c33, C4s a b 3 4 = c34
  generalize C4s a b 4 0 = c40, C4s a b 4 1 = c41, C4s a b 4 2 = c42, C4s a b 4 3 = c43, C4s a b 4 4 = c44
  simp only [Int.add_mul, Int.mul_add, Int.mul_assoc]
  omega
theorem one_w {N B p q g x : Int} (h1 : p * g = x) (h2 : q * g = N) (h3 : B / q * q = B) : p * (B / q) * N = x * B := by
  rw [← h1, ← h2]
  generalize B / q = z at *
  subst h3
  grind
theorem ratN {m : Nat} {p q : Int} (hq : 0 < q) (sp : Sz m p) (sq : Sz m q) : ∃ P Q g : Int, Rt p q = T2 P Q ∧ Fr m P Q ∧ 0 < g ∧ P * g = p ∧ Q * g = q := by
  exact ⟨_, _, rg p q, rfl, rt_fr hq sp sq, rg_pos hq, rg_p hq, rg_q hq⟩
theorem rng_5 : rngOk 5 = true := rng_ok (by decide) (by decide)
theorem tn_5 : (5 : Int).toNat = 5 := rfl
theorem rng5D : rangeD 0 5 = [.int 0, .int 1, .int 2, .int 3, .int 4] := rfl
theorem cut6 {a b c d e f : PyData} : cutD [a, b, c, d, e, f] none (some 5) = [a, b, c, d, e] := rfl
theorem core_turned {x0 x1 x2 x3 x4 n a b N L : Int} {A0 A1 A2 A3 A4 B0 B1 B2 B3 B4 z0 z1 z2 z3 z4 r0 r1 r2 r3 r4 out : PyData} (h1 : F_check_course [.dat (T6 x0 x1 x2 x3 x4 n)] [] = some (.dat .none, [])) (h2 : F_check_setting [.dat (T2 a b)] [] = some (.dat .none, []))
    (el : F__length_of [.dat (T2 a b)] [] = some (.dat (.int L), [])) (m1 : gMul (.int n) (.int L) = some (.int (n * L))) (m2 : gMul (.int (n * L)) (.int L) = some (.int N))
    (pa0 : F__power [.dat (T2 a b), .dat (.int 0)] [] = some (.dat A0, [])) (pb0 : F__power [.dat (T2 b (-a)), .dat (.int (4 - 0))] [] = some (.dat B0, [])) (pz0 : F_polynomial_product [.dat A0, .dat B0] [] = some (.dat z0, [])) (ra0 : F_ratio [.dat (.int x0), .dat (.int N)] [] = some (.dat r0, []))
    (pa1 : F__power [.dat (T2 a b), .dat (.int 1)] [] = some (.dat A1, [])) (pb1 : F__power [.dat (T2 b (-a)), .dat (.int (4 - 1))] [] = some (.dat B1, [])) (pz1 : F_polynomial_product [.dat A1, .dat B1] [] = some (.dat z1, [])) (ra1 : F_ratio [.dat (.int x1), .dat (.int N)] [] = some (.dat r1, []))
    (pa2 : F__power [.dat (T2 a b), .dat (.int 2)] [] = some (.dat A2, [])) (pb2 : F__power [.dat (T2 b (-a)), .dat (.int (4 - 2))] [] = some (.dat B2, [])) (pz2 : F_polynomial_product [.dat A2, .dat B2] [] = some (.dat z2, [])) (ra2 : F_ratio [.dat (.int x2), .dat (.int N)] [] = some (.dat r2, []))
    (pa3 : F__power [.dat (T2 a b), .dat (.int 3)] [] = some (.dat A3, [])) (pb3 : F__power [.dat (T2 b (-a)), .dat (.int (4 - 3))] [] = some (.dat B3, [])) (pz3 : F_polynomial_product [.dat A3, .dat B3] [] = some (.dat z3, [])) (ra3 : F_ratio [.dat (.int x3), .dat (.int N)] [] = some (.dat r3, []))
    (pa4 : F__power [.dat (T2 a b), .dat (.int 4)] [] = some (.dat A4, [])) (pb4 : F__power [.dat (T2 b (-a)), .dat (.int (4 - 4))] [] = some (.dat B4, [])) (pz4 : F_polynomial_product [.dat A4, .dat B4] [] = some (.dat z4, [])) (ra4 : F_ratio [.dat (.int x4), .dat (.int N)] [] = some (.dat r4, []))
    (ew : F__weighed_course [.dat (.list [z0, z1, z2, z3, z4]), .dat (.list [r0, r1, r2, r3, r4])] [] = some (.dat out, [])) : F_turned_course [.dat (T6 x0 x1 x2 x3 x4 n), .dat (T2 a b)] [] = some (.dat out, []) := by
  have c0 : (fDrop (fCall F_check_course (fConsA (fVar 0) fNilA))) ⟨[some (.dat (T6 x0 x1 x2 x3 x4 n)), some (.dat (T2 a b)), none, none, none, none, none, none, none], []⟩ = some (.nx ⟨[some (.dat (T6 x0 x1 x2 x3 x4 n)), some (.dat (T2 a b)), none, none, none, none, none, none, none], []⟩) := by
    simp! [h1]
  have c1 : (fDrop (fCall F_check_setting (fConsA (fVar 1) fNilA))) ⟨[some (.dat (T6 x0 x1 x2 x3 x4 n)), some (.dat (T2 a b)), none, none, none, none, none, none, none], []⟩ = some (.nx ⟨[some (.dat (T6 x0 x1 x2 x3 x4 n)), some (.dat (T2 a b)), none, none, none, none, none, none, none], []⟩) := by
    simp! [h2]
  have c2 : (fAsg (aTup 2 (aCons (aName 5) (aCons (aName 6) aNil))) (fVar 1)) ⟨[some (.dat (T6 x0 x1 x2 x3 x4 n)), some (.dat (T2 a b)), none, none, none, none, none, none, none], []⟩ = some (.nx ⟨[some (.dat (T6 x0 x1 x2 x3 x4 n)), some (.dat (T2 a b)), none, none, none, some (.dat (.int a)), some (.dat (.int b)), none, none], []⟩) := by
    simp! [aTup]
  have c3 : (fSet 2 (fCall F__length_of (fConsA (fVar 1) fNilA))) ⟨[some (.dat (T6 x0 x1 x2 x3 x4 n)), some (.dat (T2 a b)), none, none, none, some (.dat (.int a)), some (.dat (.int b)), none, none], []⟩ = some (.nx ⟨[some (.dat (T6 x0 x1 x2 x3 x4 n)), some (.dat (T2 a b)), some (.dat (.int L)), none, none, some (.dat (.int a)), some (.dat (.int b)), none, none], []⟩) := by
    simp! [el]
  have c4 : (fSet 3 (fOp gMul (fOp gMul (fOp gIx (fVar 0) (fLit (.int 5))) (fVar 2)) (fVar 2))) ⟨[some (.dat (T6 x0 x1 x2 x3 x4 n)), some (.dat (T2 a b)), some (.dat (.int L)), none, none, some (.dat (.int a)), some (.dat (.int b)), none, none], []⟩ = some (.nx ⟨[some (.dat (T6 x0 x1 x2 x3 x4 n)), some (.dat (T2 a b)), some (.dat (.int L)), some (.dat (.int N)), none, some (.dat (.int a)), some (.dat (.int b)), none, none], []⟩) := by
    simp! [gIx, ix6', m1, m2]
  have c5 : (fSet 4 (fOfL (fLc (fRng1 (fConsA (fLit (.int 5)) fNilA)) (aName 7) fYes (fCall F_polynomial_product (fConsA (fCall F__power (fConsA (fTup (fConsA (fVar 5) (fConsA (fVar 6) fNilA))) (fConsA (fVar 7) fNilA))) (fConsA (fCall F__power (fConsA (fTup (fConsA (fVar 6) (fConsA (fUn gNeg (fVar 5)) fNilA))) (fConsA (fOp gSub (fLit (.int 4)) (fVar 7)) fNilA))) fNilA))) [7]))) ⟨[some (.dat (T6 x0 x1 x2 x3 x4 n)), some (.dat (T2 a b)), some (.dat (.int L)), some (.dat (.int N)), none, some (.dat (.int a)), some (.dat (.int b)), none, none], []⟩ = some (.nx ⟨[some (.dat (T6 x0 x1 x2 x3 x4 n)), some (.dat (T2 a b)), some (.dat (.int L)), some (.dat (.int N)), some (.dat (.list [z0, z1, z2, z3, z4])), some (.dat (.int a)), some (.dat (.int b)), none, none], []⟩) := by
    simp! [fRng1, rng_5, tn_5, rng5D, pa0, pa1, pa2, pa3, pa4, pb0, pb1, pb2, pb3, pb4, pz0, pz1, pz2, pz3, pz4]
  have c6 : (fRet (fCall F__weighed_course (fConsA (fVar 4) (fConsA (fOfL (fLc (fIt (fSl (fVar 0) fNoPart (fPart (fLit (.int 5))))) (aName 8) fYes (fCall F_ratio (fConsA (fVar 8) (fConsA (fVar 3) fNilA))) [8])) fNilA)))) ⟨[some (.dat (T6 x0 x1 x2 x3 x4 n)), some (.dat (T2 a b)), some (.dat (.int L)), some (.dat (.int N)), some (.dat (.list [z0, z1, z2, z3, z4])), some (.dat (.int a)), some (.dat (.int b)), none, none], []⟩ = some (.rt (.dat out) []) := by
    simp! [cut6, ra0, ra1, ra2, ra3, ra4, ew]
  exact fn_ok (np := 2) (nN := 9) (n0 := 0) (c := []) ((seq_nx c0).trans ((seq_nx c1).trans ((seq_nx c2).trans ((seq_nx c3).trans ((seq_nx c4).trans ((seq_nx c5).trans (c6))))))) ⟨rfl, rfl⟩ rfl
theorem w_turned {s : Nat} {a b : Int} (C : Co m x0 x1 x2 x3 x4 n) (S : Sg s a b) (hm : 12 * s + 2 * m ≤ 500) (hs : s ≤ 25) :
    ∃ t0 t1 t2 t3 t4 d : Int, F_turned_course [.dat (T6 x0 x1 x2 x3 x4 n), .dat (T2 a b)] [] = some (.dat (T6 t0 t1 t2 t3 t4 d), []) ∧ Co (m + 4 * s + 80) t0 t1 t2 t3 t4 d ∧ ∀ p q, Fo t0 t1 t2 t3 t4 p q * (n * (Ls a b * Ls a b)) = Fo x0 x1 x2 x3 x4 (p * b + a * q) (q * b - p * a) * d := by
  obtain ⟨M, hM⟩ : ∃ M, M = m + 4 * s + 6 := ⟨_, rfl⟩
  have Lp : 0 < Ls a b := by
    unfold Ls
    by_cases hb : b = 0
    · have := S.z hb
      subst this
      subst hb
      decide
    · have h1 := Int.mul_pos (show 0 < b by have := S.b0; omega) (show 0 < b by have := S.b0; omega)
      have h2 : 0 ≤ a * a := sqn a
      omega
  have sL : Sz (2 * s + 1) (Ls a b) := by
    unfold Ls
    exact ((S.sa.mul S.sa).add (S.sb.mul S.sb)).by _ (by omega)
  obtain ⟨N, hN⟩ : ∃ N, n * Ls a b * Ls a b = N := ⟨_, rfl⟩
  have N0 : 0 < N := by rw [← hN]; exact Int.mul_pos (Int.mul_pos C.n0 Lp) Lp
  have sN : Sz M N := by rw [← hN]; exact ((C.sn.mul sL).mul sL).by _ (by omega)
  have h1 := w_chco C
  have h2 := w_chset S
  have el : F__length_of [.dat (T2 a b)] [] = some (.dat (.int (Ls a b)), []) := by
    have ma := gMul_ok (S.sa.sm (m := 4000) (by omega)) (S.sa.sm (m := 4000) (by omega))
    have mb := gMul_ok (S.sb.sm (m := 4000) (by omega)) (S.sb.sm (m := 4000) (by omega))
    unfold Ls
    simp! [F__length_of, b__length_of, gIx, ix2_0, ix2_1, ma, mb]
  have m1 := gMul_ok (C.sn.sm (m := 4000) (by omega)) (sL.sm (m := 4000) (by omega))
  have m2 := gMul_ok ((C.sn.mul sL).sm (m := 4000) (by omega)) (sL.sm (m := 4000) (by omega))
  rw [hN] at m2
  obtain ⟨A0, pa0, PA0⟩ := w_power (n := 0) (pol_lin S.sa S.sb) (by omega) (by decide)
  obtain ⟨B0, pb0, PB0⟩ := w_power (n := 4) (pol_lin S.sb S.sa.neg) (by omega) (by decide)
  obtain ⟨z0, pz0, PZ0⟩ := w_pol PA0 PB0 (by decide) (by omega) (by omega)
  obtain ⟨A1, pa1, PA1⟩ := w_power (n := 1) (pol_lin S.sa S.sb) (by omega) (by decide)
  obtain ⟨B1, pb1, PB1⟩ := w_power (n := 3) (pol_lin S.sb S.sa.neg) (by omega) (by decide)
  obtain ⟨z1, pz1, PZ1⟩ := w_pol PA1 PB1 (by decide) (by omega) (by omega)
  obtain ⟨A2, pa2, PA2⟩ := w_power (n := 2) (pol_lin S.sa S.sb) (by omega) (by decide)
  obtain ⟨B2, pb2, PB2⟩ := w_power (n := 2) (pol_lin S.sb S.sa.neg) (by omega) (by decide)
  obtain ⟨z2, pz2, PZ2⟩ := w_pol PA2 PB2 (by decide) (by omega) (by omega)
  obtain ⟨A3, pa3, PA3⟩ := w_power (n := 3) (pol_lin S.sa S.sb) (by omega) (by decide)
  obtain ⟨B3, pb3, PB3⟩ := w_power (n := 1) (pol_lin S.sb S.sa.neg) (by omega) (by decide)
  obtain ⟨z3, pz3, PZ3⟩ := w_pol PA3 PB3 (by decide) (by omega) (by omega)
  obtain ⟨A4, pa4, PA4⟩ := w_power (n := 4) (pol_lin S.sa S.sb) (by omega) (by decide)
  obtain ⟨B4, pb4, PB4⟩ := w_power (n := 0) (pol_lin S.sb S.sa.neg) (by omega) (by decide)
  obtain ⟨z4, pz4, PZ4⟩ := w_pol PA4 PB4 (by decide) (by omega) (by omega)
  have ra0 := e_ratio (p := x0) (q := N) N0 (C.s0.sm (by omega)) (sN.sm (by omega))
  obtain ⟨p0, q0, g0, r0, F0, g00, f10, f20⟩ := ratN (m := M) N0 (C.s0.by _ (by omega)) sN
  rw [r0] at ra0
  have ra1 := e_ratio (p := x1) (q := N) N0 (C.s1.sm (by omega)) (sN.sm (by omega))
  obtain ⟨p1, q1, g1, r1, F1, g01, f11, f21⟩ := ratN (m := M) N0 (C.s1.by _ (by omega)) sN
  rw [r1] at ra1
  have ra2 := e_ratio (p := x2) (q := N) N0 (C.s2.sm (by omega)) (sN.sm (by omega))
  obtain ⟨p2, q2, g2, r2, F2, g02, f12, f22⟩ := ratN (m := M) N0 (C.s2.by _ (by omega)) sN
  rw [r2] at ra2
  have ra3 := e_ratio (p := x3) (q := N) N0 (C.s3.sm (by omega)) (sN.sm (by omega))
  obtain ⟨p3, q3, g3, r3, F3, g03, f13, f23⟩ := ratN (m := M) N0 (C.s3.by _ (by omega)) sN
  rw [r3] at ra3
  have ra4 := e_ratio (p := x4) (q := N) N0 (C.s4.sm (by omega)) (sN.sm (by omega))
  obtain ⟨p4, q4, g4, r4, F4, g04, f14, f24⟩ := ratN (m := M) N0 (C.s4.by _ (by omega)) sN
  rw [r4] at ra4
  have en0 : (4 : Int) - 0 = ((4 : Nat) : Int) := rfl
  have en1 : (4 : Int) - 1 = ((3 : Nat) : Int) := rfl
  have en2 : (4 : Int) - 2 = ((2 : Nat) : Int) := rfl
  have en3 : (4 : Int) - 3 = ((1 : Nat) : Int) := rfl
  have en4 : (4 : Int) - 4 = ((0 : Nat) : Int) := rfl
  have pz : ∀ {i : Nat} {x : PyData} {P Q : Nat}, i ≤ 4 → Pol (i + (4 - i)) (2 + P * (s + 15) + (2 + Q * (s + 15)) + i + (4 - i) + 1) (C4 a b i) x → P + Q = 4 → Pol 4 (4 * s + 69) (C4 a b i) x := fun {i x P Q} hi h hpq => by
    obtain ⟨v, e1, e2, e3, e4⟩ := h
    refine ⟨v, e1, by omega, e3, fun k => (e4 k).by _ ?_⟩
    have : P * (s + 15) + Q * (s + 15) = 4 * (s + 15) := by rw [← Nat.add_mul, hpq]
    omega
  have Q0 : Pol 4 (4 * s + 69) (C4 a b 0) z0 := pz (by decide) PZ0 rfl
  have Q1 : Pol 4 (4 * s + 69) (C4 a b 1) z1 := pz (by decide) PZ1 rfl
  have Q2 : Pol 4 (4 * s + 69) (C4 a b 2) z2 := pz (by decide) PZ2 rfl
  have Q3 : Pol 4 (4 * s + 69) (C4 a b 3) z3 := pz (by decide) PZ3 rfl
  have Q4 : Pol 4 (4 * s + 69) (C4 a b 4) z4 := pz (by decide) PZ4 rfl
  have dv : ∀ {q g : Int}, q * g = N → q ∣ N := fun {q g} h => ⟨g, h.symm⟩
  obtain ⟨B, u, ew, b0, bN, hd, hu⟩ := w_weighed (m := 4 * s + 69) (M := M) (N := N) (l0 := (C4 a b 0, z0, p0, q0)) (l1 := (C4 a b 1, z1, p1, q1)) (l2 := (C4 a b 2, z2, p2, q2)) (l3 := (C4 a b 3, z3, p3, q3)) (l4 := (C4 a b 4, z4, p4, q4)) sN N0 (by omega) (by omega) ⟨Q0, F0.q0, dv f20, F0.sp⟩ ⟨Q1, F1.q0, dv f21, F1.sp⟩ ⟨Q2, F2.q0, dv f22, F2.sp⟩ ⟨Q3, F3.q0, dv f23, F3.sp⟩ ⟨Q4, F4.q0, dv f24, F4.sp⟩
  have v0 := one_w f10 f20 (Int.ediv_mul_cancel (hd (C4 a b 0, z0, p0, q0) (by simp)))
  have v1 := one_w f11 f21 (Int.ediv_mul_cancel (hd (C4 a b 1, z1, p1, q1) (by simp)))
  have v2 := one_w f12 f22 (Int.ediv_mul_cancel (hd (C4 a b 2, z2, p2, q2) (by simp)))
  have v3 := one_w f13 f23 (Int.ediv_mul_cancel (hd (C4 a b 3, z3, p3, q3) (by simp)))
  have v4 := one_w f14 f24 (Int.ediv_mul_cancel (hd (C4 a b 4, z4, p4, q4) (by simp)))
  have uN : ∀ k, N * u k = B * Yc x0 x1 x2 x3 x4 a b k := fun k => by
    have e : u k = 0 + p0 * (B / q0) * C4 a b 0 k + p1 * (B / q1) * C4 a b 1 k + p2 * (B / q2) * C4 a b 2 k + p3 * (B / q3) * C4 a b 3 k + p4 * (B / q4) * C4 a b 4 k := by rw [hu]; rfl
    rw [e]
    unfold Yc
    generalize p0 * (B / q0) = w0, p1 * (B / q1) = w1, p2 * (B / q2) = w2, p3 * (B / q3) = w3, p4 * (B / q4) = w4 at *
    generalize C4 a b 0 k = c0, C4 a b 1 k = c1, C4 a b 2 k = c2, C4 a b 3 k = c3, C4 a b 4 k = c4
    have : N * (0 + w0 * c0 + w1 * c1 + w2 * c2 + w3 * c3 + w4 * c4) = (w0 * N) * c0 + (w1 * N) * c1 + (w2 * N) * c2 + (w3 * N) * c3 + (w4 * N) * c4 := by grind
    rw [this, v0, v1, v2, v3, v4]
    grind
  have er : red [u 0, u 1, u 2, u 3, u 4, B] = red [Yc x0 x1 x2 x3 x4 a b 0, Yc x0 x1 x2 x3 x4 a b 1, Yc x0 x1 x2 x3 x4 a b 2, Yc x0 x1 x2 x3 x4 a b 3, Yc x0 x1 x2 x3 x4 a b 4, N] := red_par N0 b0 (by
    simp only [List.map_cons, List.map_nil]
    rw [uN 0, uN 1, uN 2, uN 3, uN 4, Int.mul_comm N B])
  have sC : ∀ i, i < 5 → ∀ k, Sz (4 * s + 69) (C4 a b i k) := fun i hi k => by
    have h1 : i = 0 ∨ i = 1 ∨ i = 2 ∨ i = 3 ∨ i = 4 := by omega
    rcases h1 with rfl | rfl | rfl | rfl | rfl
    · obtain ⟨_, _, _, _, h⟩ := Q0; exact h k
    · obtain ⟨_, _, _, _, h⟩ := Q1; exact h k
    · obtain ⟨_, _, _, _, h⟩ := Q2; exact h k
    · obtain ⟨_, _, _, _, h⟩ := Q3; exact h k
    · obtain ⟨_, _, _, _, h⟩ := Q4; exact h k
  have sY : ∀ k, Sz (m + 4 * s + 80) (Yc x0 x1 x2 x3 x4 a b k) := fun k => by
    unfold Yc
    exact (((((C.s0.mul (sC 0 (by decide) k)).add (C.s1.mul (sC 1 (by decide) k))).add (C.s2.mul (sC 2 (by decide) k))).add (C.s3.mul (sC 3 (by decide) k))).add (C.s4.mul (sC 4 (by decide) k))).by _ (by omega)
  have main' : F_turned_course [.dat (T6 x0 x1 x2 x3 x4 n), .dat (T2 a b)] [] = some (.dat (.tuple ((red [u 0, u 1, u 2, u 3, u 4, B]).map .int)), []) := core_turned h1 h2 el m1 m2 pa0 pb0 pz0 ra0 pa1 pb1 pz1 ra1 pa2 pb2 pz2 ra2 pa3 pb3 pz3 ra3 pa4 pb4 pz4 ra4 ew
  rw [er] at main'
  have fo := fun p q => yc_fo (x0 := x0) (x1 := x1) (x2 := x2) (x3 := x3) (x4 := x4) a b p q
  have y0 := sY 0
  have y1 := sY 1
  have y2 := sY 2
  have y3 := sY 3
  have y4 := sY 4
  have sN' : Sz (m + 4 * s + 80) N := sN.by _ (by omega)
  have hN' : n * (Ls a b * Ls a b) = N := by rw [← hN]; grind
  rw [hN']
  clear hu uN er sY sC
  generalize Yc x0 x1 x2 x3 x4 a b 0 = Y0, Yc x0 x1 x2 x3 x4 a b 1 = Y1, Yc x0 x1 x2 x3 x4 a b 2 = Y2, Yc x0 x1 x2 x3 x4 a b 3 = Y3, Yc x0 x1 x2 x3 x4 a b 4 = Y4 at *
  have gr := gL_red (v := [Y0, Y1, Y2, Y3, Y4, N]) (gL_ne (x := N) (by simp) (by omega))
  have d0 := div_mul (v := [Y0, Y1, Y2, Y3, Y4, N]) (x := Y0) (by simp)
  have d1 := div_mul (v := [Y0, Y1, Y2, Y3, Y4, N]) (x := Y1) (by simp)
  have d2 := div_mul (v := [Y0, Y1, Y2, Y3, Y4, N]) (x := Y2) (by simp)
  have d3 := div_mul (v := [Y0, Y1, Y2, Y3, Y4, N]) (x := Y3) (by simp)
  have d4 := div_mul (v := [Y0, Y1, Y2, Y3, Y4, N]) (x := Y4) (by simp)
  have d5 := div_mul (v := [Y0, Y1, Y2, Y3, Y4, N]) (x := N) (by simp)
  have G0 := mL_pos [Y0, Y1, Y2, Y3, Y4, N]
  have dp := Int.ediv_pos_of_pos_of_dvd N0 (by omega) (mL_dvd (v := [Y0, Y1, Y2, Y3, Y4, N]) (x := N) (by simp))
  refine ⟨Y0 / mL [Y0, Y1, Y2, Y3, Y4, N], Y1 / mL [Y0, Y1, Y2, Y3, Y4, N], Y2 / mL [Y0, Y1, Y2, Y3, Y4, N], Y3 / mL [Y0, Y1, Y2, Y3, Y4, N], Y4 / mL [Y0, Y1, Y2, Y3, Y4, N], N / mL [Y0, Y1, Y2, Y3, Y4, N], main', ⟨dp, gr, y0.div, y1.div, y2.div, y3.div, y4.div, sN'.div⟩, fun p q => ?_⟩
  rw [← fo p q]
  clear main' gr fo
  generalize mL [Y0, Y1, Y2, Y3, Y4, N] = G at *
  generalize Y0 / G = t0, Y1 / G = t1, Y2 / G = t2, Y3 / G = t3, Y4 / G = t4, N / G = t5 at *
  rw [d0, d1, d2, d3, d4, d5]
  exact fo_scale
end
end PL


set_option Elab.async false
set_option linter.all false
set_option maxRecDepth 100000
set_option maxHeartbeats 4000000
set_option exponentiation.threshold 20000
namespace PL
open PySem PySem.Spec L2 DL
local macro_rules | `(tactic| simp! [$as,*]) => `(tactic| simp only [fThaw, fThawT, fThawL, thawD, thawO, noL, noLAll, fAug, gAug, fRev, fFnA, fCallV, fBot, fZip, zipD, gSum, intsOf, List.foldl_cons, List.foldl_nil, mkF, fRet, fRetL, fRetN, fSkip, fSeq, fNever, fSet, fAsg, fNew, fIfS, fDrop, fPar, fPar3, fSetc, fSetc2, fVar, fLit, fOp, fUn, fTup, fTup.datsOf, fLst, fNilA, fConsA, fStarA, fCelA, fOfL, fTru, fAndT, fOrT, fNotT, fAndV, fOrV, fNotV, fIf, fBi, fCall, fCallL, fCallFr, fPerm, callF, celOf, celsOk, norm, aName, aNil, aCons, aTup, setD, fSl, fIt, fItL, fItT, fFor, forGo, fLc, lcGo, fYes, wipeD, fCix, fList, fSlL, fPart, fNoPart, fChain, List.length_cons, List.length_nil, List.getElem?_cons_zero, List.getElem?_cons_succ, List.getElem?_nil, List.set_cons_zero, List.set_cons_succ, List.map_cons, List.map_nil, List.cons_append, List.nil_append, List.append_nil, List.replicate, List.take_zero, List.take_nil, List.take_succ_cons, ↓bsome, ↓msome, Option.bind_some, Option.map_some, Option.bind_none, Option.map_none, Nat.sub_self, Int.cast_ofNat_Int, Nat.reduceAdd, Nat.reduceMul, Nat.reduceSub, Nat.reduceLeDiff, Nat.reduceLT, Nat.zero_add, Nat.add_zero, and_self, and_true, true_and, if_true, if_false, ↓reduceIte, ite_true, Bool.true_eq_false, Bool.false_eq_true, beq_self_eq_true, Bool.and_self, Bool.not_true, Bool.not_false, decide_true, decide_false, gLen, gTyIs, gTyNot, tyOf, gNeg, gPlus, DL.gSub, gCmp, gInt, gAbs, gTuple, gMax, gMin, gGcd, LIM, gIx, $as,*])
section
variable {m s : Nat} {x0 x1 x2 x3 x4 n t0 t1 t2 t3 t4 d y0 y1 y2 y3 y4 e a b c f p q g A B : Int}
/-- one course is another one, turned -/
def Tn (t0 t1 t2 t3 t4 d x0 x1 x2 x3 x4 n a b : Int) : Prop := ∀ p q : Int, Fo t0 t1 t2 t3 t4 p q * (n * (Ls a b * Ls a b)) = Fo x0 x1 x2 x3 x4 (p * b + a * q) (q * b - p * a) * d
theorem fo_hom : Fo x0 x1 x2 x3 x4 (g * A) (g * B) = g * g * g * g * Fo x0 x1 x2 x3 x4 A B := by unfold Fo; grind
theorem ls_hom : Ls (g * A) (g * B) = g * g * Ls A B := by unfold Ls; grind
theorem ls_mul : Ls (a * f + c * b) (b * f - a * c) = Ls a b * Ls c f := by unfold Ls; grind
theorem tn_sign (h : Tn t0 t1 t2 t3 t4 d x0 x1 x2 x3 x4 n (g * A) (g * B)) (hg : g ≠ 0) : Tn t0 t1 t2 t3 t4 d x0 x1 x2 x3 x4 n A B := fun p q => by
  have k := h p q
  rw [show p * (g * B) + g * A * q = g * (p * B + A * q) by grind, show q * (g * B) - p * (g * A) = g * (q * B - p * A) by grind, fo_hom, ls_hom] at k
  have g4 : g * g * g * g ≠ 0 := Int.mul_ne_zero (Int.mul_ne_zero (Int.mul_ne_zero hg hg) hg) hg
  refine Int.eq_of_mul_eq_mul_left g4 ?_
  generalize Fo t0 t1 t2 t3 t4 p q = T at *
  generalize Fo x0 x1 x2 x3 x4 (p * B + A * q) (q * B - p * A) = X at *
  generalize Ls A B = L at *
  have e1 : g * g * g * g * (T * (n * (L * L))) = T * (n * (g * g * L * (g * g * L))) := by grind
  rw [e1, k]
  grind
theorem tn_comp (h1 : Tn t0 t1 t2 t3 t4 d x0 x1 x2 x3 x4 n a b) (h2 : Tn y0 y1 y2 y3 y4 e t0 t1 t2 t3 t4 d c f) (hd : d ≠ 0) : Tn y0 y1 y2 y3 y4 e x0 x1 x2 x3 x4 n (a * f + c * b) (b * f - a * c) := fun p q => by
  have k2 := h2 p q
  have k1 := h1 (p * f + c * q) (q * f - p * c)
  rw [show (p * f + c * q) * b + a * (q * f - p * c) = p * (b * f - a * c) + (a * f + c * b) * q by grind, show (q * f - p * c) * b - (p * f + c * q) * a = q * (b * f - a * c) - p * (a * f + c * b) by grind] at k1
  rw [ls_mul]
  refine Int.eq_of_mul_eq_mul_left hd ?_
  generalize Fo y0 y1 y2 y3 y4 p q = Y at *
  generalize Fo t0 t1 t2 t3 t4 (p * f + c * q) (q * f - p * c) = T at *
  generalize Fo x0 x1 x2 x3 x4 (p * (b * f - a * c) + (a * f + c * b) * q) (q * (b * f - a * c) - p * (a * f + c * b)) = X at *
  generalize Ls a b = L at *
  generalize Ls c f = K at *
  have e1 : d * (Y * (n * (L * K * (L * K)))) = (Y * (d * (K * K))) * (n * (L * L)) := by grind
  rw [e1, k2]
  have e2 : T * e * (n * (L * L)) = T * (n * (L * L)) * e := by grind
  rw [e2, k1]
  grind
theorem tn_id : Tn x0 x1 x2 x3 x4 n x0 x1 x2 x3 x4 n 0 1 := fun p q => by
  rw [show p * 1 + 0 * q = p by omega, show q * 1 - p * 0 = q by omega]
  have : Ls 0 1 = 1 := rfl
  rw [this]
  simp
theorem fo_01 : Fo x0 x1 x2 x3 x4 0 1 = x0 := by unfold Fo; omega
theorem fo_10 : Fo x0 x1 x2 x3 x4 1 0 = x4 := by unfold Fo; omega
theorem fo_11 : Fo x0 x1 x2 x3 x4 1 1 = x0 + x1 + x2 + x3 + x4 := by unfold Fo; omega
theorem fo_m1 : Fo x0 x1 x2 x3 x4 (-1) 1 = x0 - x1 + x2 - x3 + x4 := by unfold Fo; omega
theorem fo_21 : Fo x0 x1 x2 x3 x4 2 1 = x0 + 2 * x1 + 4 * x2 + 8 * x3 + 16 * x4 := by unfold Fo; omega
theorem tn_uniq (C : Co m t0 t1 t2 t3 t4 d) (K : Co s y0 y1 y2 y3 y4 e) (h1 : Tn t0 t1 t2 t3 t4 d x0 x1 x2 x3 x4 n a b) (h2 : Tn y0 y1 y2 y3 y4 e x0 x1 x2 x3 x4 n a b) (hn : n ≠ 0) (hL : Ls a b ≠ 0) : T6 t0 t1 t2 t3 t4 d = T6 y0 y1 y2 y3 y4 e := by
  have hD : n * (Ls a b * Ls a b) ≠ 0 := Int.mul_ne_zero hn (Int.mul_ne_zero hL hL)
  have k : ∀ p q, Fo t0 t1 t2 t3 t4 p q * e = Fo y0 y1 y2 y3 y4 p q * d := fun p q => by
    have k1 := h1 p q
    have k2 := h2 p q
    refine Int.eq_of_mul_eq_mul_left hD ?_
    generalize n * (Ls a b * Ls a b) = D at *
    generalize Fo t0 t1 t2 t3 t4 p q = T at *
    generalize Fo y0 y1 y2 y3 y4 p q = Y at *
    generalize Fo x0 x1 x2 x3 x4 (p * b + a * q) (q * b - p * a) = X at *
    have e1 : D * (T * e) = (T * D) * e := by grind
    have e2 : D * (Y * d) = (Y * D) * d := by grind
    rw [e1, e2, k1, k2]
    grind
  have r0 := k 0 1
  have r4 := k 1 0
  have r1 := k 1 1
  have r2 := k (-1) 1
  have r3 := k 2 1
  rw [fo_01, fo_01] at r0
  rw [fo_10, fo_10] at r4
  rw [fo_11, fo_11] at r1
  rw [fo_m1, fo_m1] at r2
  rw [fo_21, fo_21] at r3
  simp only [Int.add_mul, Int.sub_mul, Int.mul_assoc] at r1 r2 r3
  have q1 : t1 * e = y1 * d := by omega
  have q2 : t2 * e = y2 * d := by omega
  have q3 : t3 * e = y3 * d := by omega
  have hr : red [t0, t1, t2, t3, t4, d] = red [y0, y1, y2, y3, y4, e] := red_par K.n0 C.n0 (by
    simp only [List.map_cons, List.map_nil]
    rw [Int.mul_comm e t0, Int.mul_comm e t1, Int.mul_comm e t2, Int.mul_comm e t3, Int.mul_comm e t4, r0, q1, q2, q3, r4, Int.mul_comm e d, Int.mul_comm y0 d, Int.mul_comm y1 d, Int.mul_comm y2 d, Int.mul_comm y3 d, Int.mul_comm y4 d])
  rw [red_of_one C.one, red_of_one K.one] at hr
  simp only [List.cons.injEq, and_true] at hr
  obtain ⟨rfl, rfl, rfl, rfl, rfl, rfl⟩ := hr
  rfl
theorem tn_mean (h : Tn t0 t1 t2 t3 t4 d x0 x1 x2 x3 x4 n a b) : (3 * t0 + t2 + 3 * t4) * (n * (Ls a b * Ls a b)) = (3 * x0 + x2 + 3 * x4) * (Ls a b * Ls a b) * d := by
  have r0 := h 0 1
  have r4 := h 1 0
  have r1 := h 1 1
  have r2 := h (-1) 1
  rw [fo_01] at r0
  rw [fo_10] at r4
  rw [fo_11] at r1
  rw [fo_m1] at r2
  generalize hD : n * (Ls a b * Ls a b) = D at *
  have e1 : 2 * ((3 * t0 + t2 + 3 * t4) * D) = 4 * (t0 * D) + 4 * (t4 * D) + (t0 + t1 + t2 + t3 + t4) * D + (t0 - t1 + t2 - t3 + t4) * D := by grind
  have e2 : 4 * (Fo x0 x1 x2 x3 x4 (0 * b + a * 1) (1 * b - 0 * a) * d) + 4 * (Fo x0 x1 x2 x3 x4 (1 * b + a * 0) (0 * b - 1 * a) * d) + Fo x0 x1 x2 x3 x4 (1 * b + a * 1) (1 * b - 1 * a) * d + Fo x0 x1 x2 x3 x4 (-1 * b + a * 1) (1 * b - -1 * a) * d = 2 * ((3 * x0 + x2 + 3 * x4) * (Ls a b * Ls a b) * d) := by
    unfold Fo Ls
    grind
  rw [r0, r4, r1, r2, e2] at e1
  omega
/-! levels -/
theorem ls_pos (S : Sg s a b) : 0 < Ls a b := by
  unfold Ls
  by_cases hb : b = 0
  · have := S.z hb
    subst this
    subst hb
    decide
  · have h1 := Int.mul_pos (show 0 < b by have := S.b0; omega) (show 0 < b by have := S.b0; omega)
    have h2 := sqn a
    omega
theorem ls_sz (sa : Sz s a) (sb : Sz s b) : Sz (2 * s + 1) (Ls a b) := by
  unfold Ls
  exact ((sa.mul sa).add (sb.mul sb)).by _ (by omega)
theorem fo_sz (C : Co m x0 x1 x2 x3 x4 n) (sp : Sz s p) (sq : Sz s q) : Sz (m + 4 * s + 4) (Fo x0 x1 x2 x3 x4 p q) := by
  unfold Fo
  exact (((((C.s0.mul (((sq.mul sq).mul sq).mul sq)).add (C.s1.mul (((sp.mul sq).mul sq).mul sq))).add (C.s2.mul (((sp.mul sp).mul sq).mul sq))).add (C.s3.mul (((sp.mul sp).mul sp).mul sq))).add (C.s4.mul (((sp.mul sp).mul sp).mul sp))).by _ (by omega)
abbrev VaB : FS := (fSeq (fSet 3 (fOp gPlus (fOp gMul (fVar 3) (fOp gIx (fVar 1) (fLit (.int 0)))) (fOp gMul (fVar 2) (fVar 4)))) (fAug 4 gAugM (fOp gIx (fVar 1) (fLit (.int 1)))))
theorem va_1 {X : PyData} {T W x : Int} {mt : Nat} (sT : Sz mt T) (sW : Sz mt W) (sx : Sz mt x) (sp : Sz mt p) (sq : Sz mt q) (hm : mt ≤ 1500) :
    VaB ⟨[some (.dat X), some (.dat (T2 p q)), some (.dat (.int x)), some (.dat (.int T)), some (.dat (.int W))], []⟩ = some (.nx ⟨[some (.dat X), some (.dat (T2 p q)), some (.dat (.int x)), some (.dat (.int (T * p + x * W))), some (.dat (.int (W * q)))], []⟩) := by
  have m1 := gMul_ok (sT.sm (m := 4000) (by omega)) (sp.sm (m := 4000) (by omega))
  have m2 := gMul_ok (sx.sm (m := 4000) (by omega)) (sW.sm (m := 4000) (by omega))
  have m3 : gAugM (.int W) (.int q) = some (.int (W * q)) := by
    have := gMul_ok (sW.sm (m := 4000) (by omega)) (sq.sm (m := 4000) (by omega))
    exact this
  simp! [gIx, ix2_0, ix2_1, m1, m2, m3]
theorem core_value {X0 X1 X2 X3 X4 T1 W1 T2' W2 T3 W3 T4 W4 T5' W5 S : PyData}
    (h1 : ∀ {X : PyData} {x2 : Option SV}, VaB ⟨[some (.dat X), some (.dat S), some (.dat X4), some (.dat (.int 0)), some (.dat (.int 1))], []⟩ = some (.nx ⟨[some (.dat X), some (.dat S), some (.dat X4), some (.dat T1), some (.dat W1)], []⟩))
    (h2 : ∀ {X : PyData}, VaB ⟨[some (.dat X), some (.dat S), some (.dat X3), some (.dat T1), some (.dat W1)], []⟩ = some (.nx ⟨[some (.dat X), some (.dat S), some (.dat X3), some (.dat T2'), some (.dat W2)], []⟩))
    (h3 : ∀ {X : PyData}, VaB ⟨[some (.dat X), some (.dat S), some (.dat X2), some (.dat T2'), some (.dat W2)], []⟩ = some (.nx ⟨[some (.dat X), some (.dat S), some (.dat X2), some (.dat T3), some (.dat W3)], []⟩))
    (h4 : ∀ {X : PyData}, VaB ⟨[some (.dat X), some (.dat S), some (.dat X1), some (.dat T3), some (.dat W3)], []⟩ = some (.nx ⟨[some (.dat X), some (.dat S), some (.dat X1), some (.dat T4), some (.dat W4)], []⟩))
    (h5 : ∀ {X : PyData}, VaB ⟨[some (.dat X), some (.dat S), some (.dat X0), some (.dat T4), some (.dat W4)], []⟩ = some (.nx ⟨[some (.dat X), some (.dat S), some (.dat X0), some (.dat T5'), some (.dat W5)], []⟩)) :
    F_value_at [.dat (.tuple [X0, X1, X2, X3, X4]), .dat S] [] = some (.dat T5', []) := by
  have e0 : b_value_at = fSeq (fAsg (aTup 2 (aCons (aName 3) (aCons (aName 4) aNil))) (fTup (fConsA (fLit (.int 0)) (fConsA (fLit (.int 1)) fNilA)))) (fSeq (fFor (fRev (fVar 0)) (aName 2) VaB) (fRet (fVar 3))) := rfl
  refine fn_ok (np := 2) (nN := 5) (n0 := 0) (c := []) ?_ ⟨rfl, rfl⟩ rfl
  rw [e0]
  have g1 := h1 (X := .tuple [X0, X1, X2, X3, X4]) (x2 := none)
  have g2 := h2 (X := .tuple [X0, X1, X2, X3, X4])
  have g3 := h3 (X := .tuple [X0, X1, X2, X3, X4])
  have g4 := h4 (X := .tuple [X0, X1, X2, X3, X4])
  have g5 := h5 (X := .tuple [X0, X1, X2, X3, X4])
  clear h1 h2 h3 h4 h5
  generalize VaB = b at *
  simp! [fRev, List.reverse_cons, List.reverse_nil, aTup, g1, g2, g3, g4, g5]
theorem w_value (C : Co m x0 x1 x2 x3 x4 n) (sp : Sz s p) (sq : Sz s q) (hm : m + 4 * s ≤ 1000) : F_value_at [.dat (T5 x0 x1 x2 x3 x4), .dat (T2 p q)] [] = some (.dat (.int (Fo x0 x1 x2 x3 x4 p q)), []) := by
  obtain ⟨M, hM⟩ : ∃ M, M = m + 4 * s + 10 := ⟨_, rfl⟩
  have up : ∀ {x : Int} {k : Nat}, Sz k x → k ≤ m + 4 * s + 10 → Sz M x := fun h hk => h.by _ (by omega)
  have P := up sp (by omega)
  have Q := up sq (by omega)
  have o := up sz_1 (by omega)
  have z := up sz_0 (by omega)
  have k1 : Sz (m + s + 2) (0 * p + x4 * 1) := by
    rw [Int.zero_mul, Int.zero_add, Int.mul_one]; exact C.s4.by _ (by omega)
  have w1 : Sz (s + 1) (1 * q) := by rw [Int.one_mul]; exact sq.by _ (by omega)
  have k2 : Sz (m + 2 * s + 4) ((0 * p + x4 * 1) * p + x3 * (1 * q)) := ((k1.mul sp).add (C.s3.mul w1)).by _ (by omega)
  have w2 : Sz (2 * s + 1) (1 * q * q) := (w1.mul sq).by _ (by omega)
  have k3 : Sz (m + 3 * s + 5) (((0 * p + x4 * 1) * p + x3 * (1 * q)) * p + x2 * (1 * q * q)) := ((k2.mul sp).add (C.s2.mul w2)).by _ (by omega)
  have w3 : Sz (3 * s + 1) (1 * q * q * q) := (w2.mul sq).by _ (by omega)
  have k4 : Sz (m + 4 * s + 6) ((((0 * p + x4 * 1) * p + x3 * (1 * q)) * p + x2 * (1 * q * q)) * p + x1 * (1 * q * q * q)) := ((k3.mul sp).add (C.s1.mul w3)).by _ (by omega)
  have w4 : Sz (4 * s + 1) (1 * q * q * q * q) := (w3.mul sq).by _ (by omega)
  have h := core_value (S := T2 p q) (X0 := .int x0) (X1 := .int x1) (X2 := .int x2) (X3 := .int x3) (X4 := .int x4) (fun {X _} => va_1 (X := X) z o (up C.s4 (by omega)) P Q (by omega)) (fun {X} => va_1 (X := X) (up k1 (by omega)) (up w1 (by omega)) (up C.s3 (by omega)) P Q (by omega)) (fun {X} => va_1 (X := X) (up k2 (by omega)) (up w2 (by omega)) (up C.s2 (by omega)) P Q (by omega))
    (fun {X} => va_1 (X := X) (up k3 (by omega)) (up w3 (by omega)) (up C.s1 (by omega)) P Q (by omega)) (fun {X} => va_1 (X := X) (up k4 (by omega)) (up w4 (by omega)) (up C.s0 (by omega)) P Q (by omega))
  have e : ((((0 * p + x4 * 1) * p + x3 * (1 * q)) * p + x2 * (1 * q * q)) * p + x1 * (1 * q * q * q)) * p + x0 * (1 * q * q * q * q) = Fo x0 x1 x2 x3 x4 p q := by unfold Fo; grind
  rw [e] at h
  exact h
end
end PL


set_option Elab.async false
set_option linter.all false
set_option maxRecDepth 100000
set_option maxHeartbeats 4000000
set_option exponentiation.threshold 20000
namespace PL
open PySem PySem.Spec L2 DL
local macro_rules | `(tactic| simp! [$as,*]) => `(tactic| simp only [fThaw, fThawT, fThawL, thawD, thawO, noL, noLAll, fAug, gAug, fRev, fFnA, fCallV, fBot, fZip, zipD, gSum, intsOf, List.foldl_cons, List.foldl_nil, mkF, fRet, fRetL, fRetN, fSkip, fSeq, fNever, fSet, fAsg, fNew, fIfS, fDrop, fPar, fPar3, fSetc, fSetc2, fVar, fLit, fOp, fUn, fTup, fTup.datsOf, fLst, fNilA, fConsA, fStarA, fCelA, fOfL, fTru, fAndT, fOrT, fNotT, fAndV, fOrV, fNotV, fIf, fBi, fCall, fCallL, fCallFr, fPerm, callF, celOf, celsOk, norm, aName, aNil, aCons, aTup, setD, fSl, fIt, fItL, fItT, fFor, forGo, fLc, lcGo, fYes, wipeD, fCix, fList, fSlL, fPart, fNoPart, fChain, List.length_cons, List.length_nil, List.getElem?_cons_zero, List.getElem?_cons_succ, List.getElem?_nil, List.set_cons_zero, List.set_cons_succ, List.map_cons, List.map_nil, List.cons_append, List.nil_append, List.append_nil, List.replicate, List.take_zero, List.take_nil, List.take_succ_cons, ↓bsome, ↓msome, Option.bind_some, Option.map_some, Option.bind_none, Option.map_none, Nat.sub_self, Int.cast_ofNat_Int, Nat.reduceAdd, Nat.reduceMul, Nat.reduceSub, Nat.reduceLeDiff, Nat.reduceLT, Nat.zero_add, Nat.add_zero, and_self, and_true, true_and, if_true, if_false, ↓reduceIte, ite_true, Bool.true_eq_false, Bool.false_eq_true, beq_self_eq_true, Bool.and_self, Bool.not_true, Bool.not_false, decide_true, decide_false, gLen, gTyIs, gTyNot, tyOf, gNeg, gPlus, DL.gSub, gCmp, gInt, gAbs, gTuple, gMax, gMin, gGcd, LIM, gIx, $as,*])
section
variable {m s : Nat} {x0 x1 x2 x3 x4 n t0 t1 t2 t3 t4 d a b c f p q : Int}
theorem w_length (sa : Sz s a) (sb : Sz s b) (hs : s ≤ 400) : F__length_of [.dat (T2 a b)] [] = some (.dat (.int (Ls a b)), []) := by
  have ma := gMul_ok (sa.sm (m := 4000) (by omega)) (sa.sm (m := 4000) (by omega))
  have mb := gMul_ok (sb.sm (m := 4000) (by omega)) (sb.sm (m := 4000) (by omega))
  unfold Ls
  simp! [F__length_of, b__length_of, gIx, ix2_0, ix2_1, ma, mb]
theorem core_level {L V N : Int} {out : PyData} (h1 : F_check_course [.dat (T6 x0 x1 x2 x3 x4 n)] [] = some (.dat .none, [])) (h2 : F_check_setting [.dat (T2 a b)] [] = some (.dat .none, [])) (el : F__length_of [.dat (T2 a b)] [] = some (.dat (.int L), [])) (ev : F_value_at [.dat (T5 x0 x1 x2 x3 x4), .dat (T2 a b)] [] = some (.dat (.int V), []))
    (m1 : gMul (.int n) (.int L) = some (.int (n * L))) (m2 : gMul (.int (n * L)) (.int L) = some (.int N)) (er : F_ratio [.dat (.int V), .dat (.int N)] [] = some (.dat out, [])) : F_level_at [.dat (T6 x0 x1 x2 x3 x4 n), .dat (T2 a b)] [] = some (.dat out, []) := by
  simp! [F_level_at, b_level_at, h1, h2, el, ev, m1, m2, er, gIx, ix6', cut6]
theorem w_level (C : Co m x0 x1 x2 x3 x4 n) (S : Sg s a b) (hm : m + 4 * s ≤ 1000) : F_level_at [.dat (T6 x0 x1 x2 x3 x4 n), .dat (T2 a b)] [] = some (.dat (Rt (Fo x0 x1 x2 x3 x4 a b) (n * Ls a b * Ls a b)), []) := by
  have sL := ls_sz S.sa S.sb
  have N0 : 0 < n * Ls a b * Ls a b := Int.mul_pos (Int.mul_pos C.n0 (ls_pos S)) (ls_pos S)
  exact core_level (w_chco C) (w_chset S) (w_length S.sa S.sb (by omega)) (w_value C S.sa S.sb hm) (gMul_ok (C.sn.sm (by omega)) (sL.sm (by omega))) (gMul_ok ((C.sn.mul sL).sm (by omega)) (sL.sm (by omega)))
    (e_ratio N0 ((fo_sz C S.sa S.sb).sm (by omega)) (((C.sn.mul sL).mul sL).sm (by omega)))
theorem w_form (C : Co m x0 x1 x2 x3 x4 n) (sa : Sz s a) (sb : Sz s b) (hm : m + 4 * s ≤ 1000) : F__law_form [.dat (T6 x0 x1 x2 x3 x4 n), .dat (T2 a b)] [] = some (.dat (.int (Fo x0 x1 x2 x3 x4 a b)), []) := by
  have g : ∀ {x y : Int} {i j : Nat}, Sz i x → Sz j y → i ≤ 1500 → j ≤ 1500 → gMul (.int x) (.int y) = some (.int (x * y)) := fun h k h1 h2 => gMul_ok (h.sm (by omega)) (k.sm (by omega))
  have m1 := g C.s0 sb (by omega) (by omega)
  have m2 := g (C.s0.mul sb) sb (by omega) (by omega)
  have m3 := g C.s1 sa (by omega) (by omega)
  have m4 := g (C.s1.mul sa) sb (by omega) (by omega)
  have m5 := g C.s2 sa (by omega) (by omega)
  have m6 := g (C.s2.mul sa) sa (by omega) (by omega)
  have sE : Sz (m + 2 * s + 2) (x0 * b * b + x1 * a * b + x2 * a * a) := ((((C.s0.mul sb).mul sb).add ((C.s1.mul sa).mul sb)).add ((C.s2.mul sa).mul sa)).by _ (by omega)
  have e : (x0 * b * b + x1 * a * b + x2 * a * a) * b * b + (x3 * b + x4 * a) * a * a * a = Fo x0 x1 x2 x3 x4 a b := by unfold Fo; grind
  have m7 := g sE sb (by omega) (by omega)
  have m8 := g (sE.mul sb) sb (by omega) (by omega)
  have m9 := g C.s3 sb (by omega) (by omega)
  have ma := g C.s4 sa (by omega) (by omega)
  have sF : Sz (m + s + 1) (x3 * b + x4 * a) := ((C.s3.mul sb).add (C.s4.mul sa)).by _ (by omega)
  have mb := g sF sa (by omega) (by omega)
  have mc := g (sF.mul sa) sa (by omega) (by omega)
  have md := g ((sF.mul sa).mul sa) sa (by omega) (by omega)
  rw [← e]
  clear e sE sF g C sa sb
  have i0 : atI [PyData.int x0, .int x1, .int x2, .int x3, .int x4, .int n] 0 = some (.int x0) := rfl
  have i1 : atI [PyData.int x0, .int x1, .int x2, .int x3, .int x4, .int n] 1 = some (.int x1) := rfl
  have i2 : atI [PyData.int x0, .int x1, .int x2, .int x3, .int x4, .int n] 2 = some (.int x2) := rfl
  have i3 : atI [PyData.int x0, .int x1, .int x2, .int x3, .int x4, .int n] 3 = some (.int x3) := rfl
  have i4 : atI [PyData.int x0, .int x1, .int x2, .int x3, .int x4, .int n] 4 = some (.int x4) := rfl
  simp! [F__law_form, b__law_form, aTup, gIx, i0, i1, i2, i3, i4, m1, m2, m3, m4, m5, m6, m7, m8, m9, ma, mb, mc, md]
theorem core_at {L V N : Int} {A B : Int} {out : PyData} (ma : gMul (.int a) (.int a) = some (.int A)) (mb : gMul (.int b) (.int b) = some (.int B)) (hL : A + B = L) (ev : F__law_form [.dat (T6 x0 x1 x2 x3 x4 n), .dat (T2 a b)] [] = some (.dat (.int V), []))
    (m1 : gMul (.int n) (.int L) = some (.int (n * L))) (m2 : gMul (.int (n * L)) (.int L) = some (.int N)) (er : F__law_ratio_K36 [.dat (.int V), .dat (.int N)] [] = some (.dat out, [])) : F__law_at_K36 [.dat (T6 x0 x1 x2 x3 x4 n), .dat (T2 a b)] [] = some (.dat out, []) := by
  simp! [F__law_at_K36, b__law_at_K36, ma, mb, hL, ev, m1, m2, er, gIx, ix2_0, ix2_1, ix6']
theorem w_at (C : Co m x0 x1 x2 x3 x4 n) (S : Sg s a b) (hm : m + 4 * s ≤ 1000) : F__law_at_K36 [.dat (T6 x0 x1 x2 x3 x4 n), .dat (T2 a b)] [] = some (.dat (Rt (Fo x0 x1 x2 x3 x4 a b) (n * Ls a b * Ls a b)), []) := by
  have sL := ls_sz S.sa S.sb
  have N0 : 0 < n * Ls a b * Ls a b := Int.mul_pos (Int.mul_pos C.n0 (ls_pos S)) (ls_pos S)
  exact core_at (gMul_ok (S.sa.sm (by omega)) (S.sa.sm (by omega))) (gMul_ok (S.sb.sm (by omega)) (S.sb.sm (by omega))) rfl (w_form C S.sa S.sb hm) (gMul_ok (C.sn.sm (by omega)) (sL.sm (by omega))) (gMul_ok ((C.sn.mul sL).sm (by omega)) (sL.sm (by omega)))
    (w_ratio N0 ((fo_sz C S.sa S.sb).sm (by omega)) (((C.sn.mul sL).mul sL).sm (by omega)))
/-! the setting along two numbers -/
def sgA (p q : Int) : Int := if q / mL [p, q] = 0 then 1 else if 0 < q / mL [p, q] then p / mL [p, q] else 0 - p / mL [p, q]
def sgB (p q : Int) : Int := if q / mL [p, q] = 0 then 0 else if 0 < q / mL [p, q] then q / mL [p, q] else 0 - q / mL [p, q]
theorem gL_neg2 : gL [0 - p, 0 - q] = gL [p, q] := by
  simp [gL, Int.natAbs_neg]
theorem sg_ok (hn : ¬ (p = 0 ∧ q = 0)) (sp : Sz s p) (sq : Sz s q) (hs : 1 ≤ s) : Sg (s + 1) (sgA p q) (sgB p q) ∧ ∃ g, g ≠ 0 ∧ p = g * sgA p q ∧ q = g * sgB p q := by
  have g0 : gL [p, q] ≠ 0 := fun z => hn ⟨gL_zero z p (by simp), gL_zero z q (by simp)⟩
  have gr := gL_red g0
  have hM := mL_pos [p, q]
  have d1 : p = p / mL [p, q] * mL [p, q] := div_mul (by simp)
  have d2 : q = q / mL [p, q] * mL [p, q] := div_mul (by simp)
  unfold red at gr
  simp only [List.map_cons, List.map_nil] at gr
  have sa : Sz s (p / mL [p, q]) := sp.div
  have sb : Sz s (q / mL [p, q]) := sq.div
  unfold sgA sgB
  generalize mL [p, q] = M at *
  generalize p / M = P, q / M = Q at *
  by_cases hq : Q = 0
  · subst hq
    have h1 : P.natAbs = 1 := by simpa [gL] using gr
    rw [if_pos rfl, if_pos rfl]
    refine ⟨⟨by decide, fun _ => rfl, by decide, sz_1.by _ (by omega), sz_0.by _ (by omega)⟩, P * M, ?_, by omega, by omega⟩
    exact Int.mul_ne_zero (by omega) (by omega)
  · rw [if_neg hq, if_neg hq]
    by_cases hp : 0 < Q
    · rw [if_pos hp, if_pos hp]
      exact ⟨⟨by omega, fun z => absurd z (by omega), gr, sa.by _ (by omega), sb.by _ (by omega)⟩, M, by omega, by rw [Int.mul_comm]; exact d1, by rw [Int.mul_comm]; exact d2⟩
    · rw [if_neg hp, if_neg hp]
      refine ⟨⟨by omega, fun z => absurd z (by omega), by rw [gL_neg2]; exact gr, (sz_0.sub sa).by _ (by omega), (sz_0.sub sb).by _ (by omega)⟩, -M, by omega, ?_, ?_⟩
      · rw [d1]; grind
      · rw [d2]; grind
theorem core_signed {P Q : Int} {X : PyData} (el : F__law_low_K36 [.dat X] [] = some (.dat (T2 P Q), [])) : F__law_signed [.dat X] [] = some (.dat (T2 (if Q = 0 then 1 else if 0 < Q then P else 0 - P) (if Q = 0 then 0 else if 0 < Q then Q else 0 - Q)), []) := by
  by_cases hq : Q = 0
  · subst hq
    have z0 : gEq (.int 0) (.int 0) = some (.bool true) := rfl
    simp! [F__law_signed, b__law_signed, el, aTup, z0]
  · have z0 : (Q == 0) = false := beq_eq_false_iff_ne.mpr hq
    rw [if_neg hq, if_neg hq]
    by_cases hp : 0 < Q
    · rw [if_pos hp, if_pos hp]
      simp! [F__law_signed, b__law_signed, el, aTup, gEq_int, z0, hp]
    · rw [if_neg hp, if_neg hp]
      simp! [F__law_signed, b__law_signed, el, aTup, gEq_int, z0, hp]
theorem w_signed (sp : Sz s p) (sq : Sz s q) (hs : s ≤ 1000) : F__law_signed [.dat (T2 p q)] [] = some (.dat (T2 (sgA p q) (sgB p q)), []) :=
  core_signed (w_low (v := [p, q]) (r := T2 p q) .t (m2 (sp.sm (by omega)) (sq.sm (by omega))) (by simp))
theorem core_summed {X Y Z W : Int} {out : PyData} (m1 : gMul (.int a) (.int f) = some (.int X)) (m2 : gMul (.int c) (.int b) = some (.int Y)) (m3 : gMul (.int b) (.int f) = some (.int Z)) (m4 : gMul (.int a) (.int c) = some (.int W)) (es : F__law_signed [.dat (T2 (X + Y) (Z - W))] [] = some (.dat out, [])) : F__law_summed [.dat (T2 a b), .dat (T2 c f)] [] = some (.dat out, []) := by
  simp! [F__law_summed, b__law_summed, gIx, ix2_0, ix2_1, m1, m2, m3, m4, es]
theorem sum_nz (S : Sg m a b) (T : Sg s c f) : ¬ (a * f + c * b = 0 ∧ b * f - a * c = 0) := fun ⟨h1, h2⟩ => by
  have k := ls_mul (a := a) (b := b) (c := c) (f := f)
  rw [h1, h2] at k
  have := Int.mul_pos (ls_pos S) (ls_pos T)
  rw [← k] at this
  exact absurd this (by decide)
theorem w_summed (S : Sg m a b) (T : Sg m c f) (hm : m ≤ 300) : F__law_summed [.dat (T2 a b), .dat (T2 c f)] [] = some (.dat (T2 (sgA (a * f + c * b) (b * f - a * c)) (sgB (a * f + c * b) (b * f - a * c))), []) :=
  core_summed (gMul_ok (S.sa.sm (by omega)) (T.sb.sm (by omega))) (gMul_ok (T.sa.sm (by omega)) (S.sb.sm (by omega))) (gMul_ok (S.sb.sm (by omega)) (T.sb.sm (by omega))) (gMul_ok (S.sa.sm (by omega)) (T.sa.sm (by omega)))
    (w_signed (s := 2 * m + 1) (((S.sa.mul T.sb).add (T.sa.mul S.sb)).by _ (by omega)) (((S.sb.mul T.sb).sub (S.sa.mul T.sa)).by _ (by omega)) (by omega))
theorem core_setsum {X Y Z W P Q : Int} (h1 : F_check_setting [.dat (T2 a b)] [] = some (.dat .none, [])) (h2 : F_check_setting [.dat (T2 c f)] [] = some (.dat .none, [])) (m1 : gMul (.int a) (.int f) = some (.int X)) (m2 : gMul (.int c) (.int b) = some (.int Y)) (m3 : gMul (.int b) (.int f) = some (.int Z)) (m4 : gMul (.int a) (.int c) = some (.int W))
    (er : F_reduced [.dat (T2 (X + Y) (Z - W))] [] = some (.dat (T2 P Q), [])) (h1Q : Q = 0 → P.natAbs = 1) : F_setting_sum [.dat (T2 a b), .dat (T2 c f)] [] = some (.dat (T2 (if Q = 0 then 1 else if 0 < Q then P else 0 - P) (if Q = 0 then 0 else if 0 < Q then Q else 0 - Q)), []) := by
  by_cases hq : Q = 0
  · subst hq
    have k := h1Q rfl
    have z0 : gEq (.int 0) (.int 0) = some (.bool true) := rfl
    have q0 : decide ((0 : Int) < 0) = false := rfl
    have q1 : decide ((1 : Int) < 0) = false := rfl
    have q2 : decide ((-1 : Int) < 0) = true := rfl
    have hP : P = 1 ∨ P = -1 := by omega
    have n0 : -(0 : Int) = 0 := rfl
    have n1 : -(-1 : Int) = 1 := rfl
    rcases hP with rfl | rfl
    · simp! [F_setting_sum, b_setting_sum, h1, h2, gIx, ix2_0, ix2_1, m1, m2, m3, m4, er, aTup, q0, z0, q1]
    · simp! [F_setting_sum, b_setting_sum, h1, h2, gIx, ix2_0, ix2_1, m1, m2, m3, m4, er, aTup, q0, z0, q2, n0, n1]
  · have z0 : (Q == 0) = false := beq_eq_false_iff_ne.mpr hq
    rw [if_neg hq, if_neg hq]
    by_cases hp : 0 < Q
    · have hn : decide (Q < 0) = false := decide_eq_false (by omega)
      rw [if_pos hp, if_pos hp]
      simp! [F_setting_sum, b_setting_sum, h1, h2, gIx, ix2_0, ix2_1, m1, m2, m3, m4, er, aTup, hn, gEq_int, z0]
    · have hn : decide (Q < 0) = true := decide_eq_true (by omega)
      rw [if_neg hp, if_neg hp, Int.zero_sub, Int.zero_sub]
      simp! [F_setting_sum, b_setting_sum, h1, h2, gIx, ix2_0, ix2_1, m1, m2, m3, m4, er, aTup, hn]
theorem w_setsum (S : Sg m a b) (T : Sg m c f) (hm : m ≤ 300) : F_setting_sum [.dat (T2 a b), .dat (T2 c f)] [] = some (.dat (T2 (sgA (a * f + c * b) (b * f - a * c)) (sgB (a * f + c * b) (b * f - a * c))), []) := by
  have s1 : Sz (2 * m + 1) (a * f + c * b) := ((S.sa.mul T.sb).add (T.sa.mul S.sb)).by _ (by omega)
  have s2 : Sz (2 * m + 1) (b * f - a * c) := ((S.sb.mul T.sb).sub (S.sa.mul T.sa)).by _ (by omega)
  have hn := sum_nz S T
  refine core_setsum (w_chset S) (w_chset T) (gMul_ok (S.sa.sm (by omega)) (T.sb.sm (by omega))) (gMul_ok (T.sa.sm (by omega)) (S.sb.sm (by omega))) (gMul_ok (S.sb.sm (by omega)) (T.sb.sm (by omega))) (gMul_ok (S.sa.sm (by omega)) (T.sa.sm (by omega)))
    (e_reduced (v := [a * f + c * b, b * f - a * c]) (r := T2 (a * f + c * b) (b * f - a * c)) .t (m2 (s1.sm (by omega)) (s2.sm (by omega))) (by simp)) fun hz => ?_
  generalize a * f + c * b = p at *
  generalize b * f - a * c = q at *
  have g0 : gL [p, q] ≠ 0 := fun z => hn ⟨gL_zero z p (by simp), gL_zero z q (by simp)⟩
  have gr := gL_red g0
  unfold red at gr
  simp only [List.map_cons, List.map_nil] at gr
  rw [hz] at gr
  simpa [gL] using gr
theorem w_back (S : Sg s a b) : ∃ A B, F_setting_back [.dat (T2 a b)] [] = some (.dat (T2 A B), []) ∧ Sg s A B ∧ ∃ g, g ≠ 0 ∧ a * B + A * b = g * 0 ∧ b * B - a * A = g * 1 := by
  have h1 := w_chset S
  by_cases hb : b = 0
  · have ha := S.z hb
    subst hb
    subst ha
    have z0 : gEq (.int 0) (.int 0) = some (.bool true) := rfl
    refine ⟨1, 0, ?_, S, -1, by decide, by decide, by decide⟩
    simp! [F_setting_back, b_setting_back, h1, gIx, ix2_1, z0]
  · have z0 : (b == 0) = false := beq_eq_false_iff_ne.mpr hb
    refine ⟨-a, b, ?_, ⟨S.b0, fun z => absurd z hb, ?_, S.sa.neg, S.sb⟩, Ls a b, ?_, ?_, ?_⟩
    · simp! [F_setting_back, b_setting_back, h1, gIx, ix2_0, ix2_1, gEq_int, z0]
    · have := S.one
      simpa [gL, Int.natAbs_neg] using this
    · have := ls_pos S
      omega
    · grind
    · unfold Ls; grind
end
end PL


set_option Elab.async false
set_option linter.all false
set_option maxRecDepth 100000
set_option maxHeartbeats 4000000
set_option exponentiation.threshold 20000
namespace PL
open PySem PySem.Spec L2 DL
local macro_rules | `(tactic| simp! [$as,*]) => `(tactic| simp only [fThaw, fThawT, fThawL, thawD, thawO, noL, noLAll, fAug, gAug, fRev, fFnA, fCallV, fBot, fZip, zipD, gSum, intsOf, List.foldl_cons, List.foldl_nil, mkF, fRet, fRetL, fRetN, fSkip, fSeq, fNever, fSet, fAsg, fNew, fIfS, fDrop, fPar, fPar3, fSetc, fSetc2, fVar, fLit, fOp, fUn, fTup, fTup.datsOf, fLst, fNilA, fConsA, fStarA, fCelA, fOfL, fTru, fAndT, fOrT, fNotT, fAndV, fOrV, fNotV, fIf, fBi, fCall, fCallL, fCallFr, fPerm, callF, celOf, celsOk, norm, aName, aNil, aCons, aTup, setD, fSl, fIt, fItL, fItT, fFor, forGo, fLc, lcGo, fYes, wipeD, fCix, fList, fSlL, fPart, fNoPart, fChain, List.length_cons, List.length_nil, List.getElem?_cons_zero, List.getElem?_cons_succ, List.getElem?_nil, List.set_cons_zero, List.set_cons_succ, List.map_cons, List.map_nil, List.cons_append, List.nil_append, List.append_nil, List.replicate, List.take_zero, List.take_nil, List.take_succ_cons, ↓bsome, ↓msome, Option.bind_some, Option.map_some, Option.bind_none, Option.map_none, Nat.sub_self, Int.cast_ofNat_Int, Nat.reduceAdd, Nat.reduceMul, Nat.reduceSub, Nat.reduceLeDiff, Nat.reduceLT, Nat.zero_add, Nat.add_zero, and_self, and_true, true_and, if_true, if_false, ↓reduceIte, ite_true, Bool.true_eq_false, Bool.false_eq_true, beq_self_eq_true, Bool.and_self, Bool.not_true, Bool.not_false, decide_true, decide_false, gLen, gTyIs, gTyNot, tyOf, gNeg, gPlus, DL.gSub, gCmp, gInt, gAbs, gTuple, gMax, gMin, gGcd, LIM, gIx, $as,*])
section
variable {m s k : Nat} {x0 x1 x2 x3 x4 n t0 t1 t2 t3 t4 d a b c f p q : Int} {t : List PyData}
theorem w_dot5 {a0 a1 a2 a3 a4 b0 b1 b2 b3 b4 : Int} (h0 : Sm 4000 a0) (h1 : Sm 4000 a1) (h2 : Sm 4000 a2) (h3 : Sm 4000 a3) (h4 : Sm 4000 a4) (k0 : Sm 4000 b0) (k1 : Sm 4000 b1) (k2 : Sm 4000 b2) (k3 : Sm 4000 b3) (k4 : Sm 4000 b4) : F_dot [.dat (T5 a0 a1 a2 a3 a4), .dat (T5 b0 b1 b2 b3 b4)] [] = some (.dat (.int (a0 * b0 + a1 * b1 + a2 * b2 + a3 * b3 + a4 * b4)), []) := by
  have m0 := gMul_ok h0 k0
  have m1 := gMul_ok h1 k1
  have m2 := gMul_ok h2 k2
  have m3 := gMul_ok h3 k3
  have m4 := gMul_ok h4 k4
  simp! [F_dot, b_dot, fZip, zipD, m0, m1, m2, m3, m4, gSum, intsOf, List.sum_cons, List.sum_nil, Int.add_zero, Int.add_assoc]
theorem core_parts {D v0 v1 v2 v3 v4 : Int} {r0 r1 r2 r3 r4 : PyData} (h1 : F_check_course [.dat (T6 t0 t1 t2 t3 t4 d)] [] = some (.dat .none, []))
    (d0 : F_dot [.dat (T5 3 0 1 0 3), .dat (T5 t0 t1 t2 t3 t4)] [] = some (.dat (.int v0), [])) (d1 : F_dot [.dat (T5 4 0 0 0 (-4)), .dat (T5 t0 t1 t2 t3 t4)] [] = some (.dat (.int v1), [])) (d2 : F_dot [.dat (T5 0 2 0 2 0), .dat (T5 t0 t1 t2 t3 t4)] [] = some (.dat (.int v2), [])) (d3 : F_dot [.dat (T5 1 0 (-1) 0 1), .dat (T5 t0 t1 t2 t3 t4)] [] = some (.dat (.int v3), [])) (d4 : F_dot [.dat (T5 0 1 0 (-1) 0), .dat (T5 t0 t1 t2 t3 t4)] [] = some (.dat (.int v4), []))
    (m8 : gMul (.int 8) (.int d) = some (.int D)) (e0 : F_ratio [.dat (.int v0), .dat (.int D)] [] = some (.dat r0, [])) (e1 : F_ratio [.dat (.int v1), .dat (.int D)] [] = some (.dat r1, [])) (e2 : F_ratio [.dat (.int v2), .dat (.int D)] [] = some (.dat r2, [])) (e3 : F_ratio [.dat (.int v3), .dat (.int D)] [] = some (.dat r3, [])) (e4 : F_ratio [.dat (.int v4), .dat (.int D)] [] = some (.dat r4, [])) :
    F_course_parts [.dat (T6 t0 t1 t2 t3 t4 d)] [] = some (.dat (.tuple [r0, r1, r2, r3, r4]), []) := by
  simp! [F_course_parts, b_course_parts, c__ROWS_OF_PARTS, h1, cut6, d0, d1, d2, d3, d4, m8, e0, e1, e2, e3, e4, gIx, ix6']
theorem w_parts (C : Co m t0 t1 t2 t3 t4 d) (hm : m ≤ 1000) : ∃ r1 r2 r3 r4 : PyData, F_course_parts [.dat (T6 t0 t1 t2 t3 t4 d)] [] = some (.dat (.tuple [Rt (3 * t0 + t2 + 3 * t4) (8 * d), r1, r2, r3, r4]), []) := by
  have c : ∀ {x : Int}, x.natAbs < 2 ^ 4 → Sz 4 x := fun h => Sm.sz h
  have z3 : Sz 4 (3 : Int) := c (by decide)
  have z0 : Sz 4 (0 : Int) := c (by decide)
  have z1 : Sz 4 (1 : Int) := c (by decide)
  have z2 : Sz 4 (2 : Int) := c (by decide)
  have z4 : Sz 4 (4 : Int) := c (by decide)
  have n4 : Sz 4 (-4 : Int) := c (by decide)
  have n1 : Sz 4 (-1 : Int) := c (by decide)
  have dt : ∀ {a0 a1 a2 a3 a4 : Int}, Sz 4 a0 → Sz 4 a1 → Sz 4 a2 → Sz 4 a3 → Sz 4 a4 → F_dot [.dat (T5 a0 a1 a2 a3 a4), .dat (T5 t0 t1 t2 t3 t4)] [] = some (.dat (.int (a0 * t0 + a1 * t1 + a2 * t2 + a3 * t3 + a4 * t4)), []) ∧ Sm 4000 (a0 * t0 + a1 * t1 + a2 * t2 + a3 * t3 + a4 * t4) := fun h0 h1 h2 h3 h4 =>
    ⟨w_dot5 (h0.sm (by omega)) (h1.sm (by omega)) (h2.sm (by omega)) (h3.sm (by omega)) (h4.sm (by omega)) (C.s0.sm (by omega)) (C.s1.sm (by omega)) (C.s2.sm (by omega)) (C.s3.sm (by omega)) (C.s4.sm (by omega)),
      (((((h0.mul C.s0).add (h1.mul C.s1)).add (h2.mul C.s2)).add (h3.mul C.s3)).add (h4.mul C.s4)).sm (by omega)⟩
  have s8 : Sz 4 (8 : Int) := c (by decide)
  have m8 := gMul_ok (s8.sm (m := 4000) (by omega)) (C.sn.sm (m := 4000) (by omega))
  have D0 : 0 < 8 * d := by have := C.n0; omega
  have sD : Sm 4000 (8 * d) := (s8.mul C.sn).sm (by omega)
  obtain ⟨d0, b0⟩ := dt z3 z0 z1 z0 z3
  obtain ⟨d1, b1⟩ := dt z4 z0 z0 z0 n4
  obtain ⟨d2, b2⟩ := dt z0 z2 z0 z2 z0
  obtain ⟨d3, b3⟩ := dt z1 z0 n1 z0 z1
  obtain ⟨d4, b4⟩ := dt z0 z1 z0 n1 z0
  have r := core_parts (w_chco C) d0 d1 d2 d3 d4 m8 (e_ratio D0 b0 sD) (e_ratio D0 b1 sD) (e_ratio D0 b2 sD) (e_ratio D0 b3 sD) (e_ratio D0 b4 sD)
  have e : 3 * t0 + 0 * t1 + 1 * t2 + 0 * t3 + 3 * t4 = 3 * t0 + t2 + 3 * t4 := by omega
  rw [e] at r
  exact ⟨_, _, _, _, r⟩
/-! what is drawn -/
theorem w_quad (h : Src (k + 5) t) : ∃ (u v w : Int) (t' : List PyData), F__law_quad [.cel 0] [t] = some (.dat (T3 u v w), [t']) ∧ Src k t' ∧ Sz 8 u ∧ Sz 8 v ∧ Sz 8 w := by
  obtain ⟨w, t1, e1, h1, w0, w1⟩ := w_draw (k := k + 4) (m := 5) h (by decide) (by decide)
  obtain ⟨M, t2, e2, h2, hm⟩ := w_pickn (k := k + 3) [1, 2, 3, 7] h1 (by decide) (by decide)
  have hm' : 0 < M ∧ M ≤ 7 := by
    simp only [List.mem_cons, List.not_mem_nil, or_false] at hm
    rcases hm with rfl | rfl | rfl | rfl <;> decide
  simp only [List.map_cons, List.map_nil] at e2
  obtain ⟨p, t3, e3, h3, p0, p1⟩ := w_about (k := k + 2) (m := M) h2 (by omega) (by omega)
  obtain ⟨q, t4, e4, h4, q0, q1⟩ := w_about (k := k + 1) (m := M) h3 (by omega) (by omega)
  obtain ⟨r, t5, e5, h5, r0, r1⟩ := w_about (k := k) (m := M) h4 (by omega) (by omega)
  have sp : Sz 3 p := Sm.sz (by unfold Sm; omega)
  have sq : Sz 3 q := Sm.sz (by unfold Sm; omega)
  have sr : Sz 3 r := Sm.sz (by unfold Sm; omega)
  have m1 := gMul_ok (sp.sm (m := 4000)) (sp.sm (m := 4000))
  have m2 := gMul_ok (sz_2.sm (m := 4000)) (sp.sm (m := 4000))
  have m3 := gMul_ok ((sz_2.mul sp).sm (m := 4000)) (sq.sm (m := 4000))
  have m4 := gMul_ok (sq.sm (m := 4000)) (sq.sm (m := 4000))
  have m5 := gMul_ok (sp.sm (m := 4000)) (sq.sm (m := 4000))
  have m6 := gMul_ok (sp.sm (m := 4000)) (sr.sm (m := 4000))
  have s1 : Sz 8 (p * p) := (sp.mul sp).by _ (by decide)
  have s2 : Sz 8 (2 * p * q) := ((sz_2.mul sp).mul sq).by _ (by decide)
  have s3 : Sz 8 (q * q) := (sq.mul sq).by _ (by decide)
  have s4 : Sz 8 (p * q) := (sp.mul sq).by _ (by decide)
  have s5 : Sz 8 (p * r + q) := ((sp.mul sr).add sq).by _ (by decide)
  have s6 : Sz 8 (1 + p * p) := (sz_1.add (sp.mul sp)).by _ (by decide)
  have s7 : Sz 8 (0 - 2 * p) := (sz_0.sub (sz_2.mul sp)).by _ (by decide)
  have hc : w = 0 ∨ w = 1 ∨ w = 2 ∨ w = 3 ∨ w = 4 := by omega
  have r00 : gEq (.int 0) (.int 0) = some (.bool true) := rfl
  have r10 : gEq (.int 1) (.int 0) = some (.bool false) := rfl
  have r11 : gEq (.int 1) (.int 1) = some (.bool true) := rfl
  have r20 : gEq (.int 2) (.int 0) = some (.bool false) := rfl
  have r21 : gEq (.int 2) (.int 1) = some (.bool false) := rfl
  have r30 : gEq (.int 3) (.int 0) = some (.bool false) := rfl
  have r31 : gEq (.int 3) (.int 1) = some (.bool false) := rfl
  have r40 : gEq (.int 4) (.int 0) = some (.bool false) := rfl
  have r41 : gEq (.int 4) (.int 1) = some (.bool false) := rfl
  have c2 : decide ((2 : Int) < 4) = true := rfl
  have c3 : decide ((3 : Int) < 4) = true := rfl
  have c4 : decide ((4 : Int) < 4) = false := rfl
  rcases hc with rfl | rfl | rfl | rfl | rfl
  · exact ⟨_, _, _, t5, by simp! [F__law_quad, b__law_quad, e1, e2, e3, e4, e5, m1, m2, m3, m4, r00], h5, s1, s2, s3⟩
  · exact ⟨_, _, _, t5, by simp! [F__law_quad, b__law_quad, e1, e2, e3, e4, e5, m5, m6, r10, r11], h5, s4, s5, sr.by _ (by decide)⟩
  · exact ⟨_, _, _, t5, by simp! [F__law_quad, b__law_quad, e1, e2, e3, e4, e5, r20, r21, c2], h5, sp.by _ (by decide), sq.by _ (by decide), sr.by _ (by decide)⟩
  · exact ⟨_, _, _, t5, by simp! [F__law_quad, b__law_quad, e1, e2, e3, e4, e5, r30, r31, c3], h5, sp.by _ (by decide), sq.by _ (by decide), sr.by _ (by decide)⟩
  · exact ⟨_, _, _, t5, by simp! [F__law_quad, b__law_quad, e1, e2, e3, e4, e5, r40, r41, c4, m1, m2], h5, s6, s7, sz_1.by _ (by decide)⟩
theorem w_folded {u v w u' v' w' : Int} (hu : Sz 8 u) (hv : Sz 8 v) (hw : Sz 8 w) (hu' : Sz 8 u') (hv' : Sz 8 v') (hw' : Sz 8 w') : ∃ f0 f1 f2 f3 f4 : Int, F__law_folded [.dat (T3 u v w), .dat (T3 u' v' w')] [] = some (.dat (L5 f0 f1 f2 f3 f4), []) ∧ Sz 20 f0 ∧ Sz 20 f1 ∧ Sz 20 f2 ∧ Sz 20 f3 ∧ Sz 20 f4 := by
  have g : ∀ {x y : Int}, Sz 8 x → Sz 8 y → gMul (.int x) (.int y) = some (.int (x * y)) := fun h k => gMul_ok h.sm k.sm
  have m1 := g hu hu'
  have m2 := g hu hv'
  have m3 := g hv hu'
  have m4 := g hu hw'
  have m5 := g hv hv'
  have m6 := g hw hu'
  have m7 := g hv hw'
  have m8 := g hw hv'
  have m9 := g hw hw'
  refine ⟨u * u', u * v' + v * u', u * w' + v * v' + w * u', v * w' + w * v', w * w', ?_, (hu.mul hu').by _ (by decide), ((hu.mul hv').add (hv.mul hu')).by _ (by decide), (((hu.mul hw').add (hv.mul hv')).add (hw.mul hu')).by _ (by decide), ((hv.mul hw').add (hw.mul hv')).by _ (by decide), (hw.mul hw').by _ (by decide)⟩
  simp! [F__law_folded, b__law_folded, gIx, ix3_0, ix3_1, ix3_2, m1, m2, m3, m4, m5, m6, m7, m8, m9]
theorem co_of {y0 y1 y2 y3 y4 N : Int} (N0 : 0 < N) (h0 : Sz m y0) (h1 : Sz m y1) (h2 : Sz m y2) (h3 : Sz m y3) (h4 : Sz m y4) (hN : Sz m N) (hm : m ≤ 3000) : ∃ x0 x1 x2 x3 x4 n : Int, F__law_low_K36 [.dat (.list [.int y0, .int y1, .int y2, .int y3, .int y4, .int N])] [] = some (.dat (T6 x0 x1 x2 x3 x4 n), []) ∧ Co m x0 x1 x2 x3 x4 n := by
  have r := w_low (v := [y0, y1, y2, y3, y4, N]) .l (fun x hx => by
    simp only [List.mem_cons, List.not_mem_nil, or_false] at hx
    rcases hx with rfl | rfl | rfl | rfl | rfl | rfl
    · exact h0.sm (by omega)
    · exact h1.sm (by omega)
    · exact h2.sm (by omega)
    · exact h3.sm (by omega)
    · exact h4.sm (by omega)
    · exact hN.sm (by omega)) (by simp)
  have gr := gL_red (v := [y0, y1, y2, y3, y4, N]) (gL_ne (x := N) (by simp) (by omega))
  have dp := Int.ediv_pos_of_pos_of_dvd N0 (by have := mL_pos [y0, y1, y2, y3, y4, N]; omega) (mL_dvd (v := [y0, y1, y2, y3, y4, N]) (x := N) (by simp))
  exact ⟨_, _, _, _, _, _, r, dp, gr, h0.div, h1.div, h2.div, h3.div, h4.div, hN.div⟩
end
end PL


set_option Elab.async false
set_option linter.all false
set_option maxRecDepth 100000
set_option maxHeartbeats 4000000
set_option exponentiation.threshold 20000
namespace PL
open PySem PySem.Spec L2 DL
local macro_rules | `(tactic| simp! [$as,*]) => `(tactic| simp only [fThaw, fThawT, fThawL, thawD, thawO, noL, noLAll, fAug, gAug, fRev, fFnA, fCallV, fBot, fZip, zipD, gSum, intsOf, List.foldl_cons, List.foldl_nil, mkF, fRet, fRetL, fRetN, fSkip, fSeq, fNever, fSet, fAsg, fNew, fIfS, fDrop, fPar, fPar3, fSetc, fSetc2, fVar, fLit, fOp, fUn, fTup, fTup.datsOf, fLst, fNilA, fConsA, fStarA, fCelA, fOfL, fTru, fAndT, fOrT, fNotT, fAndV, fOrV, fNotV, fIf, fBi, fCall, fCallL, fCallFr, fPerm, callF, celOf, celsOk, norm, aName, aNil, aCons, aTup, setD, fSl, fIt, fItL, fItT, fFor, forGo, fLc, lcGo, fYes, wipeD, fCix, fList, fSlL, fPart, fNoPart, fChain, List.length_cons, List.length_nil, List.getElem?_cons_zero, List.getElem?_cons_succ, List.getElem?_nil, List.set_cons_zero, List.set_cons_succ, List.map_cons, List.map_nil, List.cons_append, List.nil_append, List.append_nil, List.replicate, List.take_zero, List.take_nil, List.take_succ_cons, ↓bsome, ↓msome, Option.bind_some, Option.map_some, Option.bind_none, Option.map_none, Nat.sub_self, Int.cast_ofNat_Int, Nat.reduceAdd, Nat.reduceMul, Nat.reduceSub, Nat.reduceLeDiff, Nat.reduceLT, Nat.zero_add, Nat.add_zero, and_self, and_true, true_and, if_true, if_false, ↓reduceIte, ite_true, Bool.true_eq_false, Bool.false_eq_true, beq_self_eq_true, Bool.and_self, Bool.not_true, Bool.not_false, decide_true, decide_false, gLen, gTyIs, gTyNot, tyOf, gNeg, gPlus, DL.gSub, gCmp, gInt, gAbs, gTuple, gMax, gMin, gGcd, LIM, gIx, $as,*])
section
variable {m s k : Nat} {x0 x1 x2 x3 x4 n t0 t1 t2 t3 t4 d a b c f p q : Int} {t : List PyData}
theorem gE01 : gEq (.int 0) (.int 1) = some (.bool false) := rfl
theorem gE05 : gEq (.int 0) (.int 5) = some (.bool false) := rfl
theorem gL02 : decide ((0 : Int) < 2) = true := rfl
theorem gE11 : gEq (.int 1) (.int 1) = some (.bool true) := rfl
theorem gE15 : gEq (.int 1) (.int 5) = some (.bool false) := rfl
theorem gL12 : decide ((1 : Int) < 2) = true := rfl
theorem gE21 : gEq (.int 2) (.int 1) = some (.bool false) := rfl
theorem gE25 : gEq (.int 2) (.int 5) = some (.bool false) := rfl
theorem gL22 : decide ((2 : Int) < 2) = false := rfl
theorem gE31 : gEq (.int 3) (.int 1) = some (.bool false) := rfl
theorem gE35 : gEq (.int 3) (.int 5) = some (.bool false) := rfl
theorem gL32 : decide ((3 : Int) < 2) = false := rfl
theorem gE41 : gEq (.int 4) (.int 1) = some (.bool false) := rfl
theorem gE45 : gEq (.int 4) (.int 5) = some (.bool false) := rfl
theorem gL42 : decide ((4 : Int) < 2) = false := rfl
theorem gE51 : gEq (.int 5) (.int 1) = some (.bool false) := rfl
theorem gE55 : gEq (.int 5) (.int 5) = some (.bool true) := rfl
theorem gL52 : decide ((5 : Int) < 2) = false := rfl
theorem core_course0 {M u : Int} {one X fr : PyData} {f0 f1 f2 f3 f4 : Int} {t t1 t2 t3 t4 : List PyData}
    (y1 : F__law_draw [.cel 0, .dat (.int 6)] [t] = some (.dat (.int 0), [t1])) (y2 : F__law_about [.cel 0, .dat (.int 6)] [t1] = some (.dat (.int M), [t2])) (y3 : F__law_draw [.cel 0, .dat (.int 5)] [t2] = some (.dat (.int u), [t3])) (y4 : F__law_quad [.cel 0] [t3] = some (.dat one, [t4]))
     (yf : F__law_folded [.dat one, .dat one] [] = some (.dat (L5 f0 f1 f2 f3 f4), [])) (m2 : gMul (.int 2) (.int M) = some (.int (2 * M)))
    (yl : F__law_low_K36 [.dat (.list [.int (f0 + M), .int (f1 + 0), .int (f2 + 2 * M), .int (f3 + 0), .int (f4 + M), .int (1 + u)])] [] = some (.dat X, [])) (yr : F__law_ratio_K36 [.dat (.int M), .dat (.int (1 + u))] [] = some (.dat fr, [])) : F__law_course [.cel 0] [t] = some (.dat (.tuple [X, fr]), [t4]) := by
  have c0 : (fPar3 5 6 7 (fConsA (fCall F__law_draw (fCelA 0 (fConsA (fLit (.int 6)) fNilA))) (fConsA (fCall F__law_about (fCelA 0 (fConsA (fLit (.int 6)) fNilA))) (fConsA (fOp gPlus (fLit (.int 1)) (fCall F__law_draw (fCelA 0 (fConsA (fLit (.int 5)) fNilA)))) fNilA)))) ⟨[some (.cel 0), none, none, none, none, none, none, none, none, none], [t]⟩ = some (.nx ⟨[some (.cel 0), none, none, none, none, some (.dat (.int 0)), some (.dat (.int M)), some (.dat (.int (1 + u))), none, none], [t3]⟩) := by
    simp! [y1, y2, y3]
  have c1 : (fSet 1 (fCall F__law_quad (fCelA 0 fNilA))) ⟨[some (.cel 0), none, none, none, none, some (.dat (.int 0)), some (.dat (.int M)), some (.dat (.int (1 + u))), none, none], [t3]⟩ = some (.nx ⟨[some (.cel 0), some (.dat one), none, none, none, some (.dat (.int 0)), some (.dat (.int M)), some (.dat (.int (1 + u))), none, none], [t4]⟩) := by
    simp! [y4]
  have c2 : (fSet 2 (fIf (fTru (fOp (gCmp fun i j => decide (i < j)) (fVar 5) (fLit (.int 2)))) (fVar 1) (fCall F__law_quad (fCelA 0 fNilA)))) ⟨[some (.cel 0), some (.dat one), none, none, none, some (.dat (.int 0)), some (.dat (.int M)), some (.dat (.int (1 + u))), none, none], [t4]⟩ = some (.nx ⟨[some (.cel 0), some (.dat one), some (.dat one), none, none, some (.dat (.int 0)), some (.dat (.int M)), some (.dat (.int (1 + u))), none, none], [t4]⟩) := by
    simp! [gL02]
  have c3 : (fSet 3 (fCall F__law_folded (fConsA (fVar 1) (fConsA (fVar 2) fNilA)))) ⟨[some (.cel 0), some (.dat one), some (.dat one), none, none, some (.dat (.int 0)), some (.dat (.int M)), some (.dat (.int (1 + u))), none, none], [t4]⟩ = some (.nx ⟨[some (.cel 0), some (.dat one), some (.dat one), some (.dat (L5 f0 f1 f2 f3 f4)), none, some (.dat (.int 0)), some (.dat (.int M)), some (.dat (.int (1 + u))), none, none], [t4]⟩) := by
    simp! [yf]
  have c4 : (fIfS (fTru (fOp gEq (fVar 5) (fLit (.int 1)))) (fSet 3 (fOfL (fLc (fIt (fVar 3)) (aName 8) fYes (fOp gSub (fLit (.int 0)) (fVar 8)) [8]))) fSkip) ⟨[some (.cel 0), some (.dat one), some (.dat one), some (.dat (L5 f0 f1 f2 f3 f4)), none, some (.dat (.int 0)), some (.dat (.int M)), some (.dat (.int (1 + u))), none, none], [t4]⟩ = some (.nx ⟨[some (.cel 0), some (.dat one), some (.dat one), some (.dat (L5 f0 f1 f2 f3 f4)), none, some (.dat (.int 0)), some (.dat (.int M)), some (.dat (.int (1 + u))), none, none], [t4]⟩) := by
    simp! [gE01]
  have c5 : (fIfS (fTru (fOp gEq (fVar 5) (fLit (.int 5)))) (fSet 3 (fOfL (fLc (fRng1 (fConsA (fLit (.int 5)) fNilA)) (aName 9) fYes (fCall F__law_about (fCelA 0 (fConsA (fLit (.int 9)) fNilA))) [9]))) fSkip) ⟨[some (.cel 0), some (.dat one), some (.dat one), some (.dat (L5 f0 f1 f2 f3 f4)), none, some (.dat (.int 0)), some (.dat (.int M)), some (.dat (.int (1 + u))), none, none], [t4]⟩ = some (.nx ⟨[some (.cel 0), some (.dat one), some (.dat one), some (.dat (L5 f0 f1 f2 f3 f4)), none, some (.dat (.int 0)), some (.dat (.int M)), some (.dat (.int (1 + u))), none, none], [t4]⟩) := by
    simp! [gE05]
  have c6 : (fSet 4 (fOfL (fLst (fConsA (fVar 6) (fConsA (fLit (.int 0)) (fConsA (fOp gMul (fLit (.int 2)) (fVar 6)) (fConsA (fLit (.int 0)) (fConsA (fVar 6) fNilA)))))))) ⟨[some (.cel 0), some (.dat one), some (.dat one), some (.dat (L5 f0 f1 f2 f3 f4)), none, some (.dat (.int 0)), some (.dat (.int M)), some (.dat (.int (1 + u))), none, none], [t4]⟩ = some (.nx ⟨[some (.cel 0), some (.dat one), some (.dat one), some (.dat (L5 f0 f1 f2 f3 f4)), some (.dat (L5 M 0 (2 * M) 0 M)), some (.dat (.int 0)), some (.dat (.int M)), some (.dat (.int (1 + u))), none, none], [t4]⟩) := by
    simp! [m2]
  have c7 : (fRet (fTup (fConsA (fCall F__law_low_K36 (fConsA (fOp gPlus (fOfL (fLc (fRng1 (fConsA (fLit (.int 5)) fNilA)) (aName 9) fYes (fOp gPlus (fOp gIx (fVar 3) (fVar 9)) (fOp gIx (fVar 4) (fVar 9))) [9])) (fOfL (fLst (fConsA (fVar 7) fNilA)))) fNilA)) (fConsA (fCall F__law_ratio_K36 (fConsA (fVar 6) (fConsA (fVar 7) fNilA))) fNilA)))) ⟨[some (.cel 0), some (.dat one), some (.dat one), some (.dat (L5 f0 f1 f2 f3 f4)), some (.dat (L5 M 0 (2 * M) 0 M)), some (.dat (.int 0)), some (.dat (.int M)), some (.dat (.int (1 + u))), none, none], [t4]⟩ = some (.rt (.dat (.tuple [X, fr])) [t4]) := by
    simp! [fRng1, rng_5, tn_5, rng5D, gIx, ix5_0, ix5_1, ix5_2, ix5_3, ix5_4, yl, yr]
  exact fn_ok (np := 1) (nN := 10) (n0 := 1) ((seq_nx c0).trans ((seq_nx c1).trans ((seq_nx c2).trans ((seq_nx c3).trans ((seq_nx c4).trans ((seq_nx c5).trans ((seq_nx c6).trans (c7)))))))) ⟨rfl, rfl⟩ rfl
theorem core_course1 {M u : Int} {one X fr : PyData} {f0 f1 f2 f3 f4 : Int} {t t1 t2 t3 t4 : List PyData}
    (y1 : F__law_draw [.cel 0, .dat (.int 6)] [t] = some (.dat (.int 1), [t1])) (y2 : F__law_about [.cel 0, .dat (.int 6)] [t1] = some (.dat (.int M), [t2])) (y3 : F__law_draw [.cel 0, .dat (.int 5)] [t2] = some (.dat (.int u), [t3])) (y4 : F__law_quad [.cel 0] [t3] = some (.dat one, [t4]))
     (yf : F__law_folded [.dat one, .dat one] [] = some (.dat (L5 f0 f1 f2 f3 f4), [])) (m2 : gMul (.int 2) (.int M) = some (.int (2 * M)))
    (yl : F__law_low_K36 [.dat (.list [.int ((0 - f0) + M), .int ((0 - f1) + 0), .int ((0 - f2) + 2 * M), .int ((0 - f3) + 0), .int ((0 - f4) + M), .int (1 + u)])] [] = some (.dat X, [])) (yr : F__law_ratio_K36 [.dat (.int M), .dat (.int (1 + u))] [] = some (.dat fr, [])) : F__law_course [.cel 0] [t] = some (.dat (.tuple [X, fr]), [t4]) := by
  have c0 : (fPar3 5 6 7 (fConsA (fCall F__law_draw (fCelA 0 (fConsA (fLit (.int 6)) fNilA))) (fConsA (fCall F__law_about (fCelA 0 (fConsA (fLit (.int 6)) fNilA))) (fConsA (fOp gPlus (fLit (.int 1)) (fCall F__law_draw (fCelA 0 (fConsA (fLit (.int 5)) fNilA)))) fNilA)))) ⟨[some (.cel 0), none, none, none, none, none, none, none, none, none], [t]⟩ = some (.nx ⟨[some (.cel 0), none, none, none, none, some (.dat (.int 1)), some (.dat (.int M)), some (.dat (.int (1 + u))), none, none], [t3]⟩) := by
    simp! [y1, y2, y3]
  have c1 : (fSet 1 (fCall F__law_quad (fCelA 0 fNilA))) ⟨[some (.cel 0), none, none, none, none, some (.dat (.int 1)), some (.dat (.int M)), some (.dat (.int (1 + u))), none, none], [t3]⟩ = some (.nx ⟨[some (.cel 0), some (.dat one), none, none, none, some (.dat (.int 1)), some (.dat (.int M)), some (.dat (.int (1 + u))), none, none], [t4]⟩) := by
    simp! [y4]
  have c2 : (fSet 2 (fIf (fTru (fOp (gCmp fun i j => decide (i < j)) (fVar 5) (fLit (.int 2)))) (fVar 1) (fCall F__law_quad (fCelA 0 fNilA)))) ⟨[some (.cel 0), some (.dat one), none, none, none, some (.dat (.int 1)), some (.dat (.int M)), some (.dat (.int (1 + u))), none, none], [t4]⟩ = some (.nx ⟨[some (.cel 0), some (.dat one), some (.dat one), none, none, some (.dat (.int 1)), some (.dat (.int M)), some (.dat (.int (1 + u))), none, none], [t4]⟩) := by
    simp! [gL12]
  have c3 : (fSet 3 (fCall F__law_folded (fConsA (fVar 1) (fConsA (fVar 2) fNilA)))) ⟨[some (.cel 0), some (.dat one), some (.dat one), none, none, some (.dat (.int 1)), some (.dat (.int M)), some (.dat (.int (1 + u))), none, none], [t4]⟩ = some (.nx ⟨[some (.cel 0), some (.dat one), some (.dat one), some (.dat (L5 f0 f1 f2 f3 f4)), none, some (.dat (.int 1)), some (.dat (.int M)), some (.dat (.int (1 + u))), none, none], [t4]⟩) := by
    simp! [yf]
  have c4 : (fIfS (fTru (fOp gEq (fVar 5) (fLit (.int 1)))) (fSet 3 (fOfL (fLc (fIt (fVar 3)) (aName 8) fYes (fOp gSub (fLit (.int 0)) (fVar 8)) [8]))) fSkip) ⟨[some (.cel 0), some (.dat one), some (.dat one), some (.dat (L5 f0 f1 f2 f3 f4)), none, some (.dat (.int 1)), some (.dat (.int M)), some (.dat (.int (1 + u))), none, none], [t4]⟩ = some (.nx ⟨[some (.cel 0), some (.dat one), some (.dat one), some (.dat (L5 (0 - f0) (0 - f1) (0 - f2) (0 - f3) (0 - f4))), none, some (.dat (.int 1)), some (.dat (.int M)), some (.dat (.int (1 + u))), none, none], [t4]⟩) := by
    simp! [gE11]
  have c5 : (fIfS (fTru (fOp gEq (fVar 5) (fLit (.int 5)))) (fSet 3 (fOfL (fLc (fRng1 (fConsA (fLit (.int 5)) fNilA)) (aName 9) fYes (fCall F__law_about (fCelA 0 (fConsA (fLit (.int 9)) fNilA))) [9]))) fSkip) ⟨[some (.cel 0), some (.dat one), some (.dat one), some (.dat (L5 (0 - f0) (0 - f1) (0 - f2) (0 - f3) (0 - f4))), none, some (.dat (.int 1)), some (.dat (.int M)), some (.dat (.int (1 + u))), none, none], [t4]⟩ = some (.nx ⟨[some (.cel 0), some (.dat one), some (.dat one), some (.dat (L5 (0 - f0) (0 - f1) (0 - f2) (0 - f3) (0 - f4))), none, some (.dat (.int 1)), some (.dat (.int M)), some (.dat (.int (1 + u))), none, none], [t4]⟩) := by
    simp! [gE15]
  have c6 : (fSet 4 (fOfL (fLst (fConsA (fVar 6) (fConsA (fLit (.int 0)) (fConsA (fOp gMul (fLit (.int 2)) (fVar 6)) (fConsA (fLit (.int 0)) (fConsA (fVar 6) fNilA)))))))) ⟨[some (.cel 0), some (.dat one), some (.dat one), some (.dat (L5 (0 - f0) (0 - f1) (0 - f2) (0 - f3) (0 - f4))), none, some (.dat (.int 1)), some (.dat (.int M)), some (.dat (.int (1 + u))), none, none], [t4]⟩ = some (.nx ⟨[some (.cel 0), some (.dat one), some (.dat one), some (.dat (L5 (0 - f0) (0 - f1) (0 - f2) (0 - f3) (0 - f4))), some (.dat (L5 M 0 (2 * M) 0 M)), some (.dat (.int 1)), some (.dat (.int M)), some (.dat (.int (1 + u))), none, none], [t4]⟩) := by
    simp! [m2]
  have c7 : (fRet (fTup (fConsA (fCall F__law_low_K36 (fConsA (fOp gPlus (fOfL (fLc (fRng1 (fConsA (fLit (.int 5)) fNilA)) (aName 9) fYes (fOp gPlus (fOp gIx (fVar 3) (fVar 9)) (fOp gIx (fVar 4) (fVar 9))) [9])) (fOfL (fLst (fConsA (fVar 7) fNilA)))) fNilA)) (fConsA (fCall F__law_ratio_K36 (fConsA (fVar 6) (fConsA (fVar 7) fNilA))) fNilA)))) ⟨[some (.cel 0), some (.dat one), some (.dat one), some (.dat (L5 (0 - f0) (0 - f1) (0 - f2) (0 - f3) (0 - f4))), some (.dat (L5 M 0 (2 * M) 0 M)), some (.dat (.int 1)), some (.dat (.int M)), some (.dat (.int (1 + u))), none, none], [t4]⟩ = some (.rt (.dat (.tuple [X, fr])) [t4]) := by
    simp! [fRng1, rng_5, tn_5, rng5D, gIx, ix5_0, ix5_1, ix5_2, ix5_3, ix5_4, yl, yr]
  exact fn_ok (np := 1) (nN := 10) (n0 := 1) ((seq_nx c0).trans ((seq_nx c1).trans ((seq_nx c2).trans ((seq_nx c3).trans ((seq_nx c4).trans ((seq_nx c5).trans ((seq_nx c6).trans (c7)))))))) ⟨rfl, rfl⟩ rfl
theorem core_course2 {M u : Int} {one two X fr : PyData} {f0 f1 f2 f3 f4 : Int} {t t1 t2 t3 t4 t5 : List PyData}
    (y1 : F__law_draw [.cel 0, .dat (.int 6)] [t] = some (.dat (.int 2), [t1])) (y2 : F__law_about [.cel 0, .dat (.int 6)] [t1] = some (.dat (.int M), [t2])) (y3 : F__law_draw [.cel 0, .dat (.int 5)] [t2] = some (.dat (.int u), [t3])) (y4 : F__law_quad [.cel 0] [t3] = some (.dat one, [t4]))
    (y5 : F__law_quad [.cel 0] [t4] = some (.dat two, [t5])) (yf : F__law_folded [.dat one, .dat two] [] = some (.dat (L5 f0 f1 f2 f3 f4), [])) (m2 : gMul (.int 2) (.int M) = some (.int (2 * M)))
    (yl : F__law_low_K36 [.dat (.list [.int (f0 + M), .int (f1 + 0), .int (f2 + 2 * M), .int (f3 + 0), .int (f4 + M), .int (1 + u)])] [] = some (.dat X, [])) (yr : F__law_ratio_K36 [.dat (.int M), .dat (.int (1 + u))] [] = some (.dat fr, [])) : F__law_course [.cel 0] [t] = some (.dat (.tuple [X, fr]), [t5]) := by
  have c0 : (fPar3 5 6 7 (fConsA (fCall F__law_draw (fCelA 0 (fConsA (fLit (.int 6)) fNilA))) (fConsA (fCall F__law_about (fCelA 0 (fConsA (fLit (.int 6)) fNilA))) (fConsA (fOp gPlus (fLit (.int 1)) (fCall F__law_draw (fCelA 0 (fConsA (fLit (.int 5)) fNilA)))) fNilA)))) ⟨[some (.cel 0), none, none, none, none, none, none, none, none, none], [t]⟩ = some (.nx ⟨[some (.cel 0), none, none, none, none, some (.dat (.int 2)), some (.dat (.int M)), some (.dat (.int (1 + u))), none, none], [t3]⟩) := by
    simp! [y1, y2, y3]
  have c1 : (fSet 1 (fCall F__law_quad (fCelA 0 fNilA))) ⟨[some (.cel 0), none, none, none, none, some (.dat (.int 2)), some (.dat (.int M)), some (.dat (.int (1 + u))), none, none], [t3]⟩ = some (.nx ⟨[some (.cel 0), some (.dat one), none, none, none, some (.dat (.int 2)), some (.dat (.int M)), some (.dat (.int (1 + u))), none, none], [t4]⟩) := by
    simp! [y4]
  have c2 : (fSet 2 (fIf (fTru (fOp (gCmp fun i j => decide (i < j)) (fVar 5) (fLit (.int 2)))) (fVar 1) (fCall F__law_quad (fCelA 0 fNilA)))) ⟨[some (.cel 0), some (.dat one), none, none, none, some (.dat (.int 2)), some (.dat (.int M)), some (.dat (.int (1 + u))), none, none], [t4]⟩ = some (.nx ⟨[some (.cel 0), some (.dat one), some (.dat two), none, none, some (.dat (.int 2)), some (.dat (.int M)), some (.dat (.int (1 + u))), none, none], [t5]⟩) := by
    simp! [gL22, y5]
  have c3 : (fSet 3 (fCall F__law_folded (fConsA (fVar 1) (fConsA (fVar 2) fNilA)))) ⟨[some (.cel 0), some (.dat one), some (.dat two), none, none, some (.dat (.int 2)), some (.dat (.int M)), some (.dat (.int (1 + u))), none, none], [t5]⟩ = some (.nx ⟨[some (.cel 0), some (.dat one), some (.dat two), some (.dat (L5 f0 f1 f2 f3 f4)), none, some (.dat (.int 2)), some (.dat (.int M)), some (.dat (.int (1 + u))), none, none], [t5]⟩) := by
    simp! [yf]
  have c4 : (fIfS (fTru (fOp gEq (fVar 5) (fLit (.int 1)))) (fSet 3 (fOfL (fLc (fIt (fVar 3)) (aName 8) fYes (fOp gSub (fLit (.int 0)) (fVar 8)) [8]))) fSkip) ⟨[some (.cel 0), some (.dat one), some (.dat two), some (.dat (L5 f0 f1 f2 f3 f4)), none, some (.dat (.int 2)), some (.dat (.int M)), some (.dat (.int (1 + u))), none, none], [t5]⟩ = some (.nx ⟨[some (.cel 0), some (.dat one), some (.dat two), some (.dat (L5 f0 f1 f2 f3 f4)), none, some (.dat (.int 2)), some (.dat (.int M)), some (.dat (.int (1 + u))), none, none], [t5]⟩) := by
    simp! [gE21]
  have c5 : (fIfS (fTru (fOp gEq (fVar 5) (fLit (.int 5)))) (fSet 3 (fOfL (fLc (fRng1 (fConsA (fLit (.int 5)) fNilA)) (aName 9) fYes (fCall F__law_about (fCelA 0 (fConsA (fLit (.int 9)) fNilA))) [9]))) fSkip) ⟨[some (.cel 0), some (.dat one), some (.dat two), some (.dat (L5 f0 f1 f2 f3 f4)), none, some (.dat (.int 2)), some (.dat (.int M)), some (.dat (.int (1 + u))), none, none], [t5]⟩ = some (.nx ⟨[some (.cel 0), some (.dat one), some (.dat two), some (.dat (L5 f0 f1 f2 f3 f4)), none, some (.dat (.int 2)), some (.dat (.int M)), some (.dat (.int (1 + u))), none, none], [t5]⟩) := by
    simp! [gE25]
  have c6 : (fSet 4 (fOfL (fLst (fConsA (fVar 6) (fConsA (fLit (.int 0)) (fConsA (fOp gMul (fLit (.int 2)) (fVar 6)) (fConsA (fLit (.int 0)) (fConsA (fVar 6) fNilA)))))))) ⟨[some (.cel 0), some (.dat one), some (.dat two), some (.dat (L5 f0 f1 f2 f3 f4)), none, some (.dat (.int 2)), some (.dat (.int M)), some (.dat (.int (1 + u))), none, none], [t5]⟩ = some (.nx ⟨[some (.cel 0), some (.dat one), some (.dat two), some (.dat (L5 f0 f1 f2 f3 f4)), some (.dat (L5 M 0 (2 * M) 0 M)), some (.dat (.int 2)), some (.dat (.int M)), some (.dat (.int (1 + u))), none, none], [t5]⟩) := by
    simp! [m2]
  have c7 : (fRet (fTup (fConsA (fCall F__law_low_K36 (fConsA (fOp gPlus (fOfL (fLc (fRng1 (fConsA (fLit (.int 5)) fNilA)) (aName 9) fYes (fOp gPlus (fOp gIx (fVar 3) (fVar 9)) (fOp gIx (fVar 4) (fVar 9))) [9])) (fOfL (fLst (fConsA (fVar 7) fNilA)))) fNilA)) (fConsA (fCall F__law_ratio_K36 (fConsA (fVar 6) (fConsA (fVar 7) fNilA))) fNilA)))) ⟨[some (.cel 0), some (.dat one), some (.dat two), some (.dat (L5 f0 f1 f2 f3 f4)), some (.dat (L5 M 0 (2 * M) 0 M)), some (.dat (.int 2)), some (.dat (.int M)), some (.dat (.int (1 + u))), none, none], [t5]⟩ = some (.rt (.dat (.tuple [X, fr])) [t5]) := by
    simp! [fRng1, rng_5, tn_5, rng5D, gIx, ix5_0, ix5_1, ix5_2, ix5_3, ix5_4, yl, yr]
  exact fn_ok (np := 1) (nN := 10) (n0 := 1) ((seq_nx c0).trans ((seq_nx c1).trans ((seq_nx c2).trans ((seq_nx c3).trans ((seq_nx c4).trans ((seq_nx c5).trans ((seq_nx c6).trans (c7)))))))) ⟨rfl, rfl⟩ rfl
theorem core_course3 {M u : Int} {one two X fr : PyData} {f0 f1 f2 f3 f4 : Int} {t t1 t2 t3 t4 t5 : List PyData}
    (y1 : F__law_draw [.cel 0, .dat (.int 6)] [t] = some (.dat (.int 3), [t1])) (y2 : F__law_about [.cel 0, .dat (.int 6)] [t1] = some (.dat (.int M), [t2])) (y3 : F__law_draw [.cel 0, .dat (.int 5)] [t2] = some (.dat (.int u), [t3])) (y4 : F__law_quad [.cel 0] [t3] = some (.dat one, [t4]))
    (y5 : F__law_quad [.cel 0] [t4] = some (.dat two, [t5])) (yf : F__law_folded [.dat one, .dat two] [] = some (.dat (L5 f0 f1 f2 f3 f4), [])) (m2 : gMul (.int 2) (.int M) = some (.int (2 * M)))
    (yl : F__law_low_K36 [.dat (.list [.int (f0 + M), .int (f1 + 0), .int (f2 + 2 * M), .int (f3 + 0), .int (f4 + M), .int (1 + u)])] [] = some (.dat X, [])) (yr : F__law_ratio_K36 [.dat (.int M), .dat (.int (1 + u))] [] = some (.dat fr, [])) : F__law_course [.cel 0] [t] = some (.dat (.tuple [X, fr]), [t5]) := by
  have c0 : (fPar3 5 6 7 (fConsA (fCall F__law_draw (fCelA 0 (fConsA (fLit (.int 6)) fNilA))) (fConsA (fCall F__law_about (fCelA 0 (fConsA (fLit (.int 6)) fNilA))) (fConsA (fOp gPlus (fLit (.int 1)) (fCall F__law_draw (fCelA 0 (fConsA (fLit (.int 5)) fNilA)))) fNilA)))) ⟨[some (.cel 0), none, none, none, none, none, none, none, none, none], [t]⟩ = some (.nx ⟨[some (.cel 0), none, none, none, none, some (.dat (.int 3)), some (.dat (.int M)), some (.dat (.int (1 + u))), none, none], [t3]⟩) := by
    simp! [y1, y2, y3]
  have c1 : (fSet 1 (fCall F__law_quad (fCelA 0 fNilA))) ⟨[some (.cel 0), none, none, none, none, some (.dat (.int 3)), some (.dat (.int M)), some (.dat (.int (1 + u))), none, none], [t3]⟩ = some (.nx ⟨[some (.cel 0), some (.dat one), none, none, none, some (.dat (.int 3)), some (.dat (.int M)), some (.dat (.int (1 + u))), none, none], [t4]⟩) := by
    simp! [y4]
  have c2 : (fSet 2 (fIf (fTru (fOp (gCmp fun i j => decide (i < j)) (fVar 5) (fLit (.int 2)))) (fVar 1) (fCall F__law_quad (fCelA 0 fNilA)))) ⟨[some (.cel 0), some (.dat one), none, none, none, some (.dat (.int 3)), some (.dat (.int M)), some (.dat (.int (1 + u))), none, none], [t4]⟩ = some (.nx ⟨[some (.cel 0), some (.dat one), some (.dat two), none, none, some (.dat (.int 3)), some (.dat (.int M)), some (.dat (.int (1 + u))), none, none], [t5]⟩) := by
    simp! [gL32, y5]
  have c3 : (fSet 3 (fCall F__law_folded (fConsA (fVar 1) (fConsA (fVar 2) fNilA)))) ⟨[some (.cel 0), some (.dat one), some (.dat two), none, none, some (.dat (.int 3)), some (.dat (.int M)), some (.dat (.int (1 + u))), none, none], [t5]⟩ = some (.nx ⟨[some (.cel 0), some (.dat one), some (.dat two), some (.dat (L5 f0 f1 f2 f3 f4)), none, some (.dat (.int 3)), some (.dat (.int M)), some (.dat (.int (1 + u))), none, none], [t5]⟩) := by
    simp! [yf]
  have c4 : (fIfS (fTru (fOp gEq (fVar 5) (fLit (.int 1)))) (fSet 3 (fOfL (fLc (fIt (fVar 3)) (aName 8) fYes (fOp gSub (fLit (.int 0)) (fVar 8)) [8]))) fSkip) ⟨[some (.cel 0), some (.dat one), some (.dat two), some (.dat (L5 f0 f1 f2 f3 f4)), none, some (.dat (.int 3)), some (.dat (.int M)), some (.dat (.int (1 + u))), none, none], [t5]⟩ = some (.nx ⟨[some (.cel 0), some (.dat one), some (.dat two), some (.dat (L5 f0 f1 f2 f3 f4)), none, some (.dat (.int 3)), some (.dat (.int M)), some (.dat (.int (1 + u))), none, none], [t5]⟩) := by
    simp! [gE31]
  have c5 : (fIfS (fTru (fOp gEq (fVar 5) (fLit (.int 5)))) (fSet 3 (fOfL (fLc (fRng1 (fConsA (fLit (.int 5)) fNilA)) (aName 9) fYes (fCall F__law_about (fCelA 0 (fConsA (fLit (.int 9)) fNilA))) [9]))) fSkip) ⟨[some (.cel 0), some (.dat one), some (.dat two), some (.dat (L5 f0 f1 f2 f3 f4)), none, some (.dat (.int 3)), some (.dat (.int M)), some (.dat (.int (1 + u))), none, none], [t5]⟩ = some (.nx ⟨[some (.cel 0), some (.dat one), some (.dat two), some (.dat (L5 f0 f1 f2 f3 f4)), none, some (.dat (.int 3)), some (.dat (.int M)), some (.dat (.int (1 + u))), none, none], [t5]⟩) := by
    simp! [gE35]
  have c6 : (fSet 4 (fOfL (fLst (fConsA (fVar 6) (fConsA (fLit (.int 0)) (fConsA (fOp gMul (fLit (.int 2)) (fVar 6)) (fConsA (fLit (.int 0)) (fConsA (fVar 6) fNilA)))))))) ⟨[some (.cel 0), some (.dat one), some (.dat two), some (.dat (L5 f0 f1 f2 f3 f4)), none, some (.dat (.int 3)), some (.dat (.int M)), some (.dat (.int (1 + u))), none, none], [t5]⟩ = some (.nx ⟨[some (.cel 0), some (.dat one), some (.dat two), some (.dat (L5 f0 f1 f2 f3 f4)), some (.dat (L5 M 0 (2 * M) 0 M)), some (.dat (.int 3)), some (.dat (.int M)), some (.dat (.int (1 + u))), none, none], [t5]⟩) := by
    simp! [m2]
  have c7 : (fRet (fTup (fConsA (fCall F__law_low_K36 (fConsA (fOp gPlus (fOfL (fLc (fRng1 (fConsA (fLit (.int 5)) fNilA)) (aName 9) fYes (fOp gPlus (fOp gIx (fVar 3) (fVar 9)) (fOp gIx (fVar 4) (fVar 9))) [9])) (fOfL (fLst (fConsA (fVar 7) fNilA)))) fNilA)) (fConsA (fCall F__law_ratio_K36 (fConsA (fVar 6) (fConsA (fVar 7) fNilA))) fNilA)))) ⟨[some (.cel 0), some (.dat one), some (.dat two), some (.dat (L5 f0 f1 f2 f3 f4)), some (.dat (L5 M 0 (2 * M) 0 M)), some (.dat (.int 3)), some (.dat (.int M)), some (.dat (.int (1 + u))), none, none], [t5]⟩ = some (.rt (.dat (.tuple [X, fr])) [t5]) := by
    simp! [fRng1, rng_5, tn_5, rng5D, gIx, ix5_0, ix5_1, ix5_2, ix5_3, ix5_4, yl, yr]
  exact fn_ok (np := 1) (nN := 10) (n0 := 1) ((seq_nx c0).trans ((seq_nx c1).trans ((seq_nx c2).trans ((seq_nx c3).trans ((seq_nx c4).trans ((seq_nx c5).trans ((seq_nx c6).trans (c7)))))))) ⟨rfl, rfl⟩ rfl
theorem core_course4 {M u : Int} {one two X fr : PyData} {f0 f1 f2 f3 f4 : Int} {t t1 t2 t3 t4 t5 : List PyData}
    (y1 : F__law_draw [.cel 0, .dat (.int 6)] [t] = some (.dat (.int 4), [t1])) (y2 : F__law_about [.cel 0, .dat (.int 6)] [t1] = some (.dat (.int M), [t2])) (y3 : F__law_draw [.cel 0, .dat (.int 5)] [t2] = some (.dat (.int u), [t3])) (y4 : F__law_quad [.cel 0] [t3] = some (.dat one, [t4]))
    (y5 : F__law_quad [.cel 0] [t4] = some (.dat two, [t5])) (yf : F__law_folded [.dat one, .dat two] [] = some (.dat (L5 f0 f1 f2 f3 f4), [])) (m2 : gMul (.int 2) (.int M) = some (.int (2 * M)))
    (yl : F__law_low_K36 [.dat (.list [.int (f0 + M), .int (f1 + 0), .int (f2 + 2 * M), .int (f3 + 0), .int (f4 + M), .int (1 + u)])] [] = some (.dat X, [])) (yr : F__law_ratio_K36 [.dat (.int M), .dat (.int (1 + u))] [] = some (.dat fr, [])) : F__law_course [.cel 0] [t] = some (.dat (.tuple [X, fr]), [t5]) := by
  have c0 : (fPar3 5 6 7 (fConsA (fCall F__law_draw (fCelA 0 (fConsA (fLit (.int 6)) fNilA))) (fConsA (fCall F__law_about (fCelA 0 (fConsA (fLit (.int 6)) fNilA))) (fConsA (fOp gPlus (fLit (.int 1)) (fCall F__law_draw (fCelA 0 (fConsA (fLit (.int 5)) fNilA)))) fNilA)))) ⟨[some (.cel 0), none, none, none, none, none, none, none, none, none], [t]⟩ = some (.nx ⟨[some (.cel 0), none, none, none, none, some (.dat (.int 4)), some (.dat (.int M)), some (.dat (.int (1 + u))), none, none], [t3]⟩) := by
    simp! [y1, y2, y3]
  have c1 : (fSet 1 (fCall F__law_quad (fCelA 0 fNilA))) ⟨[some (.cel 0), none, none, none, none, some (.dat (.int 4)), some (.dat (.int M)), some (.dat (.int (1 + u))), none, none], [t3]⟩ = some (.nx ⟨[some (.cel 0), some (.dat one), none, none, none, some (.dat (.int 4)), some (.dat (.int M)), some (.dat (.int (1 + u))), none, none], [t4]⟩) := by
    simp! [y4]
  have c2 : (fSet 2 (fIf (fTru (fOp (gCmp fun i j => decide (i < j)) (fVar 5) (fLit (.int 2)))) (fVar 1) (fCall F__law_quad (fCelA 0 fNilA)))) ⟨[some (.cel 0), some (.dat one), none, none, none, some (.dat (.int 4)), some (.dat (.int M)), some (.dat (.int (1 + u))), none, none], [t4]⟩ = some (.nx ⟨[some (.cel 0), some (.dat one), some (.dat two), none, none, some (.dat (.int 4)), some (.dat (.int M)), some (.dat (.int (1 + u))), none, none], [t5]⟩) := by
    simp! [gL42, y5]
  have c3 : (fSet 3 (fCall F__law_folded (fConsA (fVar 1) (fConsA (fVar 2) fNilA)))) ⟨[some (.cel 0), some (.dat one), some (.dat two), none, none, some (.dat (.int 4)), some (.dat (.int M)), some (.dat (.int (1 + u))), none, none], [t5]⟩ = some (.nx ⟨[some (.cel 0), some (.dat one), some (.dat two), some (.dat (L5 f0 f1 f2 f3 f4)), none, some (.dat (.int 4)), some (.dat (.int M)), some (.dat (.int (1 + u))), none, none], [t5]⟩) := by
    simp! [yf]
  have c4 : (fIfS (fTru (fOp gEq (fVar 5) (fLit (.int 1)))) (fSet 3 (fOfL (fLc (fIt (fVar 3)) (aName 8) fYes (fOp gSub (fLit (.int 0)) (fVar 8)) [8]))) fSkip) ⟨[some (.cel 0), some (.dat one), some (.dat two), some (.dat (L5 f0 f1 f2 f3 f4)), none, some (.dat (.int 4)), some (.dat (.int M)), some (.dat (.int (1 + u))), none, none], [t5]⟩ = some (.nx ⟨[some (.cel 0), some (.dat one), some (.dat two), some (.dat (L5 f0 f1 f2 f3 f4)), none, some (.dat (.int 4)), some (.dat (.int M)), some (.dat (.int (1 + u))), none, none], [t5]⟩) := by
    simp! [gE41]
  have c5 : (fIfS (fTru (fOp gEq (fVar 5) (fLit (.int 5)))) (fSet 3 (fOfL (fLc (fRng1 (fConsA (fLit (.int 5)) fNilA)) (aName 9) fYes (fCall F__law_about (fCelA 0 (fConsA (fLit (.int 9)) fNilA))) [9]))) fSkip) ⟨[some (.cel 0), some (.dat one), some (.dat two), some (.dat (L5 f0 f1 f2 f3 f4)), none, some (.dat (.int 4)), some (.dat (.int M)), some (.dat (.int (1 + u))), none, none], [t5]⟩ = some (.nx ⟨[some (.cel 0), some (.dat one), some (.dat two), some (.dat (L5 f0 f1 f2 f3 f4)), none, some (.dat (.int 4)), some (.dat (.int M)), some (.dat (.int (1 + u))), none, none], [t5]⟩) := by
    simp! [gE45]
  have c6 : (fSet 4 (fOfL (fLst (fConsA (fVar 6) (fConsA (fLit (.int 0)) (fConsA (fOp gMul (fLit (.int 2)) (fVar 6)) (fConsA (fLit (.int 0)) (fConsA (fVar 6) fNilA)))))))) ⟨[some (.cel 0), some (.dat one), some (.dat two), some (.dat (L5 f0 f1 f2 f3 f4)), none, some (.dat (.int 4)), some (.dat (.int M)), some (.dat (.int (1 + u))), none, none], [t5]⟩ = some (.nx ⟨[some (.cel 0), some (.dat one), some (.dat two), some (.dat (L5 f0 f1 f2 f3 f4)), some (.dat (L5 M 0 (2 * M) 0 M)), some (.dat (.int 4)), some (.dat (.int M)), some (.dat (.int (1 + u))), none, none], [t5]⟩) := by
    simp! [m2]
  have c7 : (fRet (fTup (fConsA (fCall F__law_low_K36 (fConsA (fOp gPlus (fOfL (fLc (fRng1 (fConsA (fLit (.int 5)) fNilA)) (aName 9) fYes (fOp gPlus (fOp gIx (fVar 3) (fVar 9)) (fOp gIx (fVar 4) (fVar 9))) [9])) (fOfL (fLst (fConsA (fVar 7) fNilA)))) fNilA)) (fConsA (fCall F__law_ratio_K36 (fConsA (fVar 6) (fConsA (fVar 7) fNilA))) fNilA)))) ⟨[some (.cel 0), some (.dat one), some (.dat two), some (.dat (L5 f0 f1 f2 f3 f4)), some (.dat (L5 M 0 (2 * M) 0 M)), some (.dat (.int 4)), some (.dat (.int M)), some (.dat (.int (1 + u))), none, none], [t5]⟩ = some (.rt (.dat (.tuple [X, fr])) [t5]) := by
    simp! [fRng1, rng_5, tn_5, rng5D, gIx, ix5_0, ix5_1, ix5_2, ix5_3, ix5_4, yl, yr]
  exact fn_ok (np := 1) (nN := 10) (n0 := 1) ((seq_nx c0).trans ((seq_nx c1).trans ((seq_nx c2).trans ((seq_nx c3).trans ((seq_nx c4).trans ((seq_nx c5).trans ((seq_nx c6).trans (c7)))))))) ⟨rfl, rfl⟩ rfl
theorem core_course5 {M u : Int} {one two X fr : PyData} {f0 f1 f2 f3 f4 g0 g1 g2 g3 g4 : Int} {t t1 t2 t3 t4 t5 t6 t7 t8 t9 ta : List PyData}
    (y1 : F__law_draw [.cel 0, .dat (.int 6)] [t] = some (.dat (.int 5), [t1])) (y2 : F__law_about [.cel 0, .dat (.int 6)] [t1] = some (.dat (.int M), [t2])) (y3 : F__law_draw [.cel 0, .dat (.int 5)] [t2] = some (.dat (.int u), [t3])) (y4 : F__law_quad [.cel 0] [t3] = some (.dat one, [t4]))
    (y5 : F__law_quad [.cel 0] [t4] = some (.dat two, [t5])) (b0 : F__law_about [.cel 0, .dat (.int 9)] [t5] = some (.dat (.int g0), [t6])) (b1 : F__law_about [.cel 0, .dat (.int 9)] [t6] = some (.dat (.int g1), [t7])) (b2 : F__law_about [.cel 0, .dat (.int 9)] [t7] = some (.dat (.int g2), [t8])) (b3 : F__law_about [.cel 0, .dat (.int 9)] [t8] = some (.dat (.int g3), [t9])) (b4 : F__law_about [.cel 0, .dat (.int 9)] [t9] = some (.dat (.int g4), [ta])) (yf : F__law_folded [.dat one, .dat two] [] = some (.dat (L5 f0 f1 f2 f3 f4), [])) (m2 : gMul (.int 2) (.int M) = some (.int (2 * M)))
    (yl : F__law_low_K36 [.dat (.list [.int (g0 + M), .int (g1 + 0), .int (g2 + 2 * M), .int (g3 + 0), .int (g4 + M), .int (1 + u)])] [] = some (.dat X, [])) (yr : F__law_ratio_K36 [.dat (.int M), .dat (.int (1 + u))] [] = some (.dat fr, [])) : F__law_course [.cel 0] [t] = some (.dat (.tuple [X, fr]), [ta]) := by
  have c0 : (fPar3 5 6 7 (fConsA (fCall F__law_draw (fCelA 0 (fConsA (fLit (.int 6)) fNilA))) (fConsA (fCall F__law_about (fCelA 0 (fConsA (fLit (.int 6)) fNilA))) (fConsA (fOp gPlus (fLit (.int 1)) (fCall F__law_draw (fCelA 0 (fConsA (fLit (.int 5)) fNilA)))) fNilA)))) ⟨[some (.cel 0), none, none, none, none, none, none, none, none, none], [t]⟩ = some (.nx ⟨[some (.cel 0), none, none, none, none, some (.dat (.int 5)), some (.dat (.int M)), some (.dat (.int (1 + u))), none, none], [t3]⟩) := by
    simp! [y1, y2, y3]
  have c1 : (fSet 1 (fCall F__law_quad (fCelA 0 fNilA))) ⟨[some (.cel 0), none, none, none, none, some (.dat (.int 5)), some (.dat (.int M)), some (.dat (.int (1 + u))), none, none], [t3]⟩ = some (.nx ⟨[some (.cel 0), some (.dat one), none, none, none, some (.dat (.int 5)), some (.dat (.int M)), some (.dat (.int (1 + u))), none, none], [t4]⟩) := by
    simp! [y4]
  have c2 : (fSet 2 (fIf (fTru (fOp (gCmp fun i j => decide (i < j)) (fVar 5) (fLit (.int 2)))) (fVar 1) (fCall F__law_quad (fCelA 0 fNilA)))) ⟨[some (.cel 0), some (.dat one), none, none, none, some (.dat (.int 5)), some (.dat (.int M)), some (.dat (.int (1 + u))), none, none], [t4]⟩ = some (.nx ⟨[some (.cel 0), some (.dat one), some (.dat two), none, none, some (.dat (.int 5)), some (.dat (.int M)), some (.dat (.int (1 + u))), none, none], [t5]⟩) := by
    simp! [gL52, y5]
  have c3 : (fSet 3 (fCall F__law_folded (fConsA (fVar 1) (fConsA (fVar 2) fNilA)))) ⟨[some (.cel 0), some (.dat one), some (.dat two), none, none, some (.dat (.int 5)), some (.dat (.int M)), some (.dat (.int (1 + u))), none, none], [t5]⟩ = some (.nx ⟨[some (.cel 0), some (.dat one), some (.dat two), some (.dat (L5 f0 f1 f2 f3 f4)), none, some (.dat (.int 5)), some (.dat (.int M)), some (.dat (.int (1 + u))), none, none], [t5]⟩) := by
    simp! [yf]
  have c4 : (fIfS (fTru (fOp gEq (fVar 5) (fLit (.int 1)))) (fSet 3 (fOfL (fLc (fIt (fVar 3)) (aName 8) fYes (fOp gSub (fLit (.int 0)) (fVar 8)) [8]))) fSkip) ⟨[some (.cel 0), some (.dat one), some (.dat two), some (.dat (L5 f0 f1 f2 f3 f4)), none, some (.dat (.int 5)), some (.dat (.int M)), some (.dat (.int (1 + u))), none, none], [t5]⟩ = some (.nx ⟨[some (.cel 0), some (.dat one), some (.dat two), some (.dat (L5 f0 f1 f2 f3 f4)), none, some (.dat (.int 5)), some (.dat (.int M)), some (.dat (.int (1 + u))), none, none], [t5]⟩) := by
    simp! [gE51]
  have c5 : (fIfS (fTru (fOp gEq (fVar 5) (fLit (.int 5)))) (fSet 3 (fOfL (fLc (fRng1 (fConsA (fLit (.int 5)) fNilA)) (aName 9) fYes (fCall F__law_about (fCelA 0 (fConsA (fLit (.int 9)) fNilA))) [9]))) fSkip) ⟨[some (.cel 0), some (.dat one), some (.dat two), some (.dat (L5 f0 f1 f2 f3 f4)), none, some (.dat (.int 5)), some (.dat (.int M)), some (.dat (.int (1 + u))), none, none], [t5]⟩ = some (.nx ⟨[some (.cel 0), some (.dat one), some (.dat two), some (.dat (L5 g0 g1 g2 g3 g4)), none, some (.dat (.int 5)), some (.dat (.int M)), some (.dat (.int (1 + u))), none, none], [ta]⟩) := by
    simp! [gE55, fRng1, rng_5, tn_5, rng5D, b0, b1, b2, b3, b4]
  have c6 : (fSet 4 (fOfL (fLst (fConsA (fVar 6) (fConsA (fLit (.int 0)) (fConsA (fOp gMul (fLit (.int 2)) (fVar 6)) (fConsA (fLit (.int 0)) (fConsA (fVar 6) fNilA)))))))) ⟨[some (.cel 0), some (.dat one), some (.dat two), some (.dat (L5 g0 g1 g2 g3 g4)), none, some (.dat (.int 5)), some (.dat (.int M)), some (.dat (.int (1 + u))), none, none], [ta]⟩ = some (.nx ⟨[some (.cel 0), some (.dat one), some (.dat two), some (.dat (L5 g0 g1 g2 g3 g4)), some (.dat (L5 M 0 (2 * M) 0 M)), some (.dat (.int 5)), some (.dat (.int M)), some (.dat (.int (1 + u))), none, none], [ta]⟩) := by
    simp! [m2]
  have c7 : (fRet (fTup (fConsA (fCall F__law_low_K36 (fConsA (fOp gPlus (fOfL (fLc (fRng1 (fConsA (fLit (.int 5)) fNilA)) (aName 9) fYes (fOp gPlus (fOp gIx (fVar 3) (fVar 9)) (fOp gIx (fVar 4) (fVar 9))) [9])) (fOfL (fLst (fConsA (fVar 7) fNilA)))) fNilA)) (fConsA (fCall F__law_ratio_K36 (fConsA (fVar 6) (fConsA (fVar 7) fNilA))) fNilA)))) ⟨[some (.cel 0), some (.dat one), some (.dat two), some (.dat (L5 g0 g1 g2 g3 g4)), some (.dat (L5 M 0 (2 * M) 0 M)), some (.dat (.int 5)), some (.dat (.int M)), some (.dat (.int (1 + u))), none, none], [ta]⟩ = some (.rt (.dat (.tuple [X, fr])) [ta]) := by
    simp! [fRng1, rng_5, tn_5, rng5D, gIx, ix5_0, ix5_1, ix5_2, ix5_3, ix5_4, yl, yr]
  exact fn_ok (np := 1) (nN := 10) (n0 := 1) ((seq_nx c0).trans ((seq_nx c1).trans ((seq_nx c2).trans ((seq_nx c3).trans ((seq_nx c4).trans ((seq_nx c5).trans ((seq_nx c6).trans (c7)))))))) ⟨rfl, rfl⟩ rfl
theorem w_course (h : Src (k + 18) t) : ∃ (x0 x1 x2 x3 x4 n : Int) (fr : PyData) (t' : List PyData), F__law_course [.cel 0] [t] = some (.dat (.tuple [T6 x0 x1 x2 x3 x4 n, fr]), [t']) ∧ Src k t' ∧ Co 24 x0 x1 x2 x3 x4 n := by
  obtain ⟨w, t1, e1, h1, w0, w1⟩ := w_draw (k := k + 17) (m := 6) h (by decide) (by decide)
  obtain ⟨M, t2, e2, h2, M0, M1⟩ := w_about (k := k + 16) (m := 6) h1 (by decide) (by decide)
  obtain ⟨u, t3, e3, h3, u0, u1⟩ := w_draw (k := k + 15) (m := 5) h2 (by decide) (by decide)
  obtain ⟨a, b, c, t4, e4, h4, sa, sb, sc⟩ := w_quad (k := k + 10) h3
  have sM : Sz 20 M := Sm.sz (by unfold Sm; omega)
  have s2M : Sz 20 (2 * M) := Sm.sz (by unfold Sm; omega)
  have su : Sz 20 (1 + u) := Sm.sz (by unfold Sm; omega)
  have z : Sz 20 (0 : Int) := sz_0.by _ (by decide)
  have m2 := gMul_ok (sz_2.sm (m := 4000)) (sM.sm (m := 4000))
  have yr := w_ratio (p := M) (q := 1 + u) (by omega) sM.sm su.sm
  have fin : ∀ {g0 g1 g2 g3 g4 : Int}, Sz 21 g0 → Sz 21 g1 → Sz 21 g2 → Sz 21 g3 → Sz 21 g4 → ∃ x0 x1 x2 x3 x4 n : Int, F__law_low_K36 [.dat (.list [.int (g0 + M), .int (g1 + 0), .int (g2 + 2 * M), .int (g3 + 0), .int (g4 + M), .int (1 + u)])] [] = some (.dat (T6 x0 x1 x2 x3 x4 n), []) ∧ Co 24 x0 x1 x2 x3 x4 n := fun {g0 g1 g2 g3 g4} a0 a1 a2 a3 a4 =>
    co_of (m := 24) (by omega) ((a0.add sM).by _ (by decide)) ((a1.add z).by _ (by decide)) ((a2.add s2M).by _ (by decide)) ((a3.add z).by _ (by decide)) ((a4.add sM).by _ (by decide)) (su.by _ (by decide)) (by decide)
  have up : ∀ {x : Int}, Sz 20 x → Sz 21 x := fun h => h.by _ (by decide)
  have ng : ∀ {x : Int}, Sz 20 x → Sz 21 (0 - x) := fun h => (sz_0.sub h).by _ (by decide)
  by_cases hw : w < 2
  · obtain ⟨f0, f1, f2, f3, f4, ef, b0, b1, b2, b3, b4⟩ := w_folded sa sb sc sa sb sc
    have hc : w = 0 ∨ w = 1 := by omega
    rcases hc with rfl | rfl
    · obtain ⟨x0, x1, x2, x3, x4, n, el, C⟩ := fin (up b0) (up b1) (up b2) (up b3) (up b4)
      exact ⟨x0, x1, x2, x3, x4, n, _, t4, core_course0 e1 e2 e3 e4 ef m2 el yr, h4.le (by omega), C⟩
    · obtain ⟨x0, x1, x2, x3, x4, n, el, C⟩ := fin (ng b0) (ng b1) (ng b2) (ng b3) (ng b4)
      exact ⟨x0, x1, x2, x3, x4, n, _, t4, core_course1 e1 e2 e3 e4 ef m2 el yr, h4.le (by omega), C⟩
  · obtain ⟨a', b', c', t5, e5, h5, sa', sb', sc'⟩ := w_quad (k := k + 5) h4
    obtain ⟨f0, f1, f2, f3, f4, ef, b0, b1, b2, b3, b4⟩ := w_folded sa sb sc sa' sb' sc'
    have hc : w = 2 ∨ w = 3 ∨ w = 4 ∨ w = 5 := by omega
    rcases hc with rfl | rfl | rfl | rfl
    · obtain ⟨x0, x1, x2, x3, x4, n, el, C⟩ := fin (up b0) (up b1) (up b2) (up b3) (up b4)
      exact ⟨x0, x1, x2, x3, x4, n, _, t5, core_course2 e1 e2 e3 e4 e5 ef m2 el yr, h5.le (by omega), C⟩
    · obtain ⟨x0, x1, x2, x3, x4, n, el, C⟩ := fin (up b0) (up b1) (up b2) (up b3) (up b4)
      exact ⟨x0, x1, x2, x3, x4, n, _, t5, core_course3 e1 e2 e3 e4 e5 ef m2 el yr, h5.le (by omega), C⟩
    · obtain ⟨x0, x1, x2, x3, x4, n, el, C⟩ := fin (up b0) (up b1) (up b2) (up b3) (up b4)
      exact ⟨x0, x1, x2, x3, x4, n, _, t5, core_course4 e1 e2 e3 e4 e5 ef m2 el yr, h5.le (by omega), C⟩
    · obtain ⟨g0, t6, k0, h6, i0, j0⟩ := w_about (k := k + 4) (m := 9) h5 (by decide) (by decide)
      obtain ⟨g1, t7, k1, h7, i1, j1⟩ := w_about (k := k + 3) (m := 9) h6 (by decide) (by decide)
      obtain ⟨g2, t8, k2, h8, i2, j2⟩ := w_about (k := k + 2) (m := 9) h7 (by decide) (by decide)
      obtain ⟨g3, t9, k3, h9, i3, j3⟩ := w_about (k := k + 1) (m := 9) h8 (by decide) (by decide)
      obtain ⟨g4, ta, k4, ha, i4, j4⟩ := w_about (k := k) (m := 9) h9 (by decide) (by decide)
      have q : ∀ {x : Int}, -9 ≤ x → x ≤ 9 → Sz 21 x := fun h1 h2 => Sm.sz (by unfold Sm; omega)
      obtain ⟨x0, x1, x2, x3, x4, n, el, C⟩ := fin (q i0 j0) (q i1 j1) (q i2 j2) (q i3 j3) (q i4 j4)
      exact ⟨x0, x1, x2, x3, x4, n, _, ta, core_course5 e1 e2 e3 e4 e5 k0 k1 k2 k3 k4 ef m2 el yr, ha, C⟩
end
end PL


set_option Elab.async false
set_option linter.all false
set_option maxRecDepth 100000
set_option maxHeartbeats 4000000
set_option exponentiation.threshold 20000
namespace PL
open PySem PySem.Spec L2 DL
local macro_rules | `(tactic| simp! [$as,*]) => `(tactic| simp only [fThaw, fThawT, fThawL, thawD, thawO, noL, noLAll, fAug, gAug, fRev, fFnA, fCallV, fBot, fZip, zipD, gSum, intsOf, List.foldl_cons, List.foldl_nil, mkF, fRet, fRetL, fRetN, fSkip, fSeq, fNever, fSet, fAsg, fNew, fIfS, fDrop, fPar, fPar3, fSetc, fSetc2, fVar, fLit, fOp, fUn, fTup, fTup.datsOf, fLst, fNilA, fConsA, fStarA, fCelA, fOfL, fTru, fAndT, fOrT, fNotT, fAndV, fOrV, fNotV, fIf, fBi, fCall, fCallL, fCallFr, fPerm, callF, celOf, celsOk, norm, aName, aNil, aCons, aTup, setD, fSl, fIt, fItL, fItT, fFor, forGo, fLc, lcGo, fYes, wipeD, fCix, fList, fSlL, fPart, fNoPart, fChain, List.length_cons, List.length_nil, List.getElem?_cons_zero, List.getElem?_cons_succ, List.getElem?_nil, List.set_cons_zero, List.set_cons_succ, List.map_cons, List.map_nil, List.cons_append, List.nil_append, List.append_nil, List.replicate, List.take_zero, List.take_nil, List.take_succ_cons, ↓bsome, ↓msome, Option.bind_some, Option.map_some, Option.bind_none, Option.map_none, Nat.sub_self, Int.cast_ofNat_Int, Nat.reduceAdd, Nat.reduceMul, Nat.reduceSub, Nat.reduceLeDiff, Nat.reduceLT, Nat.zero_add, Nat.add_zero, and_self, and_true, true_and, if_true, if_false, ↓reduceIte, ite_true, Bool.true_eq_false, Bool.false_eq_true, beq_self_eq_true, Bool.and_self, Bool.not_true, Bool.not_false, decide_true, decide_false, gLen, gTyIs, gTyNot, tyOf, gNeg, gPlus, DL.gSub, gCmp, gInt, gAbs, gTuple, gMax, gMin, gGcd, LIM, gIx, $as,*])
section
variable {m s k : Nat} {x0 x1 x2 x3 x4 n t0 t1 t2 t3 t4 d a b c f p q : Int} {t : List PyData}
abbrev TbB : FS := (fSeq (fSet 5 (fCall F__law_at_K36 (fConsA (fVar 1) (fConsA (fCall F__law_summed (fConsA (fVar 4) (fConsA (fVar 2) fNilA))) fNilA)))) (fIfS (fOrT (fTru (fOp gNe (fCall F__law_at_K36 (fConsA (fVar 0) (fConsA (fVar 4) fNilA))) (fVar 5))) (fTru (fOp gNe (fBi gRepr (fConsA (fCall F_level_at (fConsA (fVar 0) (fConsA (fVar 4) fNilA))) fNilA)) (fBi gRepr (fConsA (fVar 5) fNilA))))) (fRet (fLit (.bool false))) fSkip))
theorem tb_1 {T X S Y P Q R r : PyData} {z5 : Option SV} (h1 : F__law_summed [.dat P, .dat S] [] = some (.dat Q, [])) (h2 : F__law_at_K36 [.dat X, .dat Q] [] = some (.dat R, [])) (h3 : F__law_at_K36 [.dat T, .dat P] [] = some (.dat R, [])) (h4 : F_level_at [.dat T, .dat P] [] = some (.dat R, [])) (h5 : gNe R R = some (.bool false)) (h6 : gRepr [R] = some r) (h7 : gNe r r = some (.bool false)) :
    TbB ⟨[some (.dat T), some (.dat X), some (.dat S), some (.dat Y), some (.dat P), z5, none], []⟩ = some (.nx ⟨[some (.dat T), some (.dat X), some (.dat S), some (.dat Y), some (.dat P), some (.dat R), none], []⟩) := by
  simp! [h1, h2, h3, h4, h5, h6, h7]
/-- what is asked of one place -/
structure Pl (T X S P R : PyData) : Prop where
  ok : ∀ (Y : PyData) (z5 : Option SV), TbB ⟨[some (.dat T), some (.dat X), some (.dat S), some (.dat Y), some (.dat P), z5, none], []⟩ = some (.nx ⟨[some (.dat T), some (.dat X), some (.dat S), some (.dat Y), some (.dat P), some (.dat R), none], []⟩)
theorem w_place (C : Co m t0 t1 t2 t3 t4 d) (K : Co m x0 x1 x2 x3 x4 n) (S : Sg s a b) (P : Sg s p q) (hT : Tn t0 t1 t2 t3 t4 d x0 x1 x2 x3 x4 n a b) (hm : m + 8 * s ≤ 900) : ∃ R, Pl (T6 t0 t1 t2 t3 t4 d) (T6 x0 x1 x2 x3 x4 n) (T2 a b) (T2 p q) R := by
  have h1 := w_summed P S (by omega)
  have hn := sum_nz P S
  have s1 : Sz (2 * s + 1) (p * b + a * q) := ((P.sa.mul S.sb).add (S.sa.mul P.sb)).by _ (by omega)
  have s2 : Sz (2 * s + 1) (q * b - p * a) := ((P.sb.mul S.sb).sub (P.sa.mul S.sa)).by _ (by omega)
  obtain ⟨G, g, g0, e1, e2⟩ := sg_ok hn s1 s2 (by omega)
  have k := hT p q
  have kl := ls_mul (a := p) (b := q) (c := a) (f := b)
  generalize sgA (p * b + a * q) (q * b - p * a) = A at *
  generalize sgB (p * b + a * q) (q * b - p * a) = B at *
  rw [e1, e2, ls_hom] at kl
  rw [e1, e2, fo_hom] at k
  have h2 := w_at K G (by omega)
  have h3 := w_at C P (by omega)
  have h4 := w_level C P (by omega)
  have d0 : 0 < n * Ls A B * Ls A B := Int.mul_pos (Int.mul_pos K.n0 (ls_pos G)) (ls_pos G)
  have d1 : 0 < d * Ls p q * Ls p q := Int.mul_pos (Int.mul_pos C.n0 (ls_pos P)) (ls_pos P)
  have eq : Rt (Fo x0 x1 x2 x3 x4 A B) (n * Ls A B * Ls A B) = Rt (Fo t0 t1 t2 t3 t4 p q) (d * Ls p q * Ls p q) := rt_eq d0 d1 (by
    have g4 : g * g * g * g ≠ 0 := Int.mul_ne_zero (Int.mul_ne_zero (Int.mul_ne_zero g0 g0) g0) g0
    refine Int.eq_of_mul_eq_mul_left g4 ?_
    generalize Fo x0 x1 x2 x3 x4 A B = X at *
    generalize Fo t0 t1 t2 t3 t4 p q = T at *
    generalize Ls A B = L at *
    generalize Ls p q = M at *
    generalize Ls a b = N at *
    have q1 : g * g * g * g * (X * (d * M * M)) = (g * g * g * g * X * d) * (M * M) := by grind
    rw [q1, ← k]
    have q2 : T * (n * (N * N)) * (M * M) = T * n * ((M * N) * (M * N)) := by grind
    rw [q2, ← kl]
    grind)
  rw [eq] at h2
  have F := rt_fr (n := m + 4 * s + 8) d1 ((fo_sz C P.sa P.sb).by _ (by omega)) (((C.sn.mul (ls_sz P.sa P.sb)).mul (ls_sz P.sa P.sb)).by _ (by omega))
  have nn : Nice (m + 4 * s + 8) (Rt (Fo t0 t1 t2 t3 t4 p q) (d * Ls p q * Ls p q)) := nice2 F.sp F.sq
  obtain ⟨r, r1, r2, r3⟩ := rep_R nn (by omega)
  have h5 : gNe (Rt (Fo t0 t1 t2 t3 t4 p q) (d * Ls p q * Ls p q)) (Rt (Fo t0 t1 t2 t3 t4 p q) (d * Ls p q * Ls p q)) = some (.bool false) := by
    unfold Rt
    rw [gNe_T2]; simp
  exact ⟨_, ⟨fun Y z5 => tb_1 h1 h2 h3 h4 h5 r1 r2⟩⟩
theorem core_turned6 {X S Y R0 R1 R2 R3 R4 R5 : PyData} (h1 : F_is_course [.dat (T6 t0 t1 t2 t3 t4 d)] [] = some (.dat (.bool true), [])) (hd : decide (d < 1) = false) (hl : F__law_low_K36 [.dat (T6 t0 t1 t2 t3 t4 d)] [] = some (.dat (T6 t0 t1 t2 t3 t4 d), []))
    (p0 : Pl (T6 t0 t1 t2 t3 t4 d) X S (T2 0 1) R0) (p1 : Pl (T6 t0 t1 t2 t3 t4 d) X S (T2 1 1) R1) (p2 : Pl (T6 t0 t1 t2 t3 t4 d) X S (T2 (-1) 1) R2) (p3 : Pl (T6 t0 t1 t2 t3 t4 d) X S (T2 1 0) R3) (p4 : Pl (T6 t0 t1 t2 t3 t4 d) X S (T2 1 2) R4) (p5 : Pl (T6 t0 t1 t2 t3 t4 d) X S Y R5) :
    F__law_is_turned [.dat (T6 t0 t1 t2 t3 t4 d), .dat X, .dat S, .dat Y] [] = some (.dat (.bool true), []) := by
  have i1 : gIsi "tuple" (T6 t0 t1 t2 t3 t4 d) = some (.bool true) := rfl
  have i6 : (((6 : Nat) : Int) == 6) = true := rfl
  have gn0 : gNe (.list []) (.list []) = some (.bool false) := rfl
  have gn : gNe (T6 t0 t1 t2 t3 t4 d) (T6 t0 t1 t2 t3 t4 d) = some (.bool false) := by
    have := gNe_tup [t0, t1, t2, t3, t4, d] [t0, t1, t2, t3, t4, d]
    rw [beq_self_eq_true] at this
    exact this
  have c0 : (fIfS (fOrT (fNotT (fTru (fUn (gIsi "tuple") (fVar 0)))) (fOrT (fTru (fOp gNe (fBi gLen (fConsA (fVar 0) fNilA)) (fLit (.int 6)))) (fNotT (fTru (fCall F_is_course (fConsA (fVar 0) fNilA)))))) (fRet (fLit (.bool false))) fSkip) ⟨[some (.dat (T6 t0 t1 t2 t3 t4 d)), some (.dat X), some (.dat S), some (.dat Y), none, none, none], []⟩ = some (.nx ⟨[some (.dat (T6 t0 t1 t2 t3 t4 d)), some (.dat X), some (.dat S), some (.dat Y), none, none, none], []⟩) := by
    simp! [i1, h1, gNe_int, i6]
  have c1 : (fIfS (fTru (fOp gNe (fOfL (fLc (fIt (fVar 0)) (aName 6) (fOrT (fNotT (fTru (fUn (gIsi "int") (fVar 6)))) (fTru (fUn (gIsi "bool") (fVar 6)))) (fVar 6) [6])) (fOfL (fLst fNilA)))) (fRet (fLit (.bool false))) fSkip) ⟨[some (.dat (T6 t0 t1 t2 t3 t4 d)), some (.dat X), some (.dat S), some (.dat Y), none, none, none], []⟩ = some (.nx ⟨[some (.dat (T6 t0 t1 t2 t3 t4 d)), some (.dat X), some (.dat S), some (.dat Y), none, none, none], []⟩) := by
    simp! [isi_int, isi_bool, gn0]
  have c2 : (fIfS (fOrT (fTru (fOp (gCmp fun i j => decide (i < j)) (fOp gIx (fVar 0) (fLit (.int 5))) (fLit (.int 1)))) (fTru (fOp gNe (fCall F__law_low_K36 (fConsA (fVar 0) fNilA)) (fVar 0)))) (fRet (fLit (.bool false))) fSkip) ⟨[some (.dat (T6 t0 t1 t2 t3 t4 d)), some (.dat X), some (.dat S), some (.dat Y), none, none, none], []⟩ = some (.nx ⟨[some (.dat (T6 t0 t1 t2 t3 t4 d)), some (.dat X), some (.dat S), some (.dat Y), none, none, none], []⟩) := by
    simp! [gIx, ix6', hd, hl, gn]
  have c3 : (fFor (fIt (fTup (fConsA (fTup (fConsA (fLit (.int 0)) (fConsA (fLit (.int 1)) fNilA))) (fConsA (fTup (fConsA (fLit (.int 1)) (fConsA (fLit (.int 1)) fNilA))) (fConsA (fTup (fConsA (fUn gNeg (fLit (.int 1))) (fConsA (fLit (.int 1)) fNilA))) (fConsA (fTup (fConsA (fLit (.int 1)) (fConsA (fLit (.int 0)) fNilA))) (fConsA (fTup (fConsA (fLit (.int 1)) (fConsA (fLit (.int 2)) fNilA))) (fConsA (fVar 3) fNilA)))))))) (aName 4) (fSeq (fSet 5 (fCall F__law_at_K36 (fConsA (fVar 1) (fConsA (fCall F__law_summed (fConsA (fVar 4) (fConsA (fVar 2) fNilA))) fNilA)))) (fIfS (fOrT (fTru (fOp gNe (fCall F__law_at_K36 (fConsA (fVar 0) (fConsA (fVar 4) fNilA))) (fVar 5))) (fTru (fOp gNe (fBi gRepr (fConsA (fCall F_level_at (fConsA (fVar 0) (fConsA (fVar 4) fNilA))) fNilA)) (fBi gRepr (fConsA (fVar 5) fNilA))))) (fRet (fLit (.bool false))) fSkip))) ⟨[some (.dat (T6 t0 t1 t2 t3 t4 d)), some (.dat X), some (.dat S), some (.dat Y), none, none, none], []⟩ = some (.nx ⟨[some (.dat (T6 t0 t1 t2 t3 t4 d)), some (.dat X), some (.dat S), some (.dat Y), some (.dat Y), some (.dat R5), none], []⟩) := by
    have g0 := p0.ok Y none
    have g1 := p1.ok Y (some (.dat R0))
    have g2 := p2.ok Y (some (.dat R1))
    have g3 := p3.ok Y (some (.dat R2))
    have g4 := p4.ok Y (some (.dat R3))
    have g5 := p5.ok Y (some (.dat R4))
    clear p0 p1 p2 p3 p4 p5 h1 hl
    change (fFor _ (aName 4) TbB) _ = _
    generalize TbB = tb at *
    simp! [Int.reduceNeg, g0, g1, g2, g3, g4, g5]
  have c4 : (fRet (fLit (.bool true))) ⟨[some (.dat (T6 t0 t1 t2 t3 t4 d)), some (.dat X), some (.dat S), some (.dat Y), some (.dat Y), some (.dat R5), none], []⟩ = some (.rt (.dat (.bool true)) []) := by
    simp only [fThaw, fThawT, fThawL, thawD, thawO, noL, noLAll, fAug, gAug, fRev, fFnA, fCallV, fBot, fZip, zipD, gSum, intsOf, List.foldl_cons, List.foldl_nil, mkF, fRet, fRetL, fRetN, fSkip, fSeq, fNever, fSet, fAsg, fNew, fIfS, fDrop, fPar, fPar3, fSetc, fSetc2, fVar, fLit, fOp, fUn, fTup, fTup.datsOf, fLst, fNilA, fConsA, fStarA, fCelA, fOfL, fTru, fAndT, fOrT, fNotT, fAndV, fOrV, fNotV, fIf, fBi, fCall, fCallL, fCallFr, fPerm, callF, celOf, celsOk, norm, aName, aNil, aCons, aTup, setD, fSl, fIt, fItL, fItT, fFor, forGo, fLc, lcGo, fYes, wipeD, fCix, fList, fSlL, fPart, fNoPart, fChain, List.length_cons, List.length_nil, List.getElem?_cons_zero, List.getElem?_cons_succ, List.getElem?_nil, List.set_cons_zero, List.set_cons_succ, List.map_cons, List.map_nil, List.cons_append, List.nil_append, List.append_nil, List.replicate, List.take_zero, List.take_nil, List.take_succ_cons, ↓bsome, ↓msome, Option.bind_some, Option.map_some, Option.bind_none, Option.map_none, Nat.sub_self, Int.cast_ofNat_Int, Nat.reduceAdd, Nat.reduceMul, Nat.reduceSub, Nat.reduceLeDiff, Nat.reduceLT, Nat.zero_add, Nat.add_zero, and_self, and_true, true_and, if_true, if_false, ↓reduceIte, ite_true, Bool.true_eq_false, Bool.false_eq_true, beq_self_eq_true, Bool.and_self, Bool.not_true, Bool.not_false, decide_true, decide_false, gLen, gTyIs, gTyNot, tyOf, gNeg, gPlus, DL.gSub, gCmp, gInt, gAbs, gTuple, gMax, gMin, gGcd, LIM, gIx]
  exact fn_ok (np := 4) (nN := 7) (n0 := 0) (c := []) ((seq_nx c0).trans ((seq_nx c1).trans ((seq_nx c2).trans ((seq_nx c3).trans (c4))))) ⟨rfl, rfl⟩ rfl
theorem w_isturned (C : Co m t0 t1 t2 t3 t4 d) (K : Co m x0 x1 x2 x3 x4 n) (S : Sg s a b) (P : Sg s p q) (hT : Tn t0 t1 t2 t3 t4 d x0 x1 x2 x3 x4 n a b) (hs : 8 ≤ s) (hm : m + 8 * s ≤ 900) : F__law_is_turned [.dat (T6 t0 t1 t2 t3 t4 d), .dat (T6 x0 x1 x2 x3 x4 n), .dat (T2 a b), .dat (T2 p q)] [] = some (.dat (.bool true), []) := by
  have c : ∀ {x : Int}, x.natAbs < 2 ^ 4 → Sz s x := fun h => (Sm.sz h).by _ (by omega)
  have g : ∀ {a b : Int}, 0 ≤ b → (b = 0 → a = 1) → gL [a, b] = 1 → a.natAbs < 2 ^ 4 → b.natAbs < 2 ^ 4 → Sg s a b := fun h1 h2 h3 h4 h5 => ⟨h1, h2, h3, c h4, c h5⟩
  obtain ⟨R0, p0⟩ := w_place C K S (g (a := 0) (b := 1) (by decide) (by decide) (by decide) (by decide) (by decide)) hT hm
  obtain ⟨R1, p1⟩ := w_place C K S (g (a := 1) (b := 1) (by decide) (by decide) (by decide) (by decide) (by decide)) hT hm
  obtain ⟨R2, p2⟩ := w_place C K S (g (a := -1) (b := 1) (by decide) (by decide) (by decide) (by decide) (by decide)) hT hm
  obtain ⟨R3, p3⟩ := w_place C K S (g (a := 1) (b := 0) (by decide) (by decide) (by decide) (by decide) (by decide)) hT hm
  obtain ⟨R4, p4⟩ := w_place C K S (g (a := 1) (b := 2) (by decide) (by decide) (by decide) (by decide) (by decide)) hT hm
  obtain ⟨R5, p5⟩ := w_place C K S P hT hm
  have l := w_low (v := [t0, t1, t2, t3, t4, d]) (r := T6 t0 t1 t2 t3 t4 d) .t (fun x hx => by
    simp only [List.mem_cons, List.not_mem_nil, or_false] at hx
    rcases hx with rfl | rfl | rfl | rfl | rfl | rfl
    · exact C.s0.sm (by omega)
    · exact C.s1.sm (by omega)
    · exact C.s2.sm (by omega)
    · exact C.s3.sm (by omega)
    · exact C.s4.sm (by omega)
    · exact C.sn.sm (by omega)) (by simp)
  rw [red_of_one C.one] at l
  exact core_turned6 (w_isco C) (decide_eq_false (by have := C.n0; omega)) l p0 p1 p2 p3 p4 p5
end
end PL


set_option Elab.async false
set_option linter.all false
set_option maxRecDepth 100000
set_option maxHeartbeats 400000
namespace K36
open PySem PySem.Spec L2 DL
open PyProof.Rows hiding St
open PL
/-! the text by places -/
def topS (i : Nat) : Stmt := PySem.Challenge.pw_platelights_k36_whole_turned_courses.main.body.getD i (.Pass ⟨0, 0, 0, 0⟩)
abbrev s_is_whole : Stmt := topS 6
abbrev n_is_whole : List Str := ["value"]
abbrev n0_is_whole : Nat := 0
theorem sc_is_whole : FnScope n_is_whole ["value"] (defScope s_is_whole) := ⟨rfl, rfl, rfl, by decide +kernel, rfl, by decide +kernel, by decide +kernel⟩
abbrev s_is_row : Stmt := topS 7
abbrev n_is_row : List Str := ["value", "many", "part"]
abbrev n0_is_row : Nat := 0
theorem sc_is_row : FnScope n_is_row ["value", "many"] (defScope s_is_row) := ⟨rfl, rfl, rfl, by decide +kernel, rfl, by decide +kernel, by decide +kernel⟩
abbrev s_divisor_of : Stmt := topS 8
abbrev n_divisor_of : List Str := ["numbers", "divisor", "number"]
abbrev n0_divisor_of : Nat := 0
theorem sc_divisor_of : FnScope n_divisor_of ["numbers"] (defScope s_divisor_of) := ⟨rfl, rfl, rfl, by decide +kernel, rfl, by decide +kernel, by decide +kernel⟩
abbrev s_is_reduced_row : Stmt := topS 9
abbrev n_is_reduced_row : List Str := ["value", "many"]
abbrev n0_is_reduced_row : Nat := 0
theorem sc_is_reduced_row : FnScope n_is_reduced_row ["value", "many"] (defScope s_is_reduced_row) := ⟨rfl, rfl, rfl, by decide +kernel, rfl, by decide +kernel, by decide +kernel⟩
abbrev s_reduced : Stmt := topS 10
abbrev n_reduced : List Str := ["numbers", "divisor", "number"]
abbrev n0_reduced : Nat := 0
theorem sc_reduced : FnScope n_reduced ["numbers"] (defScope s_reduced) := ⟨rfl, rfl, rfl, by decide +kernel, rfl, by decide +kernel, by decide +kernel⟩
abbrev s_dot : Stmt := topS 11
abbrev n_dot : List Str := ["row", "other", "one", "two"]
abbrev n0_dot : Nat := 0
theorem sc_dot : FnScope n_dot ["row", "other"] (defScope s_dot) := ⟨rfl, rfl, rfl, by decide +kernel, rfl, by decide +kernel, by decide +kernel⟩
abbrev s_combined : Stmt := topS 12
abbrev n_combined : List Str := ["one", "row", "two", "other", "left", "right"]
abbrev n0_combined : Nat := 0
theorem sc_combined : FnScope n_combined ["one", "row", "two", "other"] (defScope s_combined) := ⟨rfl, rfl, rfl, by decide +kernel, rfl, by decide +kernel, by decide +kernel⟩
abbrev s_ratio : Stmt := topS 14
abbrev n_ratio : List Str := ["p", "q", "divisor"]
abbrev n0_ratio : Nat := 0
theorem sc_ratio : FnScope n_ratio ["p", "q"] (defScope s_ratio) := ⟨rfl, rfl, rfl, by decide +kernel, rfl, by decide +kernel, by decide +kernel⟩
abbrev s_trimmed : Stmt := topS 16
abbrev n_trimmed : List Str := ["polynomial", "size"]
abbrev n0_trimmed : Nat := 0
theorem sc_trimmed : FnScope n_trimmed ["polynomial"] (defScope s_trimmed) := ⟨rfl, rfl, rfl, by decide +kernel, rfl, by decide +kernel, by decide +kernel⟩
abbrev s_polynomial_product : Stmt := topS 17
abbrev n_polynomial_product : List Str := ["one", "two", "whole", "at", "first", "place", "second"]
abbrev n0_polynomial_product : Nat := 0
theorem sc_polynomial_product : FnScope n_polynomial_product ["one", "two"] (defScope s_polynomial_product) := ⟨rfl, rfl, rfl, by decide +kernel, rfl, by decide +kernel, by decide +kernel⟩
abbrev s_value_at : Stmt := topS 18
abbrev n_value_at : List Str := ["polynomial", "point", "number", "total", "power"]
abbrev n0_value_at : Nat := 0
theorem sc_value_at : FnScope n_value_at ["polynomial", "point"] (defScope s_value_at) := ⟨rfl, rfl, rfl, by decide +kernel, rfl, by decide +kernel, by decide +kernel⟩
abbrev s_is_setting : Stmt := topS 20
abbrev n_is_setting : List Str := ["value"]
abbrev n0_is_setting : Nat := 0
theorem sc_is_setting : FnScope n_is_setting ["value"] (defScope s_is_setting) := ⟨rfl, rfl, rfl, by decide +kernel, rfl, by decide +kernel, by decide +kernel⟩
abbrev s_check_setting : Stmt := topS 21
abbrev n_check_setting : List Str := ["value"]
abbrev n0_check_setting : Nat := 0
theorem sc_check_setting : FnScope n_check_setting ["value"] (defScope s_check_setting) := ⟨rfl, rfl, rfl, by decide +kernel, rfl, by decide +kernel, by decide +kernel⟩
abbrev s_is_course : Stmt := topS 24
abbrev n_is_course : List Str := ["value"]
abbrev n0_is_course : Nat := 0
theorem sc_is_course : FnScope n_is_course ["value"] (defScope s_is_course) := ⟨rfl, rfl, rfl, by decide +kernel, rfl, by decide +kernel, by decide +kernel⟩
abbrev s_check_course : Stmt := topS 25
abbrev n_check_course : List Str := ["value"]
abbrev n0_check_course : Nat := 0
theorem sc_check_course : FnScope n_check_course ["value"] (defScope s_check_course) := ⟨rfl, rfl, rfl, by decide +kernel, rfl, by decide +kernel, by decide +kernel⟩
abbrev s__length_of : Stmt := topS 26
abbrev n__length_of : List Str := ["setting"]
abbrev n0__length_of : Nat := 0
theorem sc__length_of : FnScope n__length_of ["setting"] (defScope s__length_of) := ⟨rfl, rfl, rfl, by decide +kernel, rfl, by decide +kernel, by decide +kernel⟩
abbrev s_level_at : Stmt := topS 27
abbrev n_level_at : List Str := ["course", "setting", "length"]
abbrev n0_level_at : Nat := 0
theorem sc_level_at : FnScope n_level_at ["course", "setting"] (defScope s_level_at) := ⟨rfl, rfl, rfl, by decide +kernel, rfl, by decide +kernel, by decide +kernel⟩
abbrev s__power : Stmt := topS 28
abbrev n__power : List Str := ["polynomial", "many", "whole", "_"]
abbrev n0__power : Nat := 0
theorem sc__power : FnScope n__power ["polynomial", "many"] (defScope s__power) := ⟨rfl, rfl, rfl, by decide +kernel, rfl, by decide +kernel, by decide +kernel⟩
abbrev s__weighed_course : Stmt := topS 29
abbrev n__weighed_course : List Str := ["rows", "weights", "below", "weight", "total", "row", "whole"]
abbrev n0__weighed_course : Nat := 0
theorem sc__weighed_course : FnScope n__weighed_course ["rows", "weights"] (defScope s__weighed_course) := ⟨rfl, rfl, rfl, by decide +kernel, rfl, by decide +kernel, by decide +kernel⟩
abbrev s_turned_course : Stmt := topS 30
abbrev n_turned_course : List Str := ["course", "setting", "length", "below", "rows", "a", "b", "at", "number"]
abbrev n0_turned_course : Nat := 0
theorem sc_turned_course : FnScope n_turned_course ["course", "setting"] (defScope s_turned_course) := ⟨rfl, rfl, rfl, by decide +kernel, rfl, by decide +kernel, by decide +kernel⟩
abbrev s_course_parts : Stmt := topS 31
abbrev n_course_parts : List Str := ["course", "row"]
abbrev n0_course_parts : Nat := 0
theorem sc_course_parts : FnScope n_course_parts ["course"] (defScope s_course_parts) := ⟨rfl, rfl, rfl, by decide +kernel, rfl, by decide +kernel, by decide +kernel⟩
abbrev s_setting_sum : Stmt := topS 32
abbrev n_setting_sum : List Str := ["setting", "other", "a", "b"]
abbrev n0_setting_sum : Nat := 0
theorem sc_setting_sum : FnScope n_setting_sum ["setting", "other"] (defScope s_setting_sum) := ⟨rfl, rfl, rfl, by decide +kernel, rfl, by decide +kernel, by decide +kernel⟩
abbrev s_setting_back : Stmt := topS 33
abbrev n_setting_back : List Str := ["setting"]
abbrev n0_setting_back : Nat := 0
theorem sc_setting_back : FnScope n_setting_back ["setting"] (defScope s_setting_back) := ⟨rfl, rfl, rfl, by decide +kernel, rfl, by decide +kernel, by decide +kernel⟩
abbrev s__law_source : Stmt := topS 35
abbrev n__law_source : List Str := ["_law_script", "_law_at_here", "_law_own", "_law_mixed", "_law_cell", "_law_state"]
abbrev n0__law_source : Nat := 0
theorem sc__law_source : FnScope n__law_source ["_law_script", "_law_at_here"] (defScope s__law_source) := ⟨rfl, rfl, rfl, by decide +kernel, rfl, by decide +kernel, by decide +kernel⟩
abbrev s__law_draw : Stmt := topS 36
abbrev n__law_draw : List Str := ["_law_source_here", "_law_top", "_law_step", "_law_figure"]
abbrev n0__law_draw : Nat := 1
theorem sc__law_draw : FnScope n__law_draw ["_law_source_here", "_law_top"] (defScope s__law_draw) := ⟨rfl, rfl, rfl, by decide +kernel, rfl, by decide +kernel, by decide +kernel⟩
abbrev s__law_pick : Stmt := topS 37
abbrev n__law_pick : List Str := ["_law_source_here", "_law_some"]
abbrev n0__law_pick : Nat := 1
theorem sc__law_pick : FnScope n__law_pick ["_law_source_here", "_law_some"] (defScope s__law_pick) := ⟨rfl, rfl, rfl, by decide +kernel, rfl, by decide +kernel, by decide +kernel⟩
abbrev s__law_about : Stmt := topS 38
abbrev n__law_about : List Str := ["_law_source_here", "_law_most"]
abbrev n0__law_about : Nat := 1
theorem sc__law_about : FnScope n__law_about ["_law_source_here", "_law_most"] (defScope s__law_about) := ⟨rfl, rfl, rfl, by decide +kernel, rfl, by decide +kernel, by decide +kernel⟩
abbrev s__law_common : Stmt := topS 39
abbrev n__law_common : List Str := ["_law_row", "_law_found", "_law_part", "_law_one", "_law_two"]
abbrev n0__law_common : Nat := 0
theorem sc__law_common : FnScope n__law_common ["_law_row"] (defScope s__law_common) := ⟨rfl, rfl, rfl, by decide +kernel, rfl, by decide +kernel, by decide +kernel⟩
abbrev s__law_low : Stmt := topS 40
abbrev n__law_low : List Str := ["_law_row", "_law_found", "_law_part"]
abbrev n0__law_low : Nat := 0
theorem sc__law_low : FnScope n__law_low ["_law_row"] (defScope s__law_low) := ⟨rfl, rfl, rfl, by decide +kernel, rfl, by decide +kernel, by decide +kernel⟩
abbrev s__law_ratio : Stmt := topS 41
abbrev n__law_ratio : List Str := ["_law_top", "_law_under", "_law_found"]
abbrev n0__law_ratio : Nat := 0
theorem sc__law_ratio : FnScope n__law_ratio ["_law_top", "_law_under"] (defScope s__law_ratio) := ⟨rfl, rfl, rfl, by decide +kernel, rfl, by decide +kernel, by decide +kernel⟩
abbrev s__law_slot : Stmt := topS 42
abbrev n__law_slot : List Str := ["_law_source_here", "_law_way", "_law_most"]
abbrev n0__law_slot : Nat := 1
theorem sc__law_slot : FnScope n__law_slot ["_law_source_here"] (defScope s__law_slot) := ⟨rfl, rfl, rfl, by decide +kernel, rfl, by decide +kernel, by decide +kernel⟩
abbrev s__law_signed : Stmt := topS 43
abbrev n__law_signed : List Str := ["_law_pair", "_law_a", "_law_b"]
abbrev n0__law_signed : Nat := 0
theorem sc__law_signed : FnScope n__law_signed ["_law_pair"] (defScope s__law_signed) := ⟨rfl, rfl, rfl, by decide +kernel, rfl, by decide +kernel, by decide +kernel⟩
abbrev s__law_summed : Stmt := topS 44
abbrev n__law_summed : List Str := ["_law_one", "_law_two"]
abbrev n0__law_summed : Nat := 0
theorem sc__law_summed : FnScope n__law_summed ["_law_one", "_law_two"] (defScope s__law_summed) := ⟨rfl, rfl, rfl, by decide +kernel, rfl, by decide +kernel, by decide +kernel⟩
abbrev s__law_form : Stmt := topS 45
abbrev n__law_form : List Str := ["_law_row", "_law_slot_here", "_law_early", "_law_a", "_law_b"]
abbrev n0__law_form : Nat := 0
theorem sc__law_form : FnScope n__law_form ["_law_row", "_law_slot_here"] (defScope s__law_form) := ⟨rfl, rfl, rfl, by decide +kernel, rfl, by decide +kernel, by decide +kernel⟩
abbrev s__law_at : Stmt := topS 46
abbrev n__law_at : List Str := ["_law_row", "_law_slot_here", "_law_length"]
abbrev n0__law_at : Nat := 0
theorem sc__law_at : FnScope n__law_at ["_law_row", "_law_slot_here"] (defScope s__law_at) := ⟨rfl, rfl, rfl, by decide +kernel, rfl, by decide +kernel, by decide +kernel⟩
abbrev s__law_quad : Stmt := topS 47
abbrev n__law_quad : List Str := ["_law_source_here", "_law_way", "_law_most", "_law_p", "_law_q", "_law_r"]
abbrev n0__law_quad : Nat := 1
theorem sc__law_quad : FnScope n__law_quad ["_law_source_here"] (defScope s__law_quad) := ⟨rfl, rfl, rfl, by decide +kernel, rfl, by decide +kernel, by decide +kernel⟩
abbrev s__law_folded : Stmt := topS 48
abbrev n__law_folded : List Str := ["_law_one", "_law_two"]
abbrev n0__law_folded : Nat := 0
theorem sc__law_folded : FnScope n__law_folded ["_law_one", "_law_two"] (defScope s__law_folded) := ⟨rfl, rfl, rfl, by decide +kernel, rfl, by decide +kernel, by decide +kernel⟩
abbrev s__law_course : Stmt := topS 49
abbrev n__law_course : List Str := ["_law_source_here", "_law_one", "_law_two", "_law_five", "_law_level_five", "_law_way", "_law_mark", "_law_under", "_law_part", "_law_k"]
abbrev n0__law_course : Nat := 1
theorem sc__law_course : FnScope n__law_course ["_law_source_here"] (defScope s__law_course) := ⟨rfl, rfl, rfl, by decide +kernel, rfl, by decide +kernel, by decide +kernel⟩
abbrev s__law_is_turned : Stmt := topS 50
abbrev n__law_is_turned : List Str := ["_law_told", "_law_row", "_law_slot_here", "_law_more", "_law_place", "_law_due", "_law_part"]
abbrev n0__law_is_turned : Nat := 0
theorem sc__law_is_turned : FnScope n__law_is_turned ["_law_told", "_law_row", "_law_slot_here", "_law_more"] (defScope s__law_is_turned) := ⟨rfl, rfl, rfl, by decide +kernel, rfl, by decide +kernel, by decide +kernel⟩
abbrev s__law_right : Stmt := topS 51
abbrev n__law_right : List Str := ["_law_source_here", "_law_row", "_law_both", "_law_told", "_law_slot_here", "_law_far", "_law_one", "_law_more", "_law_sum_here"]
abbrev n0__law_right : Nat := 1
theorem sc__law_right : FnScope n__law_right ["_law_source_here"] (defScope s__law_right) := ⟨rfl, rfl, rfl, by decide +kernel, rfl, by decide +kernel, by decide +kernel⟩
abbrev s_law : Stmt := topS 52
abbrev n_law : List Str := ["_law_script", "_law_k"]
abbrev n0_law : Nat := 0
theorem sc_law : FnScope n_law ["_law_script"] (defScope s_law) := ⟨rfl, rfl, rfl, by decide +kernel, rfl, by decide +kernel, by decide +kernel⟩
/-! what is asked of the top -/
structure Tx (K : PySem.W.Frag) (mg : Str → Option Value) : Prop where
  i_gcd : mg "gcd" = some (.builtin "math.gcd")
  i_lcm : mg "lcm" = some (.builtin "math.lcm")
  b_abs : mg "abs" = none
  b_all : mg "all" = none
  b_bool : mg "bool" = none
  b_divmod : mg "divmod" = none
  b_enumerate : mg "enumerate" = none
  b_int : mg "int" = none
  b_isinstance : mg "isinstance" = none
  b_len : mg "len" = none
  b_max : mg "max" = none
  b_min : mg "min" = none
  b_range : mg "range" = none
  b_repr : mg "repr" = none
  b_reversed : mg "reversed" = none
  b_sum : mg "sum" = none
  b_tuple : mg "tuple" = none
  b_type : mg "type" = none
  b_zip : mg "zip" = none
  k__ROWS_OF_PARTS : ∃ (v : V) (u : Value), mg "_ROWS_OF_PARTS" = some u ∧ RelV v u ∧ ∀ H, Dp K H v c__ROWS_OF_PARTS
variable {P : Program} {w : World} {K : PySem.W.Frag} {mg : Str → Option Value} {base : Heap}
theorem ok_is_whole {f : Addr} {fd : FuncData} (U : Fun K "is_whole" "is_whole" s_is_whole f fd) (T : Tx K mg)  : FnG P w K mg base 1 f fd ["value"] F_is_whole := by
  refine fng_of (n0 := 0) (k := 0) U sc_is_whole (fun cdv A outer s H E hg hr => ?_)
  exact (rss_one (rs_ret (re_tyIs (he := sn_name) (hnT := (by decide)) (hdT := (by decide)) rfl T.b_type rfl T.b_int (by decide +kernel) (v 0))))
theorem ok_is_row {f : Addr} {fd : FuncData} (U : Fun K "is_row" "is_row" s_is_row f fd) (T : Tx K mg) (C_is_whole : At P w K mg base 1 "is_whole" ["value"] F_is_whole) : FnG P w K mg base 2 f fd ["value", "many"] F_is_row := by
  refine fng_of (n0 := 0) (k := 1) U sc_is_row (fun cdv A outer s H E hg hr => ?_)
  exact (rss_one (rs_ret (re_and (re_tyIs (he := sn_name) (hnT := (by decide)) (hdT := (by decide)) rfl T.b_type rfl T.b_tuple (by decide +kernel) (v 0)) (re_and (re_eq (hu64 hr) (re_len (he := sn_name) rfl T.b_len (ra_cons (hs := sn_name) (v 0) ra_nil)) (v 1)) (re_one (re_all (he := sn_lc) rfl rfl T.b_all (ra_cons (hs := sn_lc) (re_ofL (rl_lc (own := [("part", 2)]) (hs := fun _ => rfl) rfl sc_is_row.nd (ri_seq (v 0)) (blkOk_by (N := n_is_row) (sc := defScope s_is_row) (by decide +kernel)) (fun _ _ _ _ _ => (rg_name (i := 2) sc_is_row.nd rfl (by first | exact Or.inl rfl | exact Or.inr rfl))) (fun _ _ _ _ _ => rts_nil) (fun _ _ _ _ _ => (re_call (hdb := (by decide)) (he := sn_name) (hpl := rfl) C_is_whole hg (hr.mono (by decide)) rfl (ra_cons (hs := sn_name) (v 2) ra_nil))) (by decide))) ra_nil)))))))
theorem ok_divisor_of {f : Addr} {fd : FuncData} (U : Fun K "divisor_of" "divisor_of" s_divisor_of f fd) (T : Tx K mg)  : FnG P w K mg base 1 f fd ["numbers"] F_divisor_of := by
  refine fng_of (n0 := 0) (k := 0) U sc_divisor_of (fun cdv A outer s H E hg hr => ?_)
  exact (rss_cons (rs_set (i := 1) (hs := rfl) (hf := (by first | exact Or.inl rfl | exact Or.inr rfl)) sc_divisor_of.nd rfl (by first | exact Or.inl rfl | exact Or.inr rfl) re_int)
  (rss_cons (rs_for (hs := fun _ => rfl) PassesOwn.never rfl (ri_seq (v 0)) (rg_name (i := 2) sc_divisor_of.nd rfl (by first | exact Or.inl rfl | exact Or.inr rfl)) (fun _ => (rss_one (rs_set (i := 1) (hs := rfl) (hf := (by first | exact Or.inl rfl | exact Or.inr rfl)) sc_divisor_of.nd rfl (by first | exact Or.inl rfl | exact Or.inr rfl) (re_gcd (hdb := (by decide)) (he := sn_name) (hpl := rfl) rfl T.i_gcd (ra_cons (hs := sn_name) (v 1) (ra_cons (hs := sn_name) (v 2) ra_nil)))))))
  (rss_one (rs_ret (v 1)))))
theorem ok_is_reduced_row {f : Addr} {fd : FuncData} (U : Fun K "is_reduced_row" "is_reduced_row" s_is_reduced_row f fd) (T : Tx K mg) (C_divisor_of : At P w K mg base 1 "divisor_of" ["numbers"] F_divisor_of) (C_is_row : At P w K mg base 2 "is_row" ["value", "many"] F_is_row) : FnG P w K mg base 3 f fd ["value", "many"] F_is_reduced_row := by
  refine fng_of (n0 := 0) (k := 2) U sc_is_reduced_row (fun cdv A outer s H E hg hr => ?_)
  exact (rss_one (rs_ret (re_and (re_call (hdb := (by decide)) (he := sn_name) (hpl := rfl) C_is_row hg (hr.mono (by decide)) rfl (ra_cons (hs := sn_name) (v 0) (ra_cons (hs := sn_name) (v 1) ra_nil))) (re_one (re_eq (hu64 hr) (re_call (hdb := (by decide)) (he := sn_name) (hpl := rfl) C_divisor_of hg (hr.mono (by decide)) rfl (ra_cons (hs := sn_name) (v 0) ra_nil)) re_int)))))
theorem ok_reduced {f : Addr} {fd : FuncData} (U : Fun K "reduced" "reduced" s_reduced f fd) (T : Tx K mg) (C_divisor_of : At P w K mg base 1 "divisor_of" ["numbers"] F_divisor_of) : FnG P w K mg base 2 f fd ["numbers"] F_reduced := by
  refine fng_of (n0 := 0) (k := 1) U sc_reduced (fun cdv A outer s H E hg hr => ?_)
  exact (rss_cons (rs_set (i := 1) (hs := rfl) (hf := (by first | exact Or.inl rfl | exact Or.inr rfl)) sc_reduced.nd rfl (by first | exact Or.inl rfl | exact Or.inr rfl) (re_max (he := sn_call) (hpl := rfl) rfl rfl T.b_max (ra_cons (hs := sn_call) (re_call (hdb := (by decide)) (he := sn_name) (hpl := rfl) C_divisor_of hg (hr.mono (by decide)) rfl (ra_cons (hs := sn_name) (v 0) ra_nil)) (ra_cons (hs := sn_const) re_int ra_nil))))
  (rss_one (rs_ret (re_tuple (he := sn_lc) rfl T.b_tuple (ra_cons (hs := sn_lc) (re_ofL (rl_lc (own := [("number", 2)]) (hs := fun _ => rfl) rfl sc_reduced.nd (ri_seq (v 0)) (blkOk_by (N := n_reduced) (sc := defScope s_reduced) (by decide +kernel)) (fun _ _ _ _ _ => (rg_name (i := 2) sc_reduced.nd rfl (by first | exact Or.inl rfl | exact Or.inr rfl))) (fun _ _ _ _ _ => rts_nil) (fun _ _ _ _ _ => (re_div (v 2) (v 1))) (by decide))) ra_nil)))))
theorem ok_dot {f : Addr} {fd : FuncData} (U : Fun K "dot" "dot" s_dot f fd) (T : Tx K mg)  : FnG P w K mg base 1 f fd ["row", "other"] F_dot := by
  refine fng_of (n0 := 0) (k := 0) U sc_dot (fun cdv A outer s H E hg hr => ?_)
  exact (rss_one (rs_ret (re_sum (he := sn_lc) rfl rfl T.b_sum (ra_cons (hs := sn_lc) (re_ofL (rl_lc (own := [("one", 2), ("two", 3)]) (hs := fun _ => rfl) rfl sc_dot.nd (ri_zip (hs := by first | rfl | with_reducible exact sn_name) (hpl := rfl) rfl T.b_zip (ra_cons (hs := sn_name) (v 0) (ra_cons (hs := sn_name) (v 1) ra_nil))) (blkOk_by (N := n_dot) (sc := defScope s_dot) (by decide +kernel)) (fun _ _ _ _ _ => (rg_tupK K rfl (hn := rfl) (hst := rfl) rfl (rgs_cons (hs := rfl) (rg_name (i := 2) sc_dot.nd rfl (by first | exact Or.inl rfl | exact Or.inr rfl)) (rgs_cons (hs := rfl) (rg_name (i := 3) sc_dot.nd rfl (by first | exact Or.inl rfl | exact Or.inr rfl)) rgs_nil)))) (fun _ _ _ _ _ => rts_nil) (fun _ _ _ _ _ => (re_mul (v 2) (v 3))) (by decide))) ra_nil))))
theorem ok_combined {f : Addr} {fd : FuncData} (U : Fun K "combined" "combined" s_combined f fd) (T : Tx K mg)  : FnG P w K mg base 1 f fd ["one", "row", "two", "other"] F_combined := by
  refine fng_of (n0 := 0) (k := 0) U sc_combined (fun cdv A outer s H E hg hr => ?_)
  exact (rss_one (rs_ret (re_tuple (he := sn_lc) rfl T.b_tuple (ra_cons (hs := sn_lc) (re_ofL (rl_lc (own := [("left", 4), ("right", 5)]) (hs := fun _ => rfl) rfl sc_combined.nd (ri_zip (hs := by first | rfl | with_reducible exact sn_name) (hpl := rfl) rfl T.b_zip (ra_cons (hs := sn_name) (v 1) (ra_cons (hs := sn_name) (v 3) ra_nil))) (blkOk_by (N := n_combined) (sc := defScope s_combined) (by decide +kernel)) (fun _ _ _ _ _ => (rg_tupK K rfl (hn := rfl) (hst := rfl) rfl (rgs_cons (hs := rfl) (rg_name (i := 4) sc_combined.nd rfl (by first | exact Or.inl rfl | exact Or.inr rfl)) (rgs_cons (hs := rfl) (rg_name (i := 5) sc_combined.nd rfl (by first | exact Or.inl rfl | exact Or.inr rfl)) rgs_nil)))) (fun _ _ _ _ _ => rts_nil) (fun _ _ _ _ _ => (re_plus (re_mul (v 0) (v 4)) (re_mul (v 2) (v 5)))) (by decide))) ra_nil))))
theorem ok_ratio {f : Addr} {fd : FuncData} (U : Fun K "ratio" "ratio" s_ratio f fd) (T : Tx K mg)  : FnG P w K mg base 1 f fd ["p", "q"] F_ratio := by
  refine fng_of (n0 := 0) (k := 0) U sc_ratio (fun cdv A outer s H E hg hr => ?_)
  exact (rss_cons (rs_set (i := 2) (hs := rfl) (hf := (by first | exact Or.inl rfl | exact Or.inr rfl)) sc_ratio.nd rfl (by first | exact Or.inl rfl | exact Or.inr rfl) (re_if (rt_gt (v 1) re_int) (re_gcd (hdb := (by decide)) (he := sn_name) (hpl := rfl) rfl T.i_gcd (ra_cons (hs := sn_name) (v 0) (ra_cons (hs := sn_name) (v 1) ra_nil))) (re_neg (re_gcd (hdb := (by decide)) (he := sn_name) (hpl := rfl) rfl T.i_gcd (ra_cons (hs := sn_name) (v 0) (ra_cons (hs := sn_name) (v 1) ra_nil))))))
  (rss_one (rs_ret (re_tup (ra_cons (hs := sn_bin) (re_div (v 0) (v 2)) (ra_cons (hs := sn_bin) (re_div (v 1) (v 2)) ra_nil))))))
theorem ok_trimmed {f : Addr} {fd : FuncData} (U : Fun K "trimmed" "trimmed" s_trimmed f fd) (T : Tx K mg)  : FnG P w K mg base 1 f fd ["polynomial"] F_trimmed := by
  refine fng_of (n0 := 0) (k := 0) U sc_trimmed (fun cdv A outer s H E hg hr => ?_)
  exact (rss_cons (rs_set (i := 1) (hs := rfl) (hf := (by first | exact Or.inl rfl | exact Or.inr rfl)) sc_trimmed.nd rfl (by first | exact Or.inl rfl | exact Or.inr rfl) (re_len (he := sn_name) rfl T.b_len (ra_cons (hs := sn_name) (v 0) ra_nil)))
  (rss_cons (rs_while PassesOwn.never (rt_w (rw_and (rt_gt (v 1) re_int) (rw_and1 (rt_eq (hu64 hr) (re_ix (hs := fun _ _ => rfl) (v 0) (re_sub (v 1) re_int)) re_int)))) (fun _ => (rss_one (rs_aug (i := 1) (hf := (by first | exact Or.inl rfl | exact Or.inr rfl)) sc_trimmed.nd rfl (by first | exact Or.inl rfl | exact Or.inr rfl) ipd_sub re_int))))
  (rss_one (rs_ret (re_tuple (he := sn_sub) rfl T.b_tuple (ra_cons (hs := sn_sub) (re_sl (v 0) ro_none (ro_some (v 1))) ra_nil))))))
theorem ok_polynomial_product {f : Addr} {fd : FuncData} (U : Fun K "polynomial_product" "polynomial_product" s_polynomial_product f fd) (T : Tx K mg) (C_trimmed : At P w K mg base 1 "trimmed" ["polynomial"] F_trimmed) : FnG P w K mg base 2 f fd ["one", "two"] F_polynomial_product := by
  refine fng_of (n0 := 0) (k := 1) U sc_polynomial_product (fun cdv A outer s H E hg hr => ?_)
  exact (rss_cons (rs_new (i := 2) (hs := rfl) (hf := (by first | exact Or.inl rfl | exact Or.inr rfl)) sc_polynomial_product.nd rfl (by first | exact Or.inl rfl | exact Or.inr rfl) (rl_rep (rl_lst (ra_cons (hs := sn_const) re_int ra_nil)) (re_plus (re_len (he := sn_name) rfl T.b_len (ra_cons (hs := sn_name) (v 0) ra_nil)) (re_len (he := sn_name) rfl T.b_len (ra_cons (hs := sn_name) (v 1) ra_nil)))))
  (rss_cons (rs_for (hs := fun _ => rfl) PassesOwn.never rfl (ri_enum (hs := rfl) rfl T.b_enumerate (ra_cons (hs := sn_name) (v 0) ra_nil)) (rg_tupK K rfl (hn := rfl) (hst := rfl) rfl (rgs_cons (hs := rfl) (rg_name (i := 3) sc_polynomial_product.nd rfl (by first | exact Or.inl rfl | exact Or.inr rfl)) (rgs_cons (hs := rfl) (rg_name (i := 4) sc_polynomial_product.nd rfl (by first | exact Or.inl rfl | exact Or.inr rfl)) rgs_nil))) (fun _ => (rss_one (rs_for (hs := fun _ => rfl) PassesOwn.never rfl (ri_enum (hs := rfl) rfl T.b_enumerate (ra_cons (hs := sn_name) (v 1) ra_nil)) (rg_tupK K rfl (hn := rfl) (hst := rfl) rfl (rgs_cons (hs := rfl) (rg_name (i := 5) sc_polynomial_product.nd rfl (by first | exact Or.inl rfl | exact Or.inr rfl)) (rgs_cons (hs := rfl) (rg_name (i := 6) sc_polynomial_product.nd rfl (by first | exact Or.inl rfl | exact Or.inr rfl)) rgs_nil))) (fun _ => (rss_one (rs_augc (i := 2) (ha := fun _ _ _ => rfl) (hd := (by decide)) (hcd := (by decide)) rfl (by first | exact Or.inl rfl | exact Or.inr (Or.inl rfl) | exact Or.inr (Or.inr rfl)) (re_plus (v 3) (v 5)) ipd_add (re_mul (v 4) (v 6)))))))))
  (rss_frz (rss_one (rs_ret (re_call (hdb := (by decide)) (he := sn_name) (hpl := rfl) C_trimmed hg (hr.mono (by decide)) rfl (ra_cons (hs := sn_name) (v 2) ra_nil)))))))
theorem ok_value_at {f : Addr} {fd : FuncData} (U : Fun K "value_at" "value_at" s_value_at f fd) (T : Tx K mg)  : FnG P w K mg base 1 f fd ["polynomial", "point"] F_value_at := by
  refine fng_of (n0 := 0) (k := 0) U sc_value_at (fun cdv A outer s H E hg hr => ?_)
  exact (rss_cons (rs_asg (hs := rfl) (hw := rfl) (h1 := rfl) (re_tup (ra_cons (hs := sn_const) re_int (ra_cons (hs := sn_const) re_int ra_nil))) (rg_tupK K rfl (hn := rfl) (hst := rfl) rfl (rgs_cons (hs := rfl) (rg_name (i := 3) sc_value_at.nd rfl (by first | exact Or.inl rfl | exact Or.inr rfl)) (rgs_cons (hs := rfl) (rg_name (i := 4) sc_value_at.nd rfl (by first | exact Or.inl rfl | exact Or.inr rfl)) rgs_nil))))
  (rss_cons (rs_for (hs := fun _ => rfl) PassesOwn.never rfl (ri_rev (hs := sn_name) rfl T.b_reversed (v 0)) (rg_name (i := 2) sc_value_at.nd rfl (by first | exact Or.inl rfl | exact Or.inr rfl)) (fun _ => (rss_cons (rs_set (i := 3) (hs := rfl) (hf := (by first | exact Or.inl rfl | exact Or.inr rfl)) sc_value_at.nd rfl (by first | exact Or.inl rfl | exact Or.inr rfl) (re_plus (re_mul (v 3) (re_ix (hs := fun _ _ => rfl) (v 1) re_int)) (re_mul (v 2) (v 4))))
  (rss_one (rs_aug (i := 4) (hf := (by first | exact Or.inl rfl | exact Or.inr rfl)) sc_value_at.nd rfl (by first | exact Or.inl rfl | exact Or.inr rfl) ipd_mul (re_ix (hs := fun _ _ => rfl) (v 1) re_int))))))
  (rss_one (rs_ret (v 3)))))
theorem ok_is_setting {f : Addr} {fd : FuncData} (U : Fun K "is_setting" "is_setting" s_is_setting f fd) (T : Tx K mg) (C_is_reduced_row : At P w K mg base 3 "is_reduced_row" ["value", "many"] F_is_reduced_row) : FnG P w K mg base 4 f fd ["value"] F_is_setting := by
  refine fng_of (n0 := 0) (k := 3) U sc_is_setting (fun cdv A outer s H E hg hr => ?_)
  exact (rss_one (rs_ret (re_and (re_call (hdb := (by decide)) (he := sn_name) (hpl := rfl) C_is_reduced_row hg (hr.mono (by decide)) rfl (ra_cons (hs := sn_name) (v 0) (ra_cons (hs := sn_const) re_int ra_nil))) (re_one (re_or (re_gt (re_ix (hs := fun _ _ => rfl) (v 0) re_int) re_int) (re_one (re_eq (hu64 hr) (v 0) (re_tup (ra_cons (hs := sn_const) re_int (ra_cons (hs := sn_const) re_int ra_nil))))))))))
theorem ok_check_setting {f : Addr} {fd : FuncData} (U : Fun K "check_setting" "check_setting" s_check_setting f fd) (T : Tx K mg) (C_is_setting : At P w K mg base 4 "is_setting" ["value"] F_is_setting) : FnG P w K mg base 5 f fd ["value"] F_check_setting := by
  refine fng_of (n0 := 0) (k := 4) U sc_check_setting (fun cdv A outer s H E hg hr => ?_)
  exact (rss_one (rs_if (rt_not (rt_val (he := fun _ => rfl) (re_call (hdb := (by decide)) (he := sn_name) (hpl := rfl) C_is_setting hg (hr.mono (by decide)) rfl (ra_cons (hs := sn_name) (v 0) ra_nil)))) (rss_one rs_never) rss_nil))
theorem ok_is_course {f : Addr} {fd : FuncData} (U : Fun K "is_course" "is_course" s_is_course f fd) (T : Tx K mg) (C_is_reduced_row : At P w K mg base 3 "is_reduced_row" ["value", "many"] F_is_reduced_row) : FnG P w K mg base 4 f fd ["value"] F_is_course := by
  refine fng_of (n0 := 0) (k := 3) U sc_is_course (fun cdv A outer s H E hg hr => ?_)
  exact (rss_one (rs_ret (re_and (re_call (hdb := (by decide)) (he := sn_name) (hpl := rfl) C_is_reduced_row hg (hr.mono (by decide)) rfl (ra_cons (hs := sn_name) (v 0) (ra_cons (hs := sn_const) re_int ra_nil))) (re_one (re_gt (re_ix (hs := fun _ _ => rfl) (v 0) re_int) re_int)))))
theorem ok_check_course {f : Addr} {fd : FuncData} (U : Fun K "check_course" "check_course" s_check_course f fd) (T : Tx K mg) (C_is_course : At P w K mg base 4 "is_course" ["value"] F_is_course) : FnG P w K mg base 5 f fd ["value"] F_check_course := by
  refine fng_of (n0 := 0) (k := 4) U sc_check_course (fun cdv A outer s H E hg hr => ?_)
  exact (rss_one (rs_if (rt_not (rt_val (he := fun _ => rfl) (re_call (hdb := (by decide)) (he := sn_name) (hpl := rfl) C_is_course hg (hr.mono (by decide)) rfl (ra_cons (hs := sn_name) (v 0) ra_nil)))) (rss_one rs_never) rss_nil))
theorem ok__length_of {f : Addr} {fd : FuncData} (U : Fun K "_length_of" "_length_of" s__length_of f fd) (T : Tx K mg)  : FnG P w K mg base 1 f fd ["setting"] F__length_of := by
  refine fng_of (n0 := 0) (k := 0) U sc__length_of (fun cdv A outer s H E hg hr => ?_)
  exact (rss_one (rs_ret (re_plus (re_mul (re_ix (hs := fun _ _ => rfl) (v 0) re_int) (re_ix (hs := fun _ _ => rfl) (v 0) re_int)) (re_mul (re_ix (hs := fun _ _ => rfl) (v 0) re_int) (re_ix (hs := fun _ _ => rfl) (v 0) re_int)))))
theorem ok_level_at {f : Addr} {fd : FuncData} (U : Fun K "level_at" "level_at" s_level_at f fd) (T : Tx K mg) (C__length_of : At P w K mg base 1 "_length_of" ["setting"] F__length_of) (C_check_course : At P w K mg base 5 "check_course" ["value"] F_check_course) (C_check_setting : At P w K mg base 5 "check_setting" ["value"] F_check_setting) (C_ratio : At P w K mg base 1 "ratio" ["p", "q"] F_ratio) (C_value_at : At P w K mg base 1 "value_at" ["polynomial", "point"] F_value_at) : FnG P w K mg base 6 f fd ["course", "setting"] F_level_at := by
  refine fng_of (n0 := 0) (k := 5) U sc_level_at (fun cdv A outer s H E hg hr => ?_)
  exact (rss_cons (rs_drop (hs := rfl) (re_call (hdb := (by decide)) (he := sn_name) (hpl := rfl) C_check_course hg (hr.mono (by decide)) rfl (ra_cons (hs := sn_name) (v 0) ra_nil)))
  (rss_cons (rs_drop (hs := rfl) (re_call (hdb := (by decide)) (he := sn_name) (hpl := rfl) C_check_setting hg (hr.mono (by decide)) rfl (ra_cons (hs := sn_name) (v 1) ra_nil)))
  (rss_cons (rs_set (i := 2) (hs := rfl) (hf := (by first | exact Or.inl rfl | exact Or.inr rfl)) sc_level_at.nd rfl (by first | exact Or.inl rfl | exact Or.inr rfl) (re_call (hdb := (by decide)) (he := sn_name) (hpl := rfl) C__length_of hg (hr.mono (by decide)) rfl (ra_cons (hs := sn_name) (v 1) ra_nil)))
  (rss_one (rs_ret (re_call (hdb := (by decide)) (he := sn_call) (hpl := rfl) C_ratio hg (hr.mono (by decide)) rfl (ra_cons (hs := sn_call) (re_call (hdb := (by decide)) (he := sn_sub) (hpl := rfl) C_value_at hg (hr.mono (by decide)) rfl (ra_cons (hs := sn_sub) (re_sl (v 0) ro_none (ro_some re_int)) (ra_cons (hs := sn_name) (v 1) ra_nil))) (ra_cons (hs := sn_bin) (re_mul (re_mul (re_ix (hs := fun _ _ => rfl) (v 0) re_int) (v 2)) (v 2)) ra_nil))))))))
theorem ok__power {f : Addr} {fd : FuncData} (U : Fun K "_power" "_power" s__power f fd) (T : Tx K mg) (C_polynomial_product : At P w K mg base 2 "polynomial_product" ["one", "two"] F_polynomial_product) : FnG P w K mg base 3 f fd ["polynomial", "many"] F__power := by
  refine fng_of (n0 := 0) (k := 2) U sc__power (fun cdv A outer s H E hg hr => ?_)
  exact (rss_cons (rs_set (i := 2) (hs := rfl) (hf := (by first | exact Or.inl rfl | exact Or.inr rfl)) sc__power.nd rfl (by first | exact Or.inl rfl | exact Or.inr rfl) (re_tup (ra_cons (hs := sn_const) re_int ra_nil)))
  (rss_cons (rs_for (hs := fun _ => rfl) PassesOwn.never rfl (ri_range1 (hs := rfl) rfl T.b_range (ra_cons (hs := sn_name) (v 1) ra_nil)) (rg_name (i := 3) sc__power.nd rfl (by first | exact Or.inl rfl | exact Or.inr rfl)) (fun _ => (rss_one (rs_set (i := 2) (hs := rfl) (hf := (by first | exact Or.inl rfl | exact Or.inr rfl)) sc__power.nd rfl (by first | exact Or.inl rfl | exact Or.inr rfl) (re_call (hdb := (by decide)) (he := sn_name) (hpl := rfl) C_polynomial_product hg (hr.mono (by decide)) rfl (ra_cons (hs := sn_name) (v 2) (ra_cons (hs := sn_name) (v 0) ra_nil)))))))
  (rss_one (rs_ret (v 2)))))
theorem ok__weighed_course {f : Addr} {fd : FuncData} (U : Fun K "_weighed_course" "_weighed_course" s__weighed_course f fd) (T : Tx K mg) (C_combined : At P w K mg base 1 "combined" ["one", "row", "two", "other"] F_combined) (C_reduced : At P w K mg base 2 "reduced" ["numbers"] F_reduced) : FnG P w K mg base 3 f fd ["rows", "weights"] F__weighed_course := by
  refine fng_of (n0 := 0) (k := 2) U sc__weighed_course (fun cdv A outer s H E hg hr => ?_)
  exact (rss_cons (rs_set (i := 2) (hs := rfl) (hf := (by first | exact Or.inl rfl | exact Or.inr rfl)) sc__weighed_course.nd rfl (by first | exact Or.inl rfl | exact Or.inr rfl) re_int)
  (rss_cons (rs_for (hs := fun _ => rfl) PassesOwn.never rfl (ri_seq (v 1)) (rg_name (i := 3) sc__weighed_course.nd rfl (by first | exact Or.inl rfl | exact Or.inr rfl)) (fun _ => (rss_one (rs_set (i := 2) (hs := rfl) (hf := (by first | exact Or.inl rfl | exact Or.inr rfl)) sc__weighed_course.nd rfl (by first | exact Or.inl rfl | exact Or.inr rfl) (re_lcm (hdb := (by decide)) (he := sn_name) (hpl := rfl) rfl T.i_lcm (ra_cons (hs := sn_name) (v 2) (ra_cons (hs := sn_sub) (re_ix (hs := fun _ _ => rfl) (v 3) re_int) ra_nil)))))))
  (rss_cons (rs_set (i := 4) (hs := rfl) (hf := (by first | exact Or.inl rfl | exact Or.inr rfl)) sc__weighed_course.nd rfl (by first | exact Or.inl rfl | exact Or.inr rfl) (re_tup (ra_cons (hs := sn_const) re_int (ra_cons (hs := sn_const) re_int (ra_cons (hs := sn_const) re_int (ra_cons (hs := sn_const) re_int (ra_cons (hs := sn_const) re_int ra_nil)))))))
  (rss_cons (rs_for (hs := fun _ => rfl) PassesOwn.never rfl (ri_zip (hs := by first | rfl | with_reducible exact sn_name) (hpl := rfl) rfl T.b_zip (ra_cons (hs := sn_name) (v 0) (ra_cons (hs := sn_name) (v 1) ra_nil))) (rg_tupK K rfl (hn := rfl) (hst := rfl) rfl (rgs_cons (hs := rfl) (rg_name (i := 5) sc__weighed_course.nd rfl (by first | exact Or.inl rfl | exact Or.inr rfl)) (rgs_cons (hs := rfl) (rg_name (i := 3) sc__weighed_course.nd rfl (by first | exact Or.inl rfl | exact Or.inr rfl)) rgs_nil))) (fun _ => (rss_cons (rs_set (i := 6) (hs := rfl) (hf := (by first | exact Or.inl rfl | exact Or.inr rfl)) sc__weighed_course.nd rfl (by first | exact Or.inl rfl | exact Or.inr rfl) (re_ofL (rl_lst (ra_star (hs := by rfl) (v 5) (ra_star (hs := by rfl) (re_rep (rl_lst (ra_cons (hs := sn_const) re_int ra_nil)) (re_sub re_int (re_len (he := sn_name) rfl T.b_len (ra_cons (hs := sn_name) (v 5) ra_nil)))) ra_nil)))))
  (rss_one (rs_set (i := 4) (hs := rfl) (hf := (by first | exact Or.inl rfl | exact Or.inr rfl)) sc__weighed_course.nd rfl (by first | exact Or.inl rfl | exact Or.inr rfl) (re_call (hdb := (by decide)) (he := sn_const) (hpl := rfl) C_combined hg (hr.mono (by decide)) rfl (ra_cons (hs := sn_const) re_int (ra_cons (hs := sn_name) (v 4) (ra_cons (hs := sn_bin) (re_mul (re_ix (hs := fun _ _ => rfl) (v 3) re_int) (re_div (v 2) (re_ix (hs := fun _ _ => rfl) (v 3) re_int))) (ra_cons (hs := sn_name) (v 6) ra_nil))))))))))
  (rss_one (rs_ret (re_call (hdb := (by decide)) (he := sn_tup) (hpl := rfl) C_reduced hg (hr.mono (by decide)) rfl (ra_cons (hs := sn_tup) (re_tup (ra_star (hs := by rfl) (v 4) (ra_cons (hs := sn_name) (v 2) ra_nil))) ra_nil))))))))
theorem ok_turned_course {f : Addr} {fd : FuncData} (U : Fun K "turned_course" "turned_course" s_turned_course f fd) (T : Tx K mg) (C__length_of : At P w K mg base 1 "_length_of" ["setting"] F__length_of) (C__power : At P w K mg base 3 "_power" ["polynomial", "many"] F__power) (C__weighed_course : At P w K mg base 3 "_weighed_course" ["rows", "weights"] F__weighed_course) (C_check_course : At P w K mg base 5 "check_course" ["value"] F_check_course) (C_check_setting : At P w K mg base 5 "check_setting" ["value"] F_check_setting) (C_polynomial_product : At P w K mg base 2 "polynomial_product" ["one", "two"] F_polynomial_product) (C_ratio : At P w K mg base 1 "ratio" ["p", "q"] F_ratio) : FnG P w K mg base 6 f fd ["course", "setting"] F_turned_course := by
  refine fng_of (n0 := 0) (k := 5) U sc_turned_course (fun cdv A outer s H E hg hr => ?_)
  exact (rss_cons (rs_drop (hs := rfl) (re_call (hdb := (by decide)) (he := sn_name) (hpl := rfl) C_check_course hg (hr.mono (by decide)) rfl (ra_cons (hs := sn_name) (v 0) ra_nil)))
  (rss_cons (rs_drop (hs := rfl) (re_call (hdb := (by decide)) (he := sn_name) (hpl := rfl) C_check_setting hg (hr.mono (by decide)) rfl (ra_cons (hs := sn_name) (v 1) ra_nil)))
  (rss_cons (rs_asg (hs := rfl) (hw := rfl) (h1 := rfl) (v 1) (rg_tupK K rfl (hn := rfl) (hst := rfl) rfl (rgs_cons (hs := rfl) (rg_name (i := 5) sc_turned_course.nd rfl (by first | exact Or.inl rfl | exact Or.inr rfl)) (rgs_cons (hs := rfl) (rg_name (i := 6) sc_turned_course.nd rfl (by first | exact Or.inl rfl | exact Or.inr rfl)) rgs_nil))))
  (rss_cons (rs_set (i := 2) (hs := rfl) (hf := (by first | exact Or.inl rfl | exact Or.inr rfl)) sc_turned_course.nd rfl (by first | exact Or.inl rfl | exact Or.inr rfl) (re_call (hdb := (by decide)) (he := sn_name) (hpl := rfl) C__length_of hg (hr.mono (by decide)) rfl (ra_cons (hs := sn_name) (v 1) ra_nil)))
  (rss_cons (rs_set (i := 3) (hs := rfl) (hf := (by first | exact Or.inl rfl | exact Or.inr rfl)) sc_turned_course.nd rfl (by first | exact Or.inl rfl | exact Or.inr rfl) (re_mul (re_mul (re_ix (hs := fun _ _ => rfl) (v 0) re_int) (v 2)) (v 2)))
  (rss_cons (rs_setLc (i := 4) (own := [("at", 7)]) (hs := fun _ => rfl) rfl sc_turned_course.nd rfl rfl (sw_true rfl rfl rfl (by decide +kernel)) (ri_range1 (hs := rfl) rfl T.b_range (ra_cons (hs := sn_const) re_int ra_nil)) (blkOk_by (N := n_turned_course) (sc := defScope s_turned_course) (by decide +kernel)) (fun _ _ _ _ _ => (rg_name (i := 7) sc_turned_course.nd rfl (by first | exact Or.inl rfl | exact Or.inr rfl))) (fun _ _ _ _ _ => rts_nil) (fun _ _ _ _ _ => (re_call (hdb := (by decide)) (he := sn_call) (hpl := rfl) C_polynomial_product hg (hr.mono (by decide)) rfl (ra_cons (hs := sn_call) (re_call (hdb := (by decide)) (he := sn_tup) (hpl := rfl) C__power hg (hr.mono (by decide)) rfl (ra_cons (hs := sn_tup) (re_tup (ra_cons (hs := sn_name) (v 5) (ra_cons (hs := sn_name) (v 6) ra_nil))) (ra_cons (hs := sn_name) (v 7) ra_nil))) (ra_cons (hs := sn_call) (re_call (hdb := (by decide)) (he := sn_tup) (hpl := rfl) C__power hg (hr.mono (by decide)) rfl (ra_cons (hs := sn_tup) (re_tup (ra_cons (hs := sn_name) (v 6) (ra_cons (hs := sn_un) (re_neg (v 5)) ra_nil))) (ra_cons (hs := sn_bin) (re_sub re_int (v 7)) ra_nil))) ra_nil)))) (by decide))
  (rss_one (rs_ret (re_call (hdb := (by decide)) (he := sn_name) (hpl := rfl) C__weighed_course hg (hr.mono (by decide)) rfl (ra_cons (hs := sn_name) (v 4) (ra_cons (hs := sn_lc) (re_ofL (rl_lc (own := [("number", 8)]) (hs := fun _ => rfl) rfl sc_turned_course.nd (ri_seq (re_sl (v 0) ro_none (ro_some re_int))) (blkOk_by (N := n_turned_course) (sc := defScope s_turned_course) (by decide +kernel)) (fun _ _ _ _ _ => (rg_name (i := 8) sc_turned_course.nd rfl (by first | exact Or.inl rfl | exact Or.inr rfl))) (fun _ _ _ _ _ => rts_nil) (fun _ _ _ _ _ => (re_call (hdb := (by decide)) (he := sn_name) (hpl := rfl) C_ratio hg (hr.mono (by decide)) rfl (ra_cons (hs := sn_name) (v 8) (ra_cons (hs := sn_name) (v 3) ra_nil)))) (by decide))) ra_nil)))))))))))
theorem ok_course_parts {f : Addr} {fd : FuncData} (U : Fun K "course_parts" "course_parts" s_course_parts f fd) (T : Tx K mg) (C_check_course : At P w K mg base 5 "check_course" ["value"] F_check_course) (C_dot : At P w K mg base 1 "dot" ["row", "other"] F_dot) (C_ratio : At P w K mg base 1 "ratio" ["p", "q"] F_ratio) : FnG P w K mg base 6 f fd ["course"] F_course_parts := by
  obtain ⟨v__ROWS_OF_PARTS, u__ROWS_OF_PARTS, m__ROWS_OF_PARTS, r__ROWS_OF_PARTS, d__ROWS_OF_PARTS⟩ := T.k__ROWS_OF_PARTS
  refine fng_of (n0 := 0) (k := 5) U sc_course_parts (fun cdv A outer s H E hg hr => ?_)
  exact (rss_cons (rs_drop (hs := rfl) (re_call (hdb := (by decide)) (he := sn_name) (hpl := rfl) C_check_course hg (hr.mono (by decide)) rfl (ra_cons (hs := sn_name) (v 0) ra_nil)))
  (rss_one (rs_ret (re_tuple (he := sn_lc) rfl T.b_tuple (ra_cons (hs := sn_lc) (re_ofL (rl_lc (own := [("row", 1)]) (hs := fun _ => rfl) rfl sc_course_parts.nd (ri_seq (re_glob (v := v__ROWS_OF_PARTS) rfl m__ROWS_OF_PARTS r__ROWS_OF_PARTS d__ROWS_OF_PARTS)) (blkOk_by (N := n_course_parts) (sc := defScope s_course_parts) (by decide +kernel)) (fun _ _ _ _ _ => (rg_name (i := 1) sc_course_parts.nd rfl (by first | exact Or.inl rfl | exact Or.inr rfl))) (fun _ _ _ _ _ => rts_nil) (fun _ _ _ _ _ => (re_call (hdb := (by decide)) (he := sn_call) (hpl := rfl) C_ratio hg (hr.mono (by decide)) rfl (ra_cons (hs := sn_call) (re_call (hdb := (by decide)) (he := sn_name) (hpl := rfl) C_dot hg (hr.mono (by decide)) rfl (ra_cons (hs := sn_name) (v 1) (ra_cons (hs := sn_sub) (re_sl (v 0) ro_none (ro_some re_int)) ra_nil))) (ra_cons (hs := sn_bin) (re_mul re_int (re_ix (hs := fun _ _ => rfl) (v 0) re_int)) ra_nil)))) (by decide))) ra_nil)))))
theorem ok_setting_sum {f : Addr} {fd : FuncData} (U : Fun K "setting_sum" "setting_sum" s_setting_sum f fd) (T : Tx K mg) (C_check_setting : At P w K mg base 5 "check_setting" ["value"] F_check_setting) (C_reduced : At P w K mg base 2 "reduced" ["numbers"] F_reduced) : FnG P w K mg base 6 f fd ["setting", "other"] F_setting_sum := by
  refine fng_of (n0 := 0) (k := 5) U sc_setting_sum (fun cdv A outer s H E hg hr => ?_)
  exact (rss_cons (rs_drop (hs := rfl) (re_call (hdb := (by decide)) (he := sn_name) (hpl := rfl) C_check_setting hg (hr.mono (by decide)) rfl (ra_cons (hs := sn_name) (v 0) ra_nil)))
  (rss_cons (rs_drop (hs := rfl) (re_call (hdb := (by decide)) (he := sn_name) (hpl := rfl) C_check_setting hg (hr.mono (by decide)) rfl (ra_cons (hs := sn_name) (v 1) ra_nil)))
  (rss_cons (rs_asg (hs := rfl) (hw := rfl) (h1 := rfl) (re_call (hdb := (by decide)) (he := sn_tup) (hpl := rfl) C_reduced hg (hr.mono (by decide)) rfl (ra_cons (hs := sn_tup) (re_tup (ra_cons (hs := sn_bin) (re_plus (re_mul (re_ix (hs := fun _ _ => rfl) (v 0) re_int) (re_ix (hs := fun _ _ => rfl) (v 1) re_int)) (re_mul (re_ix (hs := fun _ _ => rfl) (v 1) re_int) (re_ix (hs := fun _ _ => rfl) (v 0) re_int))) (ra_cons (hs := sn_bin) (re_sub (re_mul (re_ix (hs := fun _ _ => rfl) (v 0) re_int) (re_ix (hs := fun _ _ => rfl) (v 1) re_int)) (re_mul (re_ix (hs := fun _ _ => rfl) (v 0) re_int) (re_ix (hs := fun _ _ => rfl) (v 1) re_int))) ra_nil))) ra_nil)) (rg_tupK K rfl (hn := rfl) (hst := rfl) rfl (rgs_cons (hs := rfl) (rg_name (i := 2) sc_setting_sum.nd rfl (by first | exact Or.inl rfl | exact Or.inr rfl)) (rgs_cons (hs := rfl) (rg_name (i := 3) sc_setting_sum.nd rfl (by first | exact Or.inl rfl | exact Or.inr rfl)) rgs_nil))))
  (rss_cons (rs_if (rt_w (rw_or (rt_lt (v 3) re_int) (rw_or1 (rt_w (rw_and (rt_eq (hu64 hr) (v 3) re_int) (rw_and1 (rt_lt (v 2) re_int))))))) (rss_one (rs_ret (re_tup (ra_cons (hs := sn_un) (re_neg (v 2)) (ra_cons (hs := sn_un) (re_neg (v 3)) ra_nil))))) rss_nil)
  (rss_one (rs_ret (re_tup (ra_cons (hs := sn_name) (v 2) (ra_cons (hs := sn_name) (v 3) ra_nil)))))))))
theorem ok_setting_back {f : Addr} {fd : FuncData} (U : Fun K "setting_back" "setting_back" s_setting_back f fd) (T : Tx K mg) (C_check_setting : At P w K mg base 5 "check_setting" ["value"] F_check_setting) : FnG P w K mg base 6 f fd ["setting"] F_setting_back := by
  refine fng_of (n0 := 0) (k := 5) U sc_setting_back (fun cdv A outer s H E hg hr => ?_)
  exact (rss_cons (rs_drop (hs := rfl) (re_call (hdb := (by decide)) (he := sn_name) (hpl := rfl) C_check_setting hg (hr.mono (by decide)) rfl (ra_cons (hs := sn_name) (v 0) ra_nil)))
  (rss_one (rs_ret (re_if (rt_eq (hu64 hr) (re_ix (hs := fun _ _ => rfl) (v 0) re_int) re_int) (v 0) (re_tup (ra_cons (hs := sn_un) (re_neg (re_ix (hs := fun _ _ => rfl) (v 0) re_int)) (ra_cons (hs := sn_sub) (re_ix (hs := fun _ _ => rfl) (v 0) re_int) ra_nil)))))))
theorem ok__law_source {f : Addr} {fd : FuncData} (U : Fun K "_law_source" "_law_source" s__law_source f fd) (T : Tx K mg)  : FnG P w K mg base 1 f fd ["_law_script", "_law_at_here"] F__law_source := by
  refine fng_of (n0 := 0) (k := 0) U sc__law_source (fun cdv A outer s H E hg hr => ?_)
  exact (rss_cons (rs_set (i := 2) (hs := rfl) (hf := (by first | exact Or.inl rfl | exact Or.inr rfl)) sc__law_source.nd rfl (by first | exact Or.inl rfl | exact Or.inr rfl) (re_if (rt_lt (v 1) (re_len (he := sn_name) rfl T.b_len (ra_cons (hs := sn_name) (v 0) ra_nil))) (re_intc (he := sn_sub) rfl T.b_int (ra_cons (hs := sn_sub) (re_ix (hs := fun _ _ => rfl) (v 0) (v 1)) ra_nil)) (re_plus (re_mul re_int (v 1)) re_int)))
  (rss_cons (rs_set (i := 3) (hs := rfl) (hf := (by first | exact Or.inl rfl | exact Or.inr rfl)) sc__law_source.nd rfl (by first | exact Or.inl rfl | exact Or.inr rfl) (re_plus re_int (re_mul re_int (v 1))))
  (rss_cons (rs_for (hs := fun _ => rfl) PassesOwn.never rfl (ri_seq (re_sl (v 0) ro_none (ro_some re_int))) (rg_name (i := 4) sc__law_source.nd rfl (by first | exact Or.inl rfl | exact Or.inr rfl)) (fun _ => (rss_one (rs_set (i := 3) (hs := rfl) (hf := (by first | exact Or.inl rfl | exact Or.inr rfl)) sc__law_source.nd rfl (by first | exact Or.inl rfl | exact Or.inr rfl) (re_mod (re_intc (he := sn_bin) rfl T.b_int (ra_cons (hs := sn_bin) (re_plus (re_plus (re_mul (v 3) re_int) (re_mod (re_intc (he := sn_name) rfl T.b_int (ra_cons (hs := sn_name) (v 4) ra_nil)) re_int)) re_int) ra_nil)) re_int)))))
  (rss_cons (rs_set (i := 5) (hs := rfl) (hf := (by first | exact Or.inl rfl | exact Or.inr rfl)) sc__law_source.nd rfl (by first | exact Or.inl rfl | exact Or.inr rfl) (re_mod (re_intc (he := sn_bin) rfl T.b_int (ra_cons (hs := sn_bin) (re_plus (re_mul (v 3) re_int) (re_mul (re_mod (re_intc (he := sn_name) rfl T.b_int (ra_cons (hs := sn_name) (v 2) ra_nil)) re_int) re_int)) ra_nil)) re_int))
  (rss_one (rs_retL (rl_lst (ra_cons (hs := sn_if) (re_if (rt_w (rw_or (rt_lt (v 2) re_int) (rw_or1 (rt_ge (v 2) (re_pow re_int re_int))))) (re_abs (he := sn_name) rfl T.b_abs (ra_cons (hs := sn_name) (v 2) ra_nil)) re_int) (ra_cons (hs := sn_name) (v 5) (ra_cons (hs := sn_const) re_int ra_nil))))))))))
theorem ok__law_draw {f : Addr} {fd : FuncData} (U : Fun K "_law_draw" "_law_draw" s__law_draw f fd) (T : Tx K mg)  : FnG P w K mg base 1 f fd ["_law_source_here", "_law_top"] F__law_draw := by
  refine fng_of (n0 := 1) (k := 0) U sc__law_draw (fun cdv A outer s H E hg hr => ?_)
  exact (rss_cons (rs_if (rt_gt (re_cix (i := 0) (hd := (by decide)) (hcd := (by decide)) (hs := fun _ _ => rfl) rfl (by first | exact Or.inl rfl | exact Or.inr (Or.inl rfl) | exact Or.inr (Or.inr rfl)) re_int) re_int) (rss_cons (rs_setc2 (i := 0) (j := 3) (hd := (by decide)) (hcd := (by decide)) (ha := fun _ => rfl) (hf := (by first | exact Or.inl rfl | exact Or.inr rfl)) rfl sc__law_draw.nd rfl (by first | exact Or.inl rfl | exact Or.inr (Or.inl rfl) | exact Or.inr (Or.inr rfl)) rfl (by first | exact Or.inl rfl | exact Or.inr rfl) (by decide) re_int (re_divmod (he := sn_sub) (hpl := rfl) rfl T.b_divmod (ra_cons (hs := sn_sub) (re_cix (i := 0) (hd := (by decide)) (hcd := (by decide)) (hs := fun _ _ => rfl) rfl (by first | exact Or.inl rfl | exact Or.inr (Or.inl rfl) | exact Or.inr (Or.inr rfl)) re_int) (ra_cons (hs := sn_name) (v 1) ra_nil))) (P := fun t ht => ps_asg ht (pg_tup rfl (pgs_cons (pg_sub (pe_var (i := 0) rfl (by first | exact Or.inl rfl | exact Or.inr (Or.inl rfl) | exact Or.inr (Or.inr rfl))) (pwE _) set_list) (pgs_cons (pg_name (i := 3) sc__law_draw.nd rfl (by first | exact Or.inl rfl | exact Or.inr rfl)) pgs_nil)))))
  (rss_one (rs_ret (v 3)))) rss_nil)
  (rss_cons (rs_setc (i := 0) (hd := (by decide)) (hcd := (by decide)) (ha := fun _ => rfl) (hs := rfl) (hw := rfl) (h1 := rfl) rfl (by first | exact Or.inl rfl | exact Or.inr (Or.inl rfl) | exact Or.inr (Or.inr rfl)) re_int (re_plus (re_cix (i := 0) (hd := (by decide)) (hcd := (by decide)) (hs := fun _ _ => rfl) rfl (by first | exact Or.inl rfl | exact Or.inr (Or.inl rfl) | exact Or.inr (Or.inr rfl)) re_int) re_int))
  (rss_cons (rs_set (i := 2) (hs := rfl) (hf := (by first | exact Or.inl rfl | exact Or.inr rfl)) sc__law_draw.nd rfl (by first | exact Or.inl rfl | exact Or.inr rfl) (re_mod (re_intc (he := sn_bin) rfl T.b_int (ra_cons (hs := sn_bin) (re_plus (re_mul (re_cix (i := 0) (hd := (by decide)) (hcd := (by decide)) (hs := fun _ _ => rfl) rfl (by first | exact Or.inl rfl | exact Or.inr (Or.inl rfl) | exact Or.inr (Or.inr rfl)) re_int) re_int) (re_mul (re_cix (i := 0) (hd := (by decide)) (hcd := (by decide)) (hs := fun _ _ => rfl) rfl (by first | exact Or.inl rfl | exact Or.inr (Or.inl rfl) | exact Or.inr (Or.inr rfl)) re_int) re_int)) ra_nil)) re_int))
  (rss_cons (rs_setc (i := 0) (hd := (by decide)) (hcd := (by decide)) (ha := fun _ => rfl) (hs := rfl) (hw := rfl) (h1 := rfl) rfl (by first | exact Or.inl rfl | exact Or.inr (Or.inl rfl) | exact Or.inr (Or.inr rfl)) re_int (re_mod (re_intc (he := sn_bin) rfl T.b_int (ra_cons (hs := sn_bin) (re_plus (re_mul (v 2) (re_plus (re_mul re_int (re_div (v 2) re_int)) re_int)) (re_cix (i := 0) (hd := (by decide)) (hcd := (by decide)) (hs := fun _ _ => rfl) rfl (by first | exact Or.inl rfl | exact Or.inr (Or.inl rfl) | exact Or.inr (Or.inr rfl)) re_int)) ra_nil)) re_int))
  (rss_one (rs_ret (re_mod (re_intc (he := sn_bin) rfl T.b_int (ra_cons (hs := sn_bin) (re_div (re_cix (i := 0) (hd := (by decide)) (hcd := (by decide)) (hs := fun _ _ => rfl) rfl (by first | exact Or.inl rfl | exact Or.inr (Or.inl rfl) | exact Or.inr (Or.inr rfl)) re_int) re_int) ra_nil)) (v 1))))))))
theorem ok__law_pick {f : Addr} {fd : FuncData} (U : Fun K "_law_pick" "_law_pick" s__law_pick f fd) (T : Tx K mg) (C__law_draw : At P w K mg base 1 "_law_draw" ["_law_source_here", "_law_top"] F__law_draw) : FnG P w K mg base 2 f fd ["_law_source_here", "_law_some"] F__law_pick_K36 := by
  refine fng_of (n0 := 1) (k := 1) U sc__law_pick (fun cdv A outer s H E hg hr => ?_)
  exact (rss_one (rs_ret (re_ix (hs := fun _ _ => rfl) (v 1) (re_call (hdb := (by decide)) (he := sn_name) (hpl := rfl) C__law_draw hg (hr.mono (by decide)) rfl (ra_cel (i := 0) (hd := (by decide)) (hcd := (by decide)) (hs := sn_name) rfl (by first | exact Or.inl rfl | exact Or.inr (Or.inl rfl) | exact Or.inr (Or.inr rfl)) (ra_cons (hs := sn_call) (re_len (he := sn_name) rfl T.b_len (ra_cons (hs := sn_name) (v 1) ra_nil)) ra_nil))))))
theorem ok__law_about {f : Addr} {fd : FuncData} (U : Fun K "_law_about" "_law_about" s__law_about f fd) (T : Tx K mg) (C__law_draw : At P w K mg base 1 "_law_draw" ["_law_source_here", "_law_top"] F__law_draw) : FnG P w K mg base 2 f fd ["_law_source_here", "_law_most"] F__law_about := by
  refine fng_of (n0 := 1) (k := 1) U sc__law_about (fun cdv A outer s H E hg hr => ?_)
  exact (rss_one (rs_ret (re_sub (re_call (hdb := (by decide)) (he := sn_name) (hpl := rfl) C__law_draw hg (hr.mono (by decide)) rfl (ra_cel (i := 0) (hd := (by decide)) (hcd := (by decide)) (hs := sn_name) rfl (by first | exact Or.inl rfl | exact Or.inr (Or.inl rfl) | exact Or.inr (Or.inr rfl)) (ra_cons (hs := sn_bin) (re_plus (re_mul re_int (v 1)) re_int) ra_nil))) (v 1))))
theorem ok__law_common {f : Addr} {fd : FuncData} (U : Fun K "_law_common" "_law_common" s__law_common f fd) (T : Tx K mg)  : FnG P w K mg base 1 f fd ["_law_row"] F__law_common_K36 := by
  refine fng_of (n0 := 0) (k := 0) U sc__law_common (fun cdv A outer s H E hg hr => ?_)
  exact (rss_cons (rs_set (i := 1) (hs := rfl) (hf := (by first | exact Or.inl rfl | exact Or.inr rfl)) sc__law_common.nd rfl (by first | exact Or.inl rfl | exact Or.inr rfl) re_int)
  (rss_cons (rs_for (hs := fun _ => rfl) PassesOwn.never rfl (ri_seq (v 0)) (rg_name (i := 2) sc__law_common.nd rfl (by first | exact Or.inl rfl | exact Or.inr rfl)) (fun _ => (rss_cons (rs_par (i := 3) (j := 4) rfl sc__law_common.nd rfl rfl (by decide) rfl rfl (ra_cons (hs := sn_name) (v 1) (ra_cons (hs := sn_call) (re_abs (he := sn_name) rfl T.b_abs (ra_cons (hs := sn_name) (v 2) ra_nil)) ra_nil)) (P := ps_par (by rfl) sc__law_common.nd rfl rfl (by decide) rfl rfl (pwA _) (by rfl)))
  (rss_cons (rs_while PassesOwn.never (rt_ne (hu64 hr) (v 4) re_int) (fun _ => (rss_one (rs_par (i := 3) (j := 4) rfl sc__law_common.nd rfl rfl (by decide) rfl rfl (ra_cons (hs := sn_name) (v 4) (ra_cons (hs := sn_bin) (re_mod (re_intc (he := sn_name) rfl T.b_int (ra_cons (hs := sn_name) (v 3) ra_nil)) (v 4)) ra_nil)) (P := ps_par (by rfl) sc__law_common.nd rfl rfl (by decide) rfl rfl (pwA _) (by rfl))))))
  (rss_one (rs_set (i := 1) (hs := rfl) (hf := (by first | exact Or.inl rfl | exact Or.inr rfl)) sc__law_common.nd rfl (by first | exact Or.inl rfl | exact Or.inr rfl) (v 3)))))))
  (rss_one (rs_ret (v 1)))))
theorem ok__law_low {f : Addr} {fd : FuncData} (U : Fun K "_law_low" "_law_low" s__law_low f fd) (T : Tx K mg) (C__law_common : At P w K mg base 1 "_law_common" ["_law_row"] F__law_common_K36) : FnG P w K mg base 2 f fd ["_law_row"] F__law_low_K36 := by
  refine fng_of (n0 := 0) (k := 1) U sc__law_low (fun cdv A outer s H E hg hr => ?_)
  exact (rss_cons (rs_set (i := 1) (hs := rfl) (hf := (by first | exact Or.inl rfl | exact Or.inr rfl)) sc__law_low.nd rfl (by first | exact Or.inl rfl | exact Or.inr rfl) (re_max (he := sn_const) (hpl := rfl) rfl rfl T.b_max (ra_cons (hs := sn_const) re_int (ra_cons (hs := sn_call) (re_call (hdb := (by decide)) (he := sn_name) (hpl := rfl) C__law_common hg (hr.mono (by decide)) rfl (ra_cons (hs := sn_name) (v 0) ra_nil)) ra_nil))))
  (rss_one (rs_ret (re_tuple (he := sn_lc) rfl T.b_tuple (ra_cons (hs := sn_lc) (re_ofL (rl_lc (own := [("_law_part", 2)]) (hs := fun _ => rfl) rfl sc__law_low.nd (ri_seq (v 0)) (blkOk_by (N := n__law_low) (sc := defScope s__law_low) (by decide +kernel)) (fun _ _ _ _ _ => (rg_name (i := 2) sc__law_low.nd rfl (by first | exact Or.inl rfl | exact Or.inr rfl))) (fun _ _ _ _ _ => rts_nil) (fun _ _ _ _ _ => (re_div (v 2) (v 1))) (by decide))) ra_nil)))))
theorem ok__law_ratio {f : Addr} {fd : FuncData} (U : Fun K "_law_ratio" "_law_ratio" s__law_ratio f fd) (T : Tx K mg) (C__law_common : At P w K mg base 1 "_law_common" ["_law_row"] F__law_common_K36) : FnG P w K mg base 2 f fd ["_law_top", "_law_under"] F__law_ratio_K36 := by
  refine fng_of (n0 := 0) (k := 1) U sc__law_ratio (fun cdv A outer s H E hg hr => ?_)
  exact (rss_cons (rs_set (i := 2) (hs := rfl) (hf := (by first | exact Or.inl rfl | exact Or.inr rfl)) sc__law_ratio.nd rfl (by first | exact Or.inl rfl | exact Or.inr rfl) (re_call (hdb := (by decide)) (he := sn_list) (hpl := rfl) C__law_common hg (hr.mono (by decide)) rfl (ra_cons (hs := sn_list) (re_ofL (rl_lst (ra_cons (hs := sn_name) (v 0) (ra_cons (hs := sn_name) (v 1) ra_nil)))) ra_nil)))
  (rss_cons (rs_set (i := 2) (hs := rfl) (hf := (by first | exact Or.inl rfl | exact Or.inr rfl)) sc__law_ratio.nd rfl (by first | exact Or.inl rfl | exact Or.inr rfl) (re_if (rt_gt (v 1) re_int) (v 2) (re_sub re_int (v 2))))
  (rss_one (rs_ret (re_tup (ra_cons (hs := sn_bin) (re_div (v 0) (v 2)) (ra_cons (hs := sn_bin) (re_div (v 1) (v 2)) ra_nil)))))))
theorem ok__law_slot {f : Addr} {fd : FuncData} (U : Fun K "_law_slot" "_law_slot" s__law_slot f fd) (T : Tx K mg) (C__law_about : At P w K mg base 2 "_law_about" ["_law_source_here", "_law_most"] F__law_about) (C__law_draw : At P w K mg base 1 "_law_draw" ["_law_source_here", "_law_top"] F__law_draw) (C__law_low : At P w K mg base 2 "_law_low" ["_law_row"] F__law_low_K36) (C__law_pick : At P w K mg base 2 "_law_pick" ["_law_source_here", "_law_some"] F__law_pick_K36) : FnG P w K mg base 3 f fd ["_law_source_here"] F__law_slot := by
  refine fng_of (n0 := 1) (k := 2) U sc__law_slot (fun cdv A outer s H E hg hr => ?_)
  exact (rss_cons (rs_par (i := 1) (j := 2) rfl sc__law_slot.nd rfl rfl (by decide) rfl rfl (ra_cons (hs := sn_call) (re_call (hdb := (by decide)) (he := sn_name) (hpl := rfl) C__law_draw hg (hr.mono (by decide)) rfl (ra_cel (i := 0) (hd := (by decide)) (hcd := (by decide)) (hs := sn_name) rfl (by first | exact Or.inl rfl | exact Or.inr (Or.inl rfl) | exact Or.inr (Or.inr rfl)) (ra_cons (hs := sn_const) re_int ra_nil))) (ra_cons (hs := sn_call) (re_call (hdb := (by decide)) (he := sn_name) (hpl := rfl) C__law_pick hg (hr.mono (by decide)) rfl (ra_cel (i := 0) (hd := (by decide)) (hcd := (by decide)) (hs := sn_name) rfl (by first | exact Or.inl rfl | exact Or.inr (Or.inl rfl) | exact Or.inr (Or.inr rfl)) (ra_cons (hs := sn_tup) (re_tup (ra_cons (hs := sn_const) re_int (ra_cons (hs := sn_const) re_int (ra_cons (hs := sn_const) re_int (ra_cons (hs := sn_const) re_int (ra_cons (hs := sn_const) re_int ra_nil)))))) ra_nil))) ra_nil)) (P := ps_par (by rfl) sc__law_slot.nd rfl rfl (by decide) rfl rfl (pwA _) (by rfl)))
  (rss_cons (rs_if (rt_eq (hu64 hr) (v 1) re_int) (rss_one (rs_ret (re_call (hdb := (by decide)) (he := sn_name) (hpl := rfl) C__law_pick hg (hr.mono (by decide)) rfl (ra_cel (i := 0) (hd := (by decide)) (hcd := (by decide)) (hs := sn_name) rfl (by first | exact Or.inl rfl | exact Or.inr (Or.inl rfl) | exact Or.inr (Or.inr rfl)) (ra_cons (hs := sn_tup) (re_tup (ra_cons (hs := sn_tup) (re_tup (ra_cons (hs := sn_const) re_int (ra_cons (hs := sn_const) re_int ra_nil))) (ra_cons (hs := sn_tup) (re_tup (ra_cons (hs := sn_const) re_int (ra_cons (hs := sn_const) re_int ra_nil))) (ra_cons (hs := sn_tup) (re_tup (ra_cons (hs := sn_const) re_int (ra_cons (hs := sn_const) re_int ra_nil))) (ra_cons (hs := sn_tup) (re_tup (ra_cons (hs := sn_un) (re_neg re_int) (ra_cons (hs := sn_const) re_int ra_nil))) ra_nil))))) ra_nil))))) rss_nil)
  (rss_one (rs_ret (re_call (hdb := (by decide)) (he := sn_tup) (hpl := rfl) C__law_low hg (hr.mono (by decide)) rfl (ra_cons (hs := sn_tup) (re_tup (ra_cons (hs := sn_call) (re_call (hdb := (by decide)) (he := sn_name) (hpl := rfl) C__law_about hg (hr.mono (by decide)) rfl (ra_cel (i := 0) (hd := (by decide)) (hcd := (by decide)) (hs := sn_name) rfl (by first | exact Or.inl rfl | exact Or.inr (Or.inl rfl) | exact Or.inr (Or.inr rfl)) (ra_cons (hs := sn_name) (v 2) ra_nil))) (ra_cons (hs := sn_bin) (re_plus re_int (re_call (hdb := (by decide)) (he := sn_name) (hpl := rfl) C__law_draw hg (hr.mono (by decide)) rfl (ra_cel (i := 0) (hd := (by decide)) (hcd := (by decide)) (hs := sn_name) rfl (by first | exact Or.inl rfl | exact Or.inr (Or.inl rfl) | exact Or.inr (Or.inr rfl)) (ra_cons (hs := sn_name) (v 2) ra_nil)))) ra_nil))) ra_nil))))))
theorem ok__law_signed {f : Addr} {fd : FuncData} (U : Fun K "_law_signed" "_law_signed" s__law_signed f fd) (T : Tx K mg) (C__law_low : At P w K mg base 2 "_law_low" ["_law_row"] F__law_low_K36) : FnG P w K mg base 3 f fd ["_law_pair"] F__law_signed := by
  refine fng_of (n0 := 0) (k := 2) U sc__law_signed (fun cdv A outer s H E hg hr => ?_)
  exact (rss_cons (rs_asg (hs := rfl) (hw := rfl) (h1 := rfl) (re_call (hdb := (by decide)) (he := sn_name) (hpl := rfl) C__law_low hg (hr.mono (by decide)) rfl (ra_cons (hs := sn_name) (v 0) ra_nil)) (rg_tupK K rfl (hn := rfl) (hst := rfl) rfl (rgs_cons (hs := rfl) (rg_name (i := 1) sc__law_signed.nd rfl (by first | exact Or.inl rfl | exact Or.inr rfl)) (rgs_cons (hs := rfl) (rg_name (i := 2) sc__law_signed.nd rfl (by first | exact Or.inl rfl | exact Or.inr rfl)) rgs_nil))))
  (rss_cons (rs_if (rt_eq (hu64 hr) (v 2) re_int) (rss_one (rs_ret (re_tup (ra_cons (hs := sn_const) re_int (ra_cons (hs := sn_const) re_int ra_nil))))) rss_nil)
  (rss_one (rs_ret (re_if (rt_gt (v 2) re_int) (re_tup (ra_cons (hs := sn_name) (v 1) (ra_cons (hs := sn_name) (v 2) ra_nil))) (re_tup (ra_cons (hs := sn_bin) (re_sub re_int (v 1)) (ra_cons (hs := sn_bin) (re_sub re_int (v 2)) ra_nil))))))))
theorem ok__law_summed {f : Addr} {fd : FuncData} (U : Fun K "_law_summed" "_law_summed" s__law_summed f fd) (T : Tx K mg) (C__law_signed : At P w K mg base 3 "_law_signed" ["_law_pair"] F__law_signed) : FnG P w K mg base 4 f fd ["_law_one", "_law_two"] F__law_summed := by
  refine fng_of (n0 := 0) (k := 3) U sc__law_summed (fun cdv A outer s H E hg hr => ?_)
  exact (rss_one (rs_ret (re_call (hdb := (by decide)) (he := sn_tup) (hpl := rfl) C__law_signed hg (hr.mono (by decide)) rfl (ra_cons (hs := sn_tup) (re_tup (ra_cons (hs := sn_bin) (re_plus (re_mul (re_ix (hs := fun _ _ => rfl) (v 0) re_int) (re_ix (hs := fun _ _ => rfl) (v 1) re_int)) (re_mul (re_ix (hs := fun _ _ => rfl) (v 1) re_int) (re_ix (hs := fun _ _ => rfl) (v 0) re_int))) (ra_cons (hs := sn_bin) (re_sub (re_mul (re_ix (hs := fun _ _ => rfl) (v 0) re_int) (re_ix (hs := fun _ _ => rfl) (v 1) re_int)) (re_mul (re_ix (hs := fun _ _ => rfl) (v 0) re_int) (re_ix (hs := fun _ _ => rfl) (v 1) re_int))) ra_nil))) ra_nil))))
theorem ok__law_form {f : Addr} {fd : FuncData} (U : Fun K "_law_form" "_law_form" s__law_form f fd) (T : Tx K mg)  : FnG P w K mg base 1 f fd ["_law_row", "_law_slot_here"] F__law_form := by
  refine fng_of (n0 := 0) (k := 0) U sc__law_form (fun cdv A outer s H E hg hr => ?_)
  exact (rss_cons (rs_asg (hs := rfl) (hw := rfl) (h1 := rfl) (v 1) (rg_tupK K rfl (hn := rfl) (hst := rfl) rfl (rgs_cons (hs := rfl) (rg_name (i := 3) sc__law_form.nd rfl (by first | exact Or.inl rfl | exact Or.inr rfl)) (rgs_cons (hs := rfl) (rg_name (i := 4) sc__law_form.nd rfl (by first | exact Or.inl rfl | exact Or.inr rfl)) rgs_nil))))
  (rss_cons (rs_set (i := 2) (hs := rfl) (hf := (by first | exact Or.inl rfl | exact Or.inr rfl)) sc__law_form.nd rfl (by first | exact Or.inl rfl | exact Or.inr rfl) (re_plus (re_plus (re_mul (re_mul (re_ix (hs := fun _ _ => rfl) (v 0) re_int) (v 4)) (v 4)) (re_mul (re_mul (re_ix (hs := fun _ _ => rfl) (v 0) re_int) (v 3)) (v 4))) (re_mul (re_mul (re_ix (hs := fun _ _ => rfl) (v 0) re_int) (v 3)) (v 3))))
  (rss_one (rs_ret (re_plus (re_mul (re_mul (v 2) (v 4)) (v 4)) (re_mul (re_mul (re_mul (re_plus (re_mul (re_ix (hs := fun _ _ => rfl) (v 0) re_int) (v 4)) (re_mul (re_ix (hs := fun _ _ => rfl) (v 0) re_int) (v 3))) (v 3)) (v 3)) (v 3)))))))
theorem ok__law_at {f : Addr} {fd : FuncData} (U : Fun K "_law_at" "_law_at" s__law_at f fd) (T : Tx K mg) (C__law_form : At P w K mg base 1 "_law_form" ["_law_row", "_law_slot_here"] F__law_form) (C__law_ratio : At P w K mg base 2 "_law_ratio" ["_law_top", "_law_under"] F__law_ratio_K36) : FnG P w K mg base 3 f fd ["_law_row", "_law_slot_here"] F__law_at_K36 := by
  refine fng_of (n0 := 0) (k := 2) U sc__law_at (fun cdv A outer s H E hg hr => ?_)
  exact (rss_cons (rs_set (i := 2) (hs := rfl) (hf := (by first | exact Or.inl rfl | exact Or.inr rfl)) sc__law_at.nd rfl (by first | exact Or.inl rfl | exact Or.inr rfl) (re_plus (re_mul (re_ix (hs := fun _ _ => rfl) (v 1) re_int) (re_ix (hs := fun _ _ => rfl) (v 1) re_int)) (re_mul (re_ix (hs := fun _ _ => rfl) (v 1) re_int) (re_ix (hs := fun _ _ => rfl) (v 1) re_int))))
  (rss_one (rs_ret (re_call (hdb := (by decide)) (he := sn_call) (hpl := rfl) C__law_ratio hg (hr.mono (by decide)) rfl (ra_cons (hs := sn_call) (re_call (hdb := (by decide)) (he := sn_name) (hpl := rfl) C__law_form hg (hr.mono (by decide)) rfl (ra_cons (hs := sn_name) (v 0) (ra_cons (hs := sn_name) (v 1) ra_nil))) (ra_cons (hs := sn_bin) (re_mul (re_mul (re_ix (hs := fun _ _ => rfl) (v 0) re_int) (v 2)) (v 2)) ra_nil))))))
theorem ok__law_quad {f : Addr} {fd : FuncData} (U : Fun K "_law_quad" "_law_quad" s__law_quad f fd) (T : Tx K mg) (C__law_about : At P w K mg base 2 "_law_about" ["_law_source_here", "_law_most"] F__law_about) (C__law_draw : At P w K mg base 1 "_law_draw" ["_law_source_here", "_law_top"] F__law_draw) (C__law_pick : At P w K mg base 2 "_law_pick" ["_law_source_here", "_law_some"] F__law_pick_K36) : FnG P w K mg base 3 f fd ["_law_source_here"] F__law_quad := by
  refine fng_of (n0 := 1) (k := 2) U sc__law_quad (fun cdv A outer s H E hg hr => ?_)
  exact (rss_cons (rs_par (i := 1) (j := 2) rfl sc__law_quad.nd rfl rfl (by decide) rfl rfl (ra_cons (hs := sn_call) (re_call (hdb := (by decide)) (he := sn_name) (hpl := rfl) C__law_draw hg (hr.mono (by decide)) rfl (ra_cel (i := 0) (hd := (by decide)) (hcd := (by decide)) (hs := sn_name) rfl (by first | exact Or.inl rfl | exact Or.inr (Or.inl rfl) | exact Or.inr (Or.inr rfl)) (ra_cons (hs := sn_const) re_int ra_nil))) (ra_cons (hs := sn_call) (re_call (hdb := (by decide)) (he := sn_name) (hpl := rfl) C__law_pick hg (hr.mono (by decide)) rfl (ra_cel (i := 0) (hd := (by decide)) (hcd := (by decide)) (hs := sn_name) rfl (by first | exact Or.inl rfl | exact Or.inr (Or.inl rfl) | exact Or.inr (Or.inr rfl)) (ra_cons (hs := sn_tup) (re_tup (ra_cons (hs := sn_const) re_int (ra_cons (hs := sn_const) re_int (ra_cons (hs := sn_const) re_int (ra_cons (hs := sn_const) re_int ra_nil))))) ra_nil))) ra_nil)) (P := ps_par (by rfl) sc__law_quad.nd rfl rfl (by decide) rfl rfl (pwA _) (by rfl)))
  (rss_cons (rs_par3 (i := 3) (j := 4) (l := 5) (ra_cons (hs := sn_call) (re_call (hdb := (by decide)) (he := sn_name) (hpl := rfl) C__law_about hg (hr.mono (by decide)) rfl (ra_cel (i := 0) (hd := (by decide)) (hcd := (by decide)) (hs := sn_name) rfl (by first | exact Or.inl rfl | exact Or.inr (Or.inl rfl) | exact Or.inr (Or.inr rfl)) (ra_cons (hs := sn_name) (v 2) ra_nil))) (ra_cons (hs := sn_call) (re_call (hdb := (by decide)) (he := sn_name) (hpl := rfl) C__law_about hg (hr.mono (by decide)) rfl (ra_cel (i := 0) (hd := (by decide)) (hcd := (by decide)) (hs := sn_name) rfl (by first | exact Or.inl rfl | exact Or.inr (Or.inl rfl) | exact Or.inr (Or.inr rfl)) (ra_cons (hs := sn_name) (v 2) ra_nil))) (ra_cons (hs := sn_call) (re_call (hdb := (by decide)) (he := sn_name) (hpl := rfl) C__law_about hg (hr.mono (by decide)) rfl (ra_cel (i := 0) (hd := (by decide)) (hcd := (by decide)) (hs := sn_name) rfl (by first | exact Or.inl rfl | exact Or.inr (Or.inl rfl) | exact Or.inr (Or.inr rfl)) (ra_cons (hs := sn_name) (v 2) ra_nil))) ra_nil))) (P := ps_par3 (by rfl) sc__law_quad.nd rfl rfl rfl (by decide) (by decide) (by decide) rfl rfl rfl (pwA _) (by rfl)))
  (rss_cons (rs_if (rt_eq (hu64 hr) (v 1) re_int) (rss_one (rs_ret (re_tup (ra_cons (hs := sn_bin) (re_mul (v 3) (v 3)) (ra_cons (hs := sn_bin) (re_mul (re_mul re_int (v 3)) (v 4)) (ra_cons (hs := sn_bin) (re_mul (v 4) (v 4)) ra_nil)))))) rss_nil)
  (rss_cons (rs_if (rt_eq (hu64 hr) (v 1) re_int) (rss_one (rs_ret (re_tup (ra_cons (hs := sn_bin) (re_mul (v 3) (v 4)) (ra_cons (hs := sn_bin) (re_plus (re_mul (v 3) (v 5)) (v 4)) (ra_cons (hs := sn_name) (v 5) ra_nil)))))) rss_nil)
  (rss_one (rs_ret (re_if (rt_lt (v 1) re_int) (re_tup (ra_cons (hs := sn_name) (v 3) (ra_cons (hs := sn_name) (v 4) (ra_cons (hs := sn_name) (v 5) ra_nil)))) (re_tup (ra_cons (hs := sn_bin) (re_plus re_int (re_mul (v 3) (v 3))) (ra_cons (hs := sn_bin) (re_sub re_int (re_mul re_int (v 3))) (ra_cons (hs := sn_const) re_int ra_nil)))))))))))
theorem ok__law_folded {f : Addr} {fd : FuncData} (U : Fun K "_law_folded" "_law_folded" s__law_folded f fd) (T : Tx K mg)  : FnG P w K mg base 1 f fd ["_law_one", "_law_two"] F__law_folded := by
  refine fng_of (n0 := 0) (k := 0) U sc__law_folded (fun cdv A outer s H E hg hr => ?_)
  exact (rss_one (rs_ret (re_ofL (rl_lst (ra_cons (hs := sn_bin) (re_mul (re_ix (hs := fun _ _ => rfl) (v 0) re_int) (re_ix (hs := fun _ _ => rfl) (v 1) re_int)) (ra_cons (hs := sn_bin) (re_plus (re_mul (re_ix (hs := fun _ _ => rfl) (v 0) re_int) (re_ix (hs := fun _ _ => rfl) (v 1) re_int)) (re_mul (re_ix (hs := fun _ _ => rfl) (v 0) re_int) (re_ix (hs := fun _ _ => rfl) (v 1) re_int))) (ra_cons (hs := sn_bin) (re_plus (re_plus (re_mul (re_ix (hs := fun _ _ => rfl) (v 0) re_int) (re_ix (hs := fun _ _ => rfl) (v 1) re_int)) (re_mul (re_ix (hs := fun _ _ => rfl) (v 0) re_int) (re_ix (hs := fun _ _ => rfl) (v 1) re_int))) (re_mul (re_ix (hs := fun _ _ => rfl) (v 0) re_int) (re_ix (hs := fun _ _ => rfl) (v 1) re_int))) (ra_cons (hs := sn_bin) (re_plus (re_mul (re_ix (hs := fun _ _ => rfl) (v 0) re_int) (re_ix (hs := fun _ _ => rfl) (v 1) re_int)) (re_mul (re_ix (hs := fun _ _ => rfl) (v 0) re_int) (re_ix (hs := fun _ _ => rfl) (v 1) re_int))) (ra_cons (hs := sn_bin) (re_mul (re_ix (hs := fun _ _ => rfl) (v 0) re_int) (re_ix (hs := fun _ _ => rfl) (v 1) re_int)) ra_nil)))))))))
theorem ok__law_course {f : Addr} {fd : FuncData} (U : Fun K "_law_course" "_law_course" s__law_course f fd) (T : Tx K mg) (C__law_about : At P w K mg base 2 "_law_about" ["_law_source_here", "_law_most"] F__law_about) (C__law_draw : At P w K mg base 1 "_law_draw" ["_law_source_here", "_law_top"] F__law_draw) (C__law_folded : At P w K mg base 1 "_law_folded" ["_law_one", "_law_two"] F__law_folded) (C__law_low : At P w K mg base 2 "_law_low" ["_law_row"] F__law_low_K36) (C__law_quad : At P w K mg base 3 "_law_quad" ["_law_source_here"] F__law_quad) (C__law_ratio : At P w K mg base 2 "_law_ratio" ["_law_top", "_law_under"] F__law_ratio_K36) : FnG P w K mg base 4 f fd ["_law_source_here"] F__law_course := by
  refine fng_of (n0 := 1) (k := 3) U sc__law_course (fun cdv A outer s H E hg hr => ?_)
  exact (rss_cons (rs_par3 (i := 5) (j := 6) (l := 7) (ra_cons (hs := sn_call) (re_call (hdb := (by decide)) (he := sn_name) (hpl := rfl) C__law_draw hg (hr.mono (by decide)) rfl (ra_cel (i := 0) (hd := (by decide)) (hcd := (by decide)) (hs := sn_name) rfl (by first | exact Or.inl rfl | exact Or.inr (Or.inl rfl) | exact Or.inr (Or.inr rfl)) (ra_cons (hs := sn_const) re_int ra_nil))) (ra_cons (hs := sn_call) (re_call (hdb := (by decide)) (he := sn_name) (hpl := rfl) C__law_about hg (hr.mono (by decide)) rfl (ra_cel (i := 0) (hd := (by decide)) (hcd := (by decide)) (hs := sn_name) rfl (by first | exact Or.inl rfl | exact Or.inr (Or.inl rfl) | exact Or.inr (Or.inr rfl)) (ra_cons (hs := sn_const) re_int ra_nil))) (ra_cons (hs := sn_bin) (re_plus re_int (re_call (hdb := (by decide)) (he := sn_name) (hpl := rfl) C__law_draw hg (hr.mono (by decide)) rfl (ra_cel (i := 0) (hd := (by decide)) (hcd := (by decide)) (hs := sn_name) rfl (by first | exact Or.inl rfl | exact Or.inr (Or.inl rfl) | exact Or.inr (Or.inr rfl)) (ra_cons (hs := sn_const) re_int ra_nil)))) ra_nil))) (P := ps_par3 (by rfl) sc__law_course.nd rfl rfl rfl (by decide) (by decide) (by decide) rfl rfl rfl (pwA _) (by rfl)))
  (rss_cons (rs_set (i := 1) (hs := rfl) (hf := (by first | exact Or.inl rfl | exact Or.inr rfl)) sc__law_course.nd rfl (by first | exact Or.inl rfl | exact Or.inr rfl) (re_call (hdb := (by decide)) (he := sn_name) (hpl := rfl) C__law_quad hg (hr.mono (by decide)) rfl (ra_cel (i := 0) (hd := (by decide)) (hcd := (by decide)) (hs := sn_name) rfl (by first | exact Or.inl rfl | exact Or.inr (Or.inl rfl) | exact Or.inr (Or.inr rfl)) ra_nil)))
  (rss_cons (rs_set (i := 2) (hs := rfl) (hf := (by first | exact Or.inl rfl | exact Or.inr rfl)) sc__law_course.nd rfl (by first | exact Or.inl rfl | exact Or.inr rfl) (re_if (rt_lt (v 5) re_int) (v 1) (re_call (hdb := (by decide)) (he := sn_name) (hpl := rfl) C__law_quad hg (hr.mono (by decide)) rfl (ra_cel (i := 0) (hd := (by decide)) (hcd := (by decide)) (hs := sn_name) rfl (by first | exact Or.inl rfl | exact Or.inr (Or.inl rfl) | exact Or.inr (Or.inr rfl)) ra_nil))))
  (rss_cons (rs_set (i := 3) (hs := rfl) (hf := (by first | exact Or.inl rfl | exact Or.inr rfl)) sc__law_course.nd rfl (by first | exact Or.inl rfl | exact Or.inr rfl) (re_call (hdb := (by decide)) (he := sn_name) (hpl := rfl) C__law_folded hg (hr.mono (by decide)) rfl (ra_cons (hs := sn_name) (v 1) (ra_cons (hs := sn_name) (v 2) ra_nil))))
  (rss_cons (rs_if (rt_eq (hu64 hr) (v 5) re_int) (rss_one (rs_set (i := 3) (hs := rfl) (hf := (by first | exact Or.inl rfl | exact Or.inr rfl)) sc__law_course.nd rfl (by first | exact Or.inl rfl | exact Or.inr rfl) (re_ofL (rl_lc (own := [("_law_part", 8)]) (hs := fun _ => rfl) rfl sc__law_course.nd (ri_seq (v 3)) (blkOk_by (N := n__law_course) (sc := defScope s__law_course) (by decide +kernel)) (fun _ _ _ _ _ => (rg_name (i := 8) sc__law_course.nd rfl (by first | exact Or.inl rfl | exact Or.inr rfl))) (fun _ _ _ _ _ => rts_nil) (fun _ _ _ _ _ => (re_sub re_int (v 8))) (by decide))))) rss_nil)
  (rss_cons (rs_if (rt_eq (hu64 hr) (v 5) re_int) (rss_one (rs_set (i := 3) (hs := rfl) (hf := (by first | exact Or.inl rfl | exact Or.inr rfl)) sc__law_course.nd rfl (by first | exact Or.inl rfl | exact Or.inr rfl) (re_ofL (rl_lc (own := [("_law_k", 9)]) (hs := fun _ => rfl) rfl sc__law_course.nd (ri_range1 (hs := rfl) rfl T.b_range (ra_cons (hs := sn_const) re_int ra_nil)) (blkOk_by (N := n__law_course) (sc := defScope s__law_course) (by decide +kernel)) (fun _ _ _ _ _ => (rg_name (i := 9) sc__law_course.nd rfl (by first | exact Or.inl rfl | exact Or.inr rfl))) (fun _ _ _ _ _ => rts_nil) (fun _ _ _ _ _ => (re_call (hdb := (by decide)) (he := sn_name) (hpl := rfl) C__law_about hg (hr.mono (by decide)) rfl (ra_cel (i := 0) (hd := (by decide)) (hcd := (by decide)) (hs := sn_name) rfl (by first | exact Or.inl rfl | exact Or.inr (Or.inl rfl) | exact Or.inr (Or.inr rfl)) (ra_cons (hs := sn_const) re_int ra_nil)))) (by decide))))) rss_nil)
  (rss_cons (rs_set (i := 4) (hs := rfl) (hf := (by first | exact Or.inl rfl | exact Or.inr rfl)) sc__law_course.nd rfl (by first | exact Or.inl rfl | exact Or.inr rfl) (re_ofL (rl_lst (ra_cons (hs := sn_name) (v 6) (ra_cons (hs := sn_const) re_int (ra_cons (hs := sn_bin) (re_mul re_int (v 6)) (ra_cons (hs := sn_const) re_int (ra_cons (hs := sn_name) (v 6) ra_nil))))))))
  (rss_one (rs_ret (re_tup (ra_cons (hs := sn_call) (re_call (hdb := (by decide)) (he := sn_bin) (hpl := rfl) C__law_low hg (hr.mono (by decide)) rfl (ra_cons (hs := sn_bin) (re_plus (re_ofL (rl_lc (own := [("_law_k", 9)]) (hs := fun _ => rfl) rfl sc__law_course.nd (ri_range1 (hs := rfl) rfl T.b_range (ra_cons (hs := sn_const) re_int ra_nil)) (blkOk_by (N := n__law_course) (sc := defScope s__law_course) (by decide +kernel)) (fun _ _ _ _ _ => (rg_name (i := 9) sc__law_course.nd rfl (by first | exact Or.inl rfl | exact Or.inr rfl))) (fun _ _ _ _ _ => rts_nil) (fun _ _ _ _ _ => (re_plus (re_ix (hs := fun _ _ => rfl) (v 3) (v 9)) (re_ix (hs := fun _ _ => rfl) (v 4) (v 9)))) (by decide))) (re_ofL (rl_lst (ra_cons (hs := sn_name) (v 7) ra_nil)))) ra_nil)) (ra_cons (hs := sn_call) (re_call (hdb := (by decide)) (he := sn_name) (hpl := rfl) C__law_ratio hg (hr.mono (by decide)) rfl (ra_cons (hs := sn_name) (v 6) (ra_cons (hs := sn_name) (v 7) ra_nil))) ra_nil))))))))))))
theorem ok__law_is_turned {f : Addr} {fd : FuncData} (U : Fun K "_law_is_turned" "_law_is_turned" s__law_is_turned f fd) (T : Tx K mg) (C__law_at : At P w K mg base 3 "_law_at" ["_law_row", "_law_slot_here"] F__law_at_K36) (C__law_low : At P w K mg base 2 "_law_low" ["_law_row"] F__law_low_K36) (C__law_summed : At P w K mg base 4 "_law_summed" ["_law_one", "_law_two"] F__law_summed) (C_is_course : At P w K mg base 4 "is_course" ["value"] F_is_course) (C_level_at : At P w K mg base 6 "level_at" ["course", "setting"] F_level_at) : FnG P w K mg base 7 f fd ["_law_told", "_law_row", "_law_slot_here", "_law_more"] F__law_is_turned := by
  refine fng_of (n0 := 0) (k := 6) U sc__law_is_turned (fun cdv A outer s H E hg hr => ?_)
  exact (rss_cons (rs_if (rt_w (rw_or (rt_not (rt_val (he := fun _ => rfl) (re_isi (he := sn_name) (he2 := sn_name) (hpl := rfl) (hnT := (by decide)) (hdT := (by decide)) rfl T.b_isinstance rfl T.b_tuple (by decide +kernel) (v 0)))) (rw_or (rt_ne (hu64 hr) (re_len (he := sn_name) rfl T.b_len (ra_cons (hs := sn_name) (v 0) ra_nil)) re_int) (rw_or1 (rt_not (rt_val (he := fun _ => rfl) (re_call (hdb := (by decide)) (he := sn_name) (hpl := rfl) C_is_course hg (hr.mono (by decide)) rfl (ra_cons (hs := sn_name) (v 0) ra_nil)))))))) (rss_one (rs_ret re_bl)) rss_nil)
  (rss_cons (rs_if (rt_ne (hu64 hr) (re_ofL (rl_lc (own := [("_law_part", 6)]) (hs := fun _ => rfl) rfl sc__law_is_turned.nd (ri_seq (v 0)) (blkOk_by (N := n__law_is_turned) (sc := defScope s__law_is_turned) (by decide +kernel)) (fun _ _ _ _ _ => (rg_name (i := 6) sc__law_is_turned.nd rfl (by first | exact Or.inl rfl | exact Or.inr rfl))) (fun _ _ _ _ _ => (rts_one (rt_w (rw_or (rt_not (rt_val (he := fun _ => rfl) (re_isi (he := sn_name) (he2 := sn_name) (hpl := rfl) (hnT := (by decide)) (hdT := (by decide)) rfl T.b_isinstance rfl T.b_int (by decide +kernel) (v 6)))) (rw_or1 (rt_val (he := fun _ => rfl) (re_isi (he := sn_name) (he2 := sn_name) (hpl := rfl) (hnT := (by decide)) (hdT := (by decide)) rfl T.b_isinstance rfl T.b_bool (by decide +kernel) (v 6)))))))) (fun _ _ _ _ _ => (v 6)) (by decide))) (re_ofL (rl_lst ra_nil))) (rss_one (rs_ret re_bl)) rss_nil)
  (rss_cons (rs_if (rt_w (rw_or (rt_lt (re_ix (hs := fun _ _ => rfl) (v 0) re_int) re_int) (rw_or1 (rt_ne (hu64 hr) (re_call (hdb := (by decide)) (he := sn_name) (hpl := rfl) C__law_low hg (hr.mono (by decide)) rfl (ra_cons (hs := sn_name) (v 0) ra_nil)) (v 0))))) (rss_one (rs_ret re_bl)) rss_nil)
  (rss_cons (rs_for (hs := fun _ => rfl) PassesOwn.never rfl (ri_seq (re_tup (ra_cons (hs := sn_tup) (re_tup (ra_cons (hs := sn_const) re_int (ra_cons (hs := sn_const) re_int ra_nil))) (ra_cons (hs := sn_tup) (re_tup (ra_cons (hs := sn_const) re_int (ra_cons (hs := sn_const) re_int ra_nil))) (ra_cons (hs := sn_tup) (re_tup (ra_cons (hs := sn_un) (re_neg re_int) (ra_cons (hs := sn_const) re_int ra_nil))) (ra_cons (hs := sn_tup) (re_tup (ra_cons (hs := sn_const) re_int (ra_cons (hs := sn_const) re_int ra_nil))) (ra_cons (hs := sn_tup) (re_tup (ra_cons (hs := sn_const) re_int (ra_cons (hs := sn_const) re_int ra_nil))) (ra_cons (hs := sn_name) (v 3) ra_nil)))))))) (rg_name (i := 4) sc__law_is_turned.nd rfl (by first | exact Or.inl rfl | exact Or.inr rfl)) (fun _ => (rss_cons (rs_set (i := 5) (hs := rfl) (hf := (by first | exact Or.inl rfl | exact Or.inr rfl)) sc__law_is_turned.nd rfl (by first | exact Or.inl rfl | exact Or.inr rfl) (re_call (hdb := (by decide)) (he := sn_name) (hpl := rfl) C__law_at hg (hr.mono (by decide)) rfl (ra_cons (hs := sn_name) (v 1) (ra_cons (hs := sn_call) (re_call (hdb := (by decide)) (he := sn_name) (hpl := rfl) C__law_summed hg (hr.mono (by decide)) rfl (ra_cons (hs := sn_name) (v 4) (ra_cons (hs := sn_name) (v 2) ra_nil))) ra_nil))))
  (rss_one (rs_if (rt_w (rw_or (rt_ne (hu64 hr) (re_call (hdb := (by decide)) (he := sn_name) (hpl := rfl) C__law_at hg (hr.mono (by decide)) rfl (ra_cons (hs := sn_name) (v 0) (ra_cons (hs := sn_name) (v 4) ra_nil))) (v 5)) (rw_or1 (rt_ne (hu64 hr) (re_repr (he := sn_call) hg (hu64 hr) rfl T.b_repr (ra_cons (hs := sn_call) (re_call (hdb := (by decide)) (he := sn_name) (hpl := rfl) C_level_at hg (hr.mono (by decide)) rfl (ra_cons (hs := sn_name) (v 0) (ra_cons (hs := sn_name) (v 4) ra_nil))) ra_nil)) (re_repr (he := sn_name) hg (hu64 hr) rfl T.b_repr (ra_cons (hs := sn_name) (v 5) ra_nil)))))) (rss_one (rs_ret re_bl)) rss_nil)))))
  (rss_one (rs_ret re_bl))))))
theorem ok__law_right {f : Addr} {fd : FuncData} (U : Fun K "_law_right" "_law_right" s__law_right f fd) (T : Tx K mg) (C__law_course : At P w K mg base 4 "_law_course" ["_law_source_here"] F__law_course) (C__law_is_turned : At P w K mg base 7 "_law_is_turned" ["_law_told", "_law_row", "_law_slot_here", "_law_more"] F__law_is_turned) (C__law_ratio : At P w K mg base 2 "_law_ratio" ["_law_top", "_law_under"] F__law_ratio_K36) (C__law_slot : At P w K mg base 3 "_law_slot" ["_law_source_here"] F__law_slot) (C__law_summed : At P w K mg base 4 "_law_summed" ["_law_one", "_law_two"] F__law_summed) (C_course_parts : At P w K mg base 6 "course_parts" ["course"] F_course_parts) (C_setting_back : At P w K mg base 6 "setting_back" ["setting"] F_setting_back) (C_setting_sum : At P w K mg base 6 "setting_sum" ["setting", "other"] F_setting_sum) (C_turned_course : At P w K mg base 6 "turned_course" ["course", "setting"] F_turned_course) (C_turned_course_by10 : AtP P w K mg base 6 "turned_course" ["course", "setting"] ["setting", "course"] [1, 0] F_turned_course) : FnG P w K mg base 8 f fd ["_law_source_here"] F__law_right_K36 := by
  refine fng_of (n0 := 1) (k := 7) U sc__law_right (fun cdv A outer s H E hg hr => ?_)
  exact (rss_cons (rs_set (i := 1) (hs := rfl) (hf := (by first | exact Or.inl rfl | exact Or.inr rfl)) sc__law_right.nd rfl (by first | exact Or.inl rfl | exact Or.inr rfl) (re_ix (hs := fun _ _ => rfl) (re_call (hdb := (by decide)) (he := sn_name) (hpl := rfl) C__law_course hg (hr.mono (by decide)) rfl (ra_cel (i := 0) (hd := (by decide)) (hcd := (by decide)) (hs := sn_name) rfl (by first | exact Or.inl rfl | exact Or.inr (Or.inl rfl) | exact Or.inr (Or.inr rfl)) ra_nil)) re_int))
  (rss_cons (rs_par (i := 4) (j := 5) rfl sc__law_right.nd rfl rfl (by decide) rfl rfl (ra_cons (hs := sn_call) (re_call (hdb := (by decide)) (he := sn_name) (hpl := rfl) C__law_slot hg (hr.mono (by decide)) rfl (ra_cel (i := 0) (hd := (by decide)) (hcd := (by decide)) (hs := sn_name) rfl (by first | exact Or.inl rfl | exact Or.inr (Or.inl rfl) | exact Or.inr (Or.inr rfl)) ra_nil)) (ra_cons (hs := sn_call) (re_call (hdb := (by decide)) (he := sn_name) (hpl := rfl) C__law_slot hg (hr.mono (by decide)) rfl (ra_cel (i := 0) (hd := (by decide)) (hcd := (by decide)) (hs := sn_name) rfl (by first | exact Or.inl rfl | exact Or.inr (Or.inl rfl) | exact Or.inr (Or.inr rfl)) ra_nil)) ra_nil)) (P := ps_par (by rfl) sc__law_right.nd rfl rfl (by decide) rfl rfl (pwA _) (by rfl)))
  (rss_cons (rs_par3 (i := 6) (j := 7) (l := 8) (ra_cons (hs := sn_call) (re_call (hdb := (by decide)) (he := sn_name) (hpl := rfl) C_turned_course hg (hr.mono (by decide)) rfl (ra_cons (hs := sn_name) (v 1) (ra_cons (hs := sn_name) (v 4) ra_nil))) (ra_cons (hs := sn_call) (re_call (hdb := (by decide)) (he := sn_name) (hpl := rfl) C__law_slot hg (hr.mono (by decide)) rfl (ra_cel (i := 0) (hd := (by decide)) (hcd := (by decide)) (hs := sn_name) rfl (by first | exact Or.inl rfl | exact Or.inr (Or.inl rfl) | exact Or.inr (Or.inr rfl)) ra_nil)) (ra_cons (hs := sn_call) (re_call (hdb := (by decide)) (he := sn_name) (hpl := rfl) C__law_summed hg (hr.mono (by decide)) rfl (ra_cons (hs := sn_name) (v 4) (ra_cons (hs := sn_name) (v 5) ra_nil))) ra_nil))) (P := ps_par3 (by rfl) sc__law_right.nd rfl rfl rfl (by decide) (by decide) (by decide) rfl rfl rfl (pwA _) (by rfl)))
  (rss_cons (rs_if (rt_w (rw_or (rt_not (rt_val (he := fun _ => rfl) (re_call (hdb := (by decide)) (he := sn_name) (hpl := rfl) C__law_is_turned hg (hr.mono (by decide)) rfl (ra_cons (hs := sn_name) (v 6) (ra_cons (hs := sn_name) (v 1) (ra_cons (hs := sn_name) (v 4) (ra_cons (hs := sn_name) (v 7) ra_nil))))))) (rw_or1 (rt_not (rt_val (he := fun _ => rfl) (re_call (hdb := (by decide)) (he := sn_call) (hpl := rfl) C__law_is_turned hg (hr.mono (by decide)) rfl (ra_cons (hs := sn_call) (re_call (hdb := (by decide)) (he := sn_name) (hpl := rfl) C_turned_course hg (hr.mono (by decide)) rfl (ra_cons (hs := sn_name) (v 6) (ra_cons (hs := sn_name) (v 5) ra_nil))) (ra_cons (hs := sn_name) (v 1) (ra_cons (hs := sn_name) (v 8) (ra_cons (hs := sn_name) (v 7) ra_nil)))))))))) (rss_one (rs_ret re_bl)) rss_nil)
  (rss_cons (rs_set (i := 2) (hs := rfl) (hf := (by first | exact Or.inl rfl | exact Or.inr rfl)) sc__law_right.nd rfl (by first | exact Or.inl rfl | exact Or.inr rfl) (re_call (hdb := (by decide)) (he := sn_call) (hpl := rfl) C_turned_course hg (hr.mono (by decide)) rfl (ra_cons (hs := sn_call) (re_call (hdb := (by decide)) (he := sn_name) (hpl := rfl) C_turned_course hg (hr.mono (by decide)) rfl (ra_cons (hs := sn_name) (v 1) (ra_cons (hs := sn_name) (v 5) ra_nil))) (ra_cons (hs := sn_name) (v 4) ra_nil))))
  (rss_cons (rs_set (i := 3) (hs := rfl) (hf := (by first | exact Or.inl rfl | exact Or.inr rfl)) sc__law_right.nd rfl (by first | exact Or.inl rfl | exact Or.inr rfl) (re_ofL (rl_lst (ra_cons (hs := sn_call) (re_callkp (hall := rfl) (hks := rfl) (hdb := (by decide)) (hpl := rfl) C_turned_course_by10 hg (hr.mono (by decide)) rfl (rk_cons (v 4) (rk_cons (v 1) rk_nil))) (ra_cons (hs := sn_call) (re_call (hdb := (by decide)) (he := sn_name) (hpl := rfl) C_turned_course hg (hr.mono (by decide)) rfl (ra_cons (hs := sn_name) (v 1) (ra_cons (hs := sn_tup) (re_tup (ra_cons (hs := sn_const) re_int (ra_cons (hs := sn_const) re_int ra_nil))) ra_nil))) (ra_cons (hs := sn_call) (re_call (hdb := (by decide)) (he := sn_name) (hpl := rfl) C_turned_course hg (hr.mono (by decide)) rfl (ra_cons (hs := sn_name) (v 6) (ra_cons (hs := sn_call) (re_call (hdb := (by decide)) (he := sn_name) (hpl := rfl) C_setting_back hg (hr.mono (by decide)) rfl (ra_cons (hs := sn_name) (v 4) ra_nil)) ra_nil))) ra_nil))))))
  (rss_cons (rs_if (rt_w (rw_or (rt_ne (hu64 hr) (re_repr (he := sn_name) hg (hu64 hr) rfl T.b_repr (ra_cons (hs := sn_name) (v 3) ra_nil)) (re_repr (he := sn_list) hg (hu64 hr) rfl T.b_repr (ra_cons (hs := sn_list) (re_ofL (rl_lst (ra_cons (hs := sn_name) (v 6) (ra_cons (hs := sn_name) (v 1) (ra_cons (hs := sn_name) (v 1) ra_nil))))) ra_nil))) (rw_or1 (rt_ne (hu64 hr) (re_repr (he := sn_call) hg (hu64 hr) rfl T.b_repr (ra_cons (hs := sn_call) (re_call (hdb := (by decide)) (he := sn_name) (hpl := rfl) C_turned_course hg (hr.mono (by decide)) rfl (ra_cons (hs := sn_name) (v 1) (ra_cons (hs := sn_call) (re_call (hdb := (by decide)) (he := sn_name) (hpl := rfl) C_setting_sum hg (hr.mono (by decide)) rfl (ra_cons (hs := sn_name) (v 4) (ra_cons (hs := sn_name) (v 5) ra_nil))) ra_nil))) ra_nil)) (re_repr (he := sn_name) hg (hu64 hr) rfl T.b_repr (ra_cons (hs := sn_name) (v 2) ra_nil)))))) (rss_one (rs_ret re_bl)) rss_nil)
  (rss_one (rs_ret (re_eq (hu64 hr) (re_repr (he := sn_sub) hg (hu64 hr) rfl T.b_repr (ra_cons (hs := sn_sub) (re_ix (hs := fun _ _ => rfl) (re_call (hdb := (by decide)) (he := sn_name) (hpl := rfl) C_course_parts hg (hr.mono (by decide)) rfl (ra_cons (hs := sn_name) (v 6) ra_nil)) re_int) ra_nil)) (re_repr (he := sn_call) hg (hu64 hr) rfl T.b_repr (ra_cons (hs := sn_call) (re_call (hdb := (by decide)) (he := sn_bin) (hpl := rfl) C__law_ratio hg (hr.mono (by decide)) rfl (ra_cons (hs := sn_bin) (re_plus (re_plus (re_mul re_int (re_ix (hs := fun _ _ => rfl) (v 1) re_int)) (re_ix (hs := fun _ _ => rfl) (v 1) re_int)) (re_mul re_int (re_ix (hs := fun _ _ => rfl) (v 1) re_int))) (ra_cons (hs := sn_bin) (re_mul re_int (re_ix (hs := fun _ _ => rfl) (v 1) re_int)) ra_nil))) ra_nil))))))))))))
theorem ok_law {f : Addr} {fd : FuncData} (U : Fun K "law" "law" s_law f fd) (T : Tx K mg) (C__law_right : At P w K mg base 8 "_law_right" ["_law_source_here"] F__law_right_K36) (C__law_source : At P w K mg base 1 "_law_source" ["_law_script", "_law_at_here"] F__law_source) : FnG P w K mg base 9 f fd ["_law_script"] F_law_K36 := by
  refine fng_of (n0 := 0) (k := 8) U sc_law (fun cdv A outer s H E hg hr => ?_)
  exact (rss_one (rs_ret (re_all (he := sn_lc) rfl rfl T.b_all (ra_cons (hs := sn_lc) (re_ofL (rl_lc (own := [("_law_k", 1)]) (hs := fun _ => rfl) rfl sc_law.nd (ri_range1 (hs := rfl) rfl T.b_range (ra_cons (hs := sn_call) (re_max (he := sn_const) (hpl := rfl) rfl rfl T.b_max (ra_cons (hs := sn_const) re_int (ra_cons (hs := sn_call) (re_min (he := sn_call) (hpl := rfl) rfl rfl T.b_min (ra_cons (hs := sn_call) (re_len (he := sn_name) rfl T.b_len (ra_cons (hs := sn_name) (v 0) ra_nil)) (ra_cons (hs := sn_const) re_int ra_nil))) ra_nil))) ra_nil)) (blkOk_by (N := n_law) (sc := defScope s_law) (by decide +kernel)) (fun _ _ _ _ _ => (rg_name (i := 1) sc_law.nd rfl (by first | exact Or.inl rfl | exact Or.inr rfl))) (fun _ _ _ _ _ => rts_nil) (fun _ _ _ _ _ => (re_callFr (hdb := (by decide)) (he := sn_call) (hpl := rfl) C__law_right hg (hr.mono (by decide)) rfl (rl_call (hdb := (by decide)) (he := sn_name) (hpl := rfl) C__law_source hg (hr.mono (by decide)) rfl (ra_cons (hs := sn_name) (v 0) (ra_cons (hs := sn_name) (v 1) ra_nil))))) (by decide))) ra_nil))))
end K36


set_option Elab.async false
set_option linter.all false
set_option maxRecDepth 100000
set_option maxHeartbeats 400000
namespace K36
open PySem PySem.Spec L2 DL
open PyProof.Rows hiding St
open PL
theorem bk_is_whole {kV doc pm : Value} {an : Option Addr} {cdv ct : Value} (us : List Value) (hl : us.length = ["value"].length) (i : Nat) (hi : i ≤ (["value"] : List Str).length) : bindArgs (PySem.W.fnOf "is_whole" "is_whole" (defArgs s_is_whole) (defBody s_is_whole) (defScope s_is_whole) .none kV doc pm an cdv ct) ⟨us.take i, ((["value"] : List Str).drop i).zip (us.drop i)⟩ = pure ((["value"] : List Str).zip us) := by
  match us, hl with
  | [_], _ => match i, hi with
    | 0, _ => rfl
    | 1, _ => rfl
    | k + 2, h => exact absurd h (by simp only [List.length_cons, List.length_nil]; omega)
theorem bk_is_row {kV doc pm : Value} {an : Option Addr} {cdv ct : Value} (us : List Value) (hl : us.length = ["value", "many"].length) (i : Nat) (hi : i ≤ (["value", "many"] : List Str).length) : bindArgs (PySem.W.fnOf "is_row" "is_row" (defArgs s_is_row) (defBody s_is_row) (defScope s_is_row) .none kV doc pm an cdv ct) ⟨us.take i, ((["value", "many"] : List Str).drop i).zip (us.drop i)⟩ = pure ((["value", "many"] : List Str).zip us) := by
  match us, hl with
  | [_, _], _ => match i, hi with
    | 0, _ => rfl
    | 1, _ => rfl
    | 2, _ => rfl
    | k + 3, h => exact absurd h (by simp only [List.length_cons, List.length_nil]; omega)
theorem bk_divisor_of {kV doc pm : Value} {an : Option Addr} {cdv ct : Value} (us : List Value) (hl : us.length = ["numbers"].length) (i : Nat) (hi : i ≤ (["numbers"] : List Str).length) : bindArgs (PySem.W.fnOf "divisor_of" "divisor_of" (defArgs s_divisor_of) (defBody s_divisor_of) (defScope s_divisor_of) .none kV doc pm an cdv ct) ⟨us.take i, ((["numbers"] : List Str).drop i).zip (us.drop i)⟩ = pure ((["numbers"] : List Str).zip us) := by
  match us, hl with
  | [_], _ => match i, hi with
    | 0, _ => rfl
    | 1, _ => rfl
    | k + 2, h => exact absurd h (by simp only [List.length_cons, List.length_nil]; omega)
theorem bk_is_reduced_row {kV doc pm : Value} {an : Option Addr} {cdv ct : Value} (us : List Value) (hl : us.length = ["value", "many"].length) (i : Nat) (hi : i ≤ (["value", "many"] : List Str).length) : bindArgs (PySem.W.fnOf "is_reduced_row" "is_reduced_row" (defArgs s_is_reduced_row) (defBody s_is_reduced_row) (defScope s_is_reduced_row) .none kV doc pm an cdv ct) ⟨us.take i, ((["value", "many"] : List Str).drop i).zip (us.drop i)⟩ = pure ((["value", "many"] : List Str).zip us) := by
  match us, hl with
  | [_, _], _ => match i, hi with
    | 0, _ => rfl
    | 1, _ => rfl
    | 2, _ => rfl
    | k + 3, h => exact absurd h (by simp only [List.length_cons, List.length_nil]; omega)
theorem bk_reduced {kV doc pm : Value} {an : Option Addr} {cdv ct : Value} (us : List Value) (hl : us.length = ["numbers"].length) (i : Nat) (hi : i ≤ (["numbers"] : List Str).length) : bindArgs (PySem.W.fnOf "reduced" "reduced" (defArgs s_reduced) (defBody s_reduced) (defScope s_reduced) .none kV doc pm an cdv ct) ⟨us.take i, ((["numbers"] : List Str).drop i).zip (us.drop i)⟩ = pure ((["numbers"] : List Str).zip us) := by
  match us, hl with
  | [_], _ => match i, hi with
    | 0, _ => rfl
    | 1, _ => rfl
    | k + 2, h => exact absurd h (by simp only [List.length_cons, List.length_nil]; omega)
theorem bk_dot {kV doc pm : Value} {an : Option Addr} {cdv ct : Value} (us : List Value) (hl : us.length = ["row", "other"].length) (i : Nat) (hi : i ≤ (["row", "other"] : List Str).length) : bindArgs (PySem.W.fnOf "dot" "dot" (defArgs s_dot) (defBody s_dot) (defScope s_dot) .none kV doc pm an cdv ct) ⟨us.take i, ((["row", "other"] : List Str).drop i).zip (us.drop i)⟩ = pure ((["row", "other"] : List Str).zip us) := by
  match us, hl with
  | [_, _], _ => match i, hi with
    | 0, _ => rfl
    | 1, _ => rfl
    | 2, _ => rfl
    | k + 3, h => exact absurd h (by simp only [List.length_cons, List.length_nil]; omega)
theorem bk_combined {kV doc pm : Value} {an : Option Addr} {cdv ct : Value} (us : List Value) (hl : us.length = ["one", "row", "two", "other"].length) (i : Nat) (hi : i ≤ (["one", "row", "two", "other"] : List Str).length) : bindArgs (PySem.W.fnOf "combined" "combined" (defArgs s_combined) (defBody s_combined) (defScope s_combined) .none kV doc pm an cdv ct) ⟨us.take i, ((["one", "row", "two", "other"] : List Str).drop i).zip (us.drop i)⟩ = pure ((["one", "row", "two", "other"] : List Str).zip us) := by
  match us, hl with
  | [_, _, _, _], _ => match i, hi with
    | 0, _ => rfl
    | 1, _ => rfl
    | 2, _ => rfl
    | 3, _ => rfl
    | 4, _ => rfl
    | k + 5, h => exact absurd h (by simp only [List.length_cons, List.length_nil]; omega)
theorem bk_ratio {kV doc pm : Value} {an : Option Addr} {cdv ct : Value} (us : List Value) (hl : us.length = ["p", "q"].length) (i : Nat) (hi : i ≤ (["p", "q"] : List Str).length) : bindArgs (PySem.W.fnOf "ratio" "ratio" (defArgs s_ratio) (defBody s_ratio) (defScope s_ratio) .none kV doc pm an cdv ct) ⟨us.take i, ((["p", "q"] : List Str).drop i).zip (us.drop i)⟩ = pure ((["p", "q"] : List Str).zip us) := by
  match us, hl with
  | [_, _], _ => match i, hi with
    | 0, _ => rfl
    | 1, _ => rfl
    | 2, _ => rfl
    | k + 3, h => exact absurd h (by simp only [List.length_cons, List.length_nil]; omega)
theorem bk_trimmed {kV doc pm : Value} {an : Option Addr} {cdv ct : Value} (us : List Value) (hl : us.length = ["polynomial"].length) (i : Nat) (hi : i ≤ (["polynomial"] : List Str).length) : bindArgs (PySem.W.fnOf "trimmed" "trimmed" (defArgs s_trimmed) (defBody s_trimmed) (defScope s_trimmed) .none kV doc pm an cdv ct) ⟨us.take i, ((["polynomial"] : List Str).drop i).zip (us.drop i)⟩ = pure ((["polynomial"] : List Str).zip us) := by
  match us, hl with
  | [_], _ => match i, hi with
    | 0, _ => rfl
    | 1, _ => rfl
    | k + 2, h => exact absurd h (by simp only [List.length_cons, List.length_nil]; omega)
theorem bk_polynomial_product {kV doc pm : Value} {an : Option Addr} {cdv ct : Value} (us : List Value) (hl : us.length = ["one", "two"].length) (i : Nat) (hi : i ≤ (["one", "two"] : List Str).length) : bindArgs (PySem.W.fnOf "polynomial_product" "polynomial_product" (defArgs s_polynomial_product) (defBody s_polynomial_product) (defScope s_polynomial_product) .none kV doc pm an cdv ct) ⟨us.take i, ((["one", "two"] : List Str).drop i).zip (us.drop i)⟩ = pure ((["one", "two"] : List Str).zip us) := by
  match us, hl with
  | [_, _], _ => match i, hi with
    | 0, _ => rfl
    | 1, _ => rfl
    | 2, _ => rfl
    | k + 3, h => exact absurd h (by simp only [List.length_cons, List.length_nil]; omega)
theorem bk_value_at {kV doc pm : Value} {an : Option Addr} {cdv ct : Value} (us : List Value) (hl : us.length = ["polynomial", "point"].length) (i : Nat) (hi : i ≤ (["polynomial", "point"] : List Str).length) : bindArgs (PySem.W.fnOf "value_at" "value_at" (defArgs s_value_at) (defBody s_value_at) (defScope s_value_at) .none kV doc pm an cdv ct) ⟨us.take i, ((["polynomial", "point"] : List Str).drop i).zip (us.drop i)⟩ = pure ((["polynomial", "point"] : List Str).zip us) := by
  match us, hl with
  | [_, _], _ => match i, hi with
    | 0, _ => rfl
    | 1, _ => rfl
    | 2, _ => rfl
    | k + 3, h => exact absurd h (by simp only [List.length_cons, List.length_nil]; omega)
theorem bk_is_setting {kV doc pm : Value} {an : Option Addr} {cdv ct : Value} (us : List Value) (hl : us.length = ["value"].length) (i : Nat) (hi : i ≤ (["value"] : List Str).length) : bindArgs (PySem.W.fnOf "is_setting" "is_setting" (defArgs s_is_setting) (defBody s_is_setting) (defScope s_is_setting) .none kV doc pm an cdv ct) ⟨us.take i, ((["value"] : List Str).drop i).zip (us.drop i)⟩ = pure ((["value"] : List Str).zip us) := by
  match us, hl with
  | [_], _ => match i, hi with
    | 0, _ => rfl
    | 1, _ => rfl
    | k + 2, h => exact absurd h (by simp only [List.length_cons, List.length_nil]; omega)
theorem bk_check_setting {kV doc pm : Value} {an : Option Addr} {cdv ct : Value} (us : List Value) (hl : us.length = ["value"].length) (i : Nat) (hi : i ≤ (["value"] : List Str).length) : bindArgs (PySem.W.fnOf "check_setting" "check_setting" (defArgs s_check_setting) (defBody s_check_setting) (defScope s_check_setting) .none kV doc pm an cdv ct) ⟨us.take i, ((["value"] : List Str).drop i).zip (us.drop i)⟩ = pure ((["value"] : List Str).zip us) := by
  match us, hl with
  | [_], _ => match i, hi with
    | 0, _ => rfl
    | 1, _ => rfl
    | k + 2, h => exact absurd h (by simp only [List.length_cons, List.length_nil]; omega)
theorem bk_is_course {kV doc pm : Value} {an : Option Addr} {cdv ct : Value} (us : List Value) (hl : us.length = ["value"].length) (i : Nat) (hi : i ≤ (["value"] : List Str).length) : bindArgs (PySem.W.fnOf "is_course" "is_course" (defArgs s_is_course) (defBody s_is_course) (defScope s_is_course) .none kV doc pm an cdv ct) ⟨us.take i, ((["value"] : List Str).drop i).zip (us.drop i)⟩ = pure ((["value"] : List Str).zip us) := by
  match us, hl with
  | [_], _ => match i, hi with
    | 0, _ => rfl
    | 1, _ => rfl
    | k + 2, h => exact absurd h (by simp only [List.length_cons, List.length_nil]; omega)
theorem bk_check_course {kV doc pm : Value} {an : Option Addr} {cdv ct : Value} (us : List Value) (hl : us.length = ["value"].length) (i : Nat) (hi : i ≤ (["value"] : List Str).length) : bindArgs (PySem.W.fnOf "check_course" "check_course" (defArgs s_check_course) (defBody s_check_course) (defScope s_check_course) .none kV doc pm an cdv ct) ⟨us.take i, ((["value"] : List Str).drop i).zip (us.drop i)⟩ = pure ((["value"] : List Str).zip us) := by
  match us, hl with
  | [_], _ => match i, hi with
    | 0, _ => rfl
    | 1, _ => rfl
    | k + 2, h => exact absurd h (by simp only [List.length_cons, List.length_nil]; omega)
theorem bk__length_of {kV doc pm : Value} {an : Option Addr} {cdv ct : Value} (us : List Value) (hl : us.length = ["setting"].length) (i : Nat) (hi : i ≤ (["setting"] : List Str).length) : bindArgs (PySem.W.fnOf "_length_of" "_length_of" (defArgs s__length_of) (defBody s__length_of) (defScope s__length_of) .none kV doc pm an cdv ct) ⟨us.take i, ((["setting"] : List Str).drop i).zip (us.drop i)⟩ = pure ((["setting"] : List Str).zip us) := by
  match us, hl with
  | [_], _ => match i, hi with
    | 0, _ => rfl
    | 1, _ => rfl
    | k + 2, h => exact absurd h (by simp only [List.length_cons, List.length_nil]; omega)
theorem bk_level_at {kV doc pm : Value} {an : Option Addr} {cdv ct : Value} (us : List Value) (hl : us.length = ["course", "setting"].length) (i : Nat) (hi : i ≤ (["course", "setting"] : List Str).length) : bindArgs (PySem.W.fnOf "level_at" "level_at" (defArgs s_level_at) (defBody s_level_at) (defScope s_level_at) .none kV doc pm an cdv ct) ⟨us.take i, ((["course", "setting"] : List Str).drop i).zip (us.drop i)⟩ = pure ((["course", "setting"] : List Str).zip us) := by
  match us, hl with
  | [_, _], _ => match i, hi with
    | 0, _ => rfl
    | 1, _ => rfl
    | 2, _ => rfl
    | k + 3, h => exact absurd h (by simp only [List.length_cons, List.length_nil]; omega)
theorem bk__power {kV doc pm : Value} {an : Option Addr} {cdv ct : Value} (us : List Value) (hl : us.length = ["polynomial", "many"].length) (i : Nat) (hi : i ≤ (["polynomial", "many"] : List Str).length) : bindArgs (PySem.W.fnOf "_power" "_power" (defArgs s__power) (defBody s__power) (defScope s__power) .none kV doc pm an cdv ct) ⟨us.take i, ((["polynomial", "many"] : List Str).drop i).zip (us.drop i)⟩ = pure ((["polynomial", "many"] : List Str).zip us) := by
  match us, hl with
  | [_, _], _ => match i, hi with
    | 0, _ => rfl
    | 1, _ => rfl
    | 2, _ => rfl
    | k + 3, h => exact absurd h (by simp only [List.length_cons, List.length_nil]; omega)
theorem bk__weighed_course {kV doc pm : Value} {an : Option Addr} {cdv ct : Value} (us : List Value) (hl : us.length = ["rows", "weights"].length) (i : Nat) (hi : i ≤ (["rows", "weights"] : List Str).length) : bindArgs (PySem.W.fnOf "_weighed_course" "_weighed_course" (defArgs s__weighed_course) (defBody s__weighed_course) (defScope s__weighed_course) .none kV doc pm an cdv ct) ⟨us.take i, ((["rows", "weights"] : List Str).drop i).zip (us.drop i)⟩ = pure ((["rows", "weights"] : List Str).zip us) := by
  match us, hl with
  | [_, _], _ => match i, hi with
    | 0, _ => rfl
    | 1, _ => rfl
    | 2, _ => rfl
    | k + 3, h => exact absurd h (by simp only [List.length_cons, List.length_nil]; omega)
theorem bk_turned_course {kV doc pm : Value} {an : Option Addr} {cdv ct : Value} (us : List Value) (hl : us.length = ["course", "setting"].length) (i : Nat) (hi : i ≤ (["course", "setting"] : List Str).length) : bindArgs (PySem.W.fnOf "turned_course" "turned_course" (defArgs s_turned_course) (defBody s_turned_course) (defScope s_turned_course) .none kV doc pm an cdv ct) ⟨us.take i, ((["course", "setting"] : List Str).drop i).zip (us.drop i)⟩ = pure ((["course", "setting"] : List Str).zip us) := by
  match us, hl with
  | [_, _], _ => match i, hi with
    | 0, _ => rfl
    | 1, _ => rfl
    | 2, _ => rfl
    | k + 3, h => exact absurd h (by simp only [List.length_cons, List.length_nil]; omega)
theorem bk_course_parts {kV doc pm : Value} {an : Option Addr} {cdv ct : Value} (us : List Value) (hl : us.length = ["course"].length) (i : Nat) (hi : i ≤ (["course"] : List Str).length) : bindArgs (PySem.W.fnOf "course_parts" "course_parts" (defArgs s_course_parts) (defBody s_course_parts) (defScope s_course_parts) .none kV doc pm an cdv ct) ⟨us.take i, ((["course"] : List Str).drop i).zip (us.drop i)⟩ = pure ((["course"] : List Str).zip us) := by
  match us, hl with
  | [_], _ => match i, hi with
    | 0, _ => rfl
    | 1, _ => rfl
    | k + 2, h => exact absurd h (by simp only [List.length_cons, List.length_nil]; omega)
theorem bk_setting_sum {kV doc pm : Value} {an : Option Addr} {cdv ct : Value} (us : List Value) (hl : us.length = ["setting", "other"].length) (i : Nat) (hi : i ≤ (["setting", "other"] : List Str).length) : bindArgs (PySem.W.fnOf "setting_sum" "setting_sum" (defArgs s_setting_sum) (defBody s_setting_sum) (defScope s_setting_sum) .none kV doc pm an cdv ct) ⟨us.take i, ((["setting", "other"] : List Str).drop i).zip (us.drop i)⟩ = pure ((["setting", "other"] : List Str).zip us) := by
  match us, hl with
  | [_, _], _ => match i, hi with
    | 0, _ => rfl
    | 1, _ => rfl
    | 2, _ => rfl
    | k + 3, h => exact absurd h (by simp only [List.length_cons, List.length_nil]; omega)
theorem bk_setting_back {kV doc pm : Value} {an : Option Addr} {cdv ct : Value} (us : List Value) (hl : us.length = ["setting"].length) (i : Nat) (hi : i ≤ (["setting"] : List Str).length) : bindArgs (PySem.W.fnOf "setting_back" "setting_back" (defArgs s_setting_back) (defBody s_setting_back) (defScope s_setting_back) .none kV doc pm an cdv ct) ⟨us.take i, ((["setting"] : List Str).drop i).zip (us.drop i)⟩ = pure ((["setting"] : List Str).zip us) := by
  match us, hl with
  | [_], _ => match i, hi with
    | 0, _ => rfl
    | 1, _ => rfl
    | k + 2, h => exact absurd h (by simp only [List.length_cons, List.length_nil]; omega)
theorem bk__law_source {kV doc pm : Value} {an : Option Addr} {cdv ct : Value} (us : List Value) (hl : us.length = ["_law_script", "_law_at_here"].length) (i : Nat) (hi : i ≤ (["_law_script", "_law_at_here"] : List Str).length) : bindArgs (PySem.W.fnOf "_law_source" "_law_source" (defArgs s__law_source) (defBody s__law_source) (defScope s__law_source) .none kV doc pm an cdv ct) ⟨us.take i, ((["_law_script", "_law_at_here"] : List Str).drop i).zip (us.drop i)⟩ = pure ((["_law_script", "_law_at_here"] : List Str).zip us) := by
  match us, hl with
  | [_, _], _ => match i, hi with
    | 0, _ => rfl
    | 1, _ => rfl
    | 2, _ => rfl
    | k + 3, h => exact absurd h (by simp only [List.length_cons, List.length_nil]; omega)
theorem bk__law_draw {kV doc pm : Value} {an : Option Addr} {cdv ct : Value} (us : List Value) (hl : us.length = ["_law_source_here", "_law_top"].length) (i : Nat) (hi : i ≤ (["_law_source_here", "_law_top"] : List Str).length) : bindArgs (PySem.W.fnOf "_law_draw" "_law_draw" (defArgs s__law_draw) (defBody s__law_draw) (defScope s__law_draw) .none kV doc pm an cdv ct) ⟨us.take i, ((["_law_source_here", "_law_top"] : List Str).drop i).zip (us.drop i)⟩ = pure ((["_law_source_here", "_law_top"] : List Str).zip us) := by
  match us, hl with
  | [_, _], _ => match i, hi with
    | 0, _ => rfl
    | 1, _ => rfl
    | 2, _ => rfl
    | k + 3, h => exact absurd h (by simp only [List.length_cons, List.length_nil]; omega)
theorem bk__law_pick {kV doc pm : Value} {an : Option Addr} {cdv ct : Value} (us : List Value) (hl : us.length = ["_law_source_here", "_law_some"].length) (i : Nat) (hi : i ≤ (["_law_source_here", "_law_some"] : List Str).length) : bindArgs (PySem.W.fnOf "_law_pick" "_law_pick" (defArgs s__law_pick) (defBody s__law_pick) (defScope s__law_pick) .none kV doc pm an cdv ct) ⟨us.take i, ((["_law_source_here", "_law_some"] : List Str).drop i).zip (us.drop i)⟩ = pure ((["_law_source_here", "_law_some"] : List Str).zip us) := by
  match us, hl with
  | [_, _], _ => match i, hi with
    | 0, _ => rfl
    | 1, _ => rfl
    | 2, _ => rfl
    | k + 3, h => exact absurd h (by simp only [List.length_cons, List.length_nil]; omega)
theorem bk__law_about {kV doc pm : Value} {an : Option Addr} {cdv ct : Value} (us : List Value) (hl : us.length = ["_law_source_here", "_law_most"].length) (i : Nat) (hi : i ≤ (["_law_source_here", "_law_most"] : List Str).length) : bindArgs (PySem.W.fnOf "_law_about" "_law_about" (defArgs s__law_about) (defBody s__law_about) (defScope s__law_about) .none kV doc pm an cdv ct) ⟨us.take i, ((["_law_source_here", "_law_most"] : List Str).drop i).zip (us.drop i)⟩ = pure ((["_law_source_here", "_law_most"] : List Str).zip us) := by
  match us, hl with
  | [_, _], _ => match i, hi with
    | 0, _ => rfl
    | 1, _ => rfl
    | 2, _ => rfl
    | k + 3, h => exact absurd h (by simp only [List.length_cons, List.length_nil]; omega)
theorem bk__law_common {kV doc pm : Value} {an : Option Addr} {cdv ct : Value} (us : List Value) (hl : us.length = ["_law_row"].length) (i : Nat) (hi : i ≤ (["_law_row"] : List Str).length) : bindArgs (PySem.W.fnOf "_law_common" "_law_common" (defArgs s__law_common) (defBody s__law_common) (defScope s__law_common) .none kV doc pm an cdv ct) ⟨us.take i, ((["_law_row"] : List Str).drop i).zip (us.drop i)⟩ = pure ((["_law_row"] : List Str).zip us) := by
  match us, hl with
  | [_], _ => match i, hi with
    | 0, _ => rfl
    | 1, _ => rfl
    | k + 2, h => exact absurd h (by simp only [List.length_cons, List.length_nil]; omega)
theorem bk__law_low {kV doc pm : Value} {an : Option Addr} {cdv ct : Value} (us : List Value) (hl : us.length = ["_law_row"].length) (i : Nat) (hi : i ≤ (["_law_row"] : List Str).length) : bindArgs (PySem.W.fnOf "_law_low" "_law_low" (defArgs s__law_low) (defBody s__law_low) (defScope s__law_low) .none kV doc pm an cdv ct) ⟨us.take i, ((["_law_row"] : List Str).drop i).zip (us.drop i)⟩ = pure ((["_law_row"] : List Str).zip us) := by
  match us, hl with
  | [_], _ => match i, hi with
    | 0, _ => rfl
    | 1, _ => rfl
    | k + 2, h => exact absurd h (by simp only [List.length_cons, List.length_nil]; omega)
theorem bk__law_ratio {kV doc pm : Value} {an : Option Addr} {cdv ct : Value} (us : List Value) (hl : us.length = ["_law_top", "_law_under"].length) (i : Nat) (hi : i ≤ (["_law_top", "_law_under"] : List Str).length) : bindArgs (PySem.W.fnOf "_law_ratio" "_law_ratio" (defArgs s__law_ratio) (defBody s__law_ratio) (defScope s__law_ratio) .none kV doc pm an cdv ct) ⟨us.take i, ((["_law_top", "_law_under"] : List Str).drop i).zip (us.drop i)⟩ = pure ((["_law_top", "_law_under"] : List Str).zip us) := by
  match us, hl with
  | [_, _], _ => match i, hi with
    | 0, _ => rfl
    | 1, _ => rfl
    | 2, _ => rfl
    | k + 3, h => exact absurd h (by simp only [List.length_cons, List.length_nil]; omega)
theorem bk__law_slot {kV doc pm : Value} {an : Option Addr} {cdv ct : Value} (us : List Value) (hl : us.length = ["_law_source_here"].length) (i : Nat) (hi : i ≤ (["_law_source_here"] : List Str).length) : bindArgs (PySem.W.fnOf "_law_slot" "_law_slot" (defArgs s__law_slot) (defBody s__law_slot) (defScope s__law_slot) .none kV doc pm an cdv ct) ⟨us.take i, ((["_law_source_here"] : List Str).drop i).zip (us.drop i)⟩ = pure ((["_law_source_here"] : List Str).zip us) := by
  match us, hl with
  | [_], _ => match i, hi with
    | 0, _ => rfl
    | 1, _ => rfl
    | k + 2, h => exact absurd h (by simp only [List.length_cons, List.length_nil]; omega)
theorem bk__law_signed {kV doc pm : Value} {an : Option Addr} {cdv ct : Value} (us : List Value) (hl : us.length = ["_law_pair"].length) (i : Nat) (hi : i ≤ (["_law_pair"] : List Str).length) : bindArgs (PySem.W.fnOf "_law_signed" "_law_signed" (defArgs s__law_signed) (defBody s__law_signed) (defScope s__law_signed) .none kV doc pm an cdv ct) ⟨us.take i, ((["_law_pair"] : List Str).drop i).zip (us.drop i)⟩ = pure ((["_law_pair"] : List Str).zip us) := by
  match us, hl with
  | [_], _ => match i, hi with
    | 0, _ => rfl
    | 1, _ => rfl
    | k + 2, h => exact absurd h (by simp only [List.length_cons, List.length_nil]; omega)
theorem bk__law_summed {kV doc pm : Value} {an : Option Addr} {cdv ct : Value} (us : List Value) (hl : us.length = ["_law_one", "_law_two"].length) (i : Nat) (hi : i ≤ (["_law_one", "_law_two"] : List Str).length) : bindArgs (PySem.W.fnOf "_law_summed" "_law_summed" (defArgs s__law_summed) (defBody s__law_summed) (defScope s__law_summed) .none kV doc pm an cdv ct) ⟨us.take i, ((["_law_one", "_law_two"] : List Str).drop i).zip (us.drop i)⟩ = pure ((["_law_one", "_law_two"] : List Str).zip us) := by
  match us, hl with
  | [_, _], _ => match i, hi with
    | 0, _ => rfl
    | 1, _ => rfl
    | 2, _ => rfl
    | k + 3, h => exact absurd h (by simp only [List.length_cons, List.length_nil]; omega)
theorem bk__law_form {kV doc pm : Value} {an : Option Addr} {cdv ct : Value} (us : List Value) (hl : us.length = ["_law_row", "_law_slot_here"].length) (i : Nat) (hi : i ≤ (["_law_row", "_law_slot_here"] : List Str).length) : bindArgs (PySem.W.fnOf "_law_form" "_law_form" (defArgs s__law_form) (defBody s__law_form) (defScope s__law_form) .none kV doc pm an cdv ct) ⟨us.take i, ((["_law_row", "_law_slot_here"] : List Str).drop i).zip (us.drop i)⟩ = pure ((["_law_row", "_law_slot_here"] : List Str).zip us) := by
  match us, hl with
  | [_, _], _ => match i, hi with
    | 0, _ => rfl
    | 1, _ => rfl
    | 2, _ => rfl
    | k + 3, h => exact absurd h (by simp only [List.length_cons, List.length_nil]; omega)
theorem bk__law_at {kV doc pm : Value} {an : Option Addr} {cdv ct : Value} (us : List Value) (hl : us.length = ["_law_row", "_law_slot_here"].length) (i : Nat) (hi : i ≤ (["_law_row", "_law_slot_here"] : List Str).length) : bindArgs (PySem.W.fnOf "_law_at" "_law_at" (defArgs s__law_at) (defBody s__law_at) (defScope s__law_at) .none kV doc pm an cdv ct) ⟨us.take i, ((["_law_row", "_law_slot_here"] : List Str).drop i).zip (us.drop i)⟩ = pure ((["_law_row", "_law_slot_here"] : List Str).zip us) := by
  match us, hl with
  | [_, _], _ => match i, hi with
    | 0, _ => rfl
    | 1, _ => rfl
    | 2, _ => rfl
    | k + 3, h => exact absurd h (by simp only [List.length_cons, List.length_nil]; omega)
theorem bk__law_quad {kV doc pm : Value} {an : Option Addr} {cdv ct : Value} (us : List Value) (hl : us.length = ["_law_source_here"].length) (i : Nat) (hi : i ≤ (["_law_source_here"] : List Str).length) : bindArgs (PySem.W.fnOf "_law_quad" "_law_quad" (defArgs s__law_quad) (defBody s__law_quad) (defScope s__law_quad) .none kV doc pm an cdv ct) ⟨us.take i, ((["_law_source_here"] : List Str).drop i).zip (us.drop i)⟩ = pure ((["_law_source_here"] : List Str).zip us) := by
  match us, hl with
  | [_], _ => match i, hi with
    | 0, _ => rfl
    | 1, _ => rfl
    | k + 2, h => exact absurd h (by simp only [List.length_cons, List.length_nil]; omega)
theorem bk__law_folded {kV doc pm : Value} {an : Option Addr} {cdv ct : Value} (us : List Value) (hl : us.length = ["_law_one", "_law_two"].length) (i : Nat) (hi : i ≤ (["_law_one", "_law_two"] : List Str).length) : bindArgs (PySem.W.fnOf "_law_folded" "_law_folded" (defArgs s__law_folded) (defBody s__law_folded) (defScope s__law_folded) .none kV doc pm an cdv ct) ⟨us.take i, ((["_law_one", "_law_two"] : List Str).drop i).zip (us.drop i)⟩ = pure ((["_law_one", "_law_two"] : List Str).zip us) := by
  match us, hl with
  | [_, _], _ => match i, hi with
    | 0, _ => rfl
    | 1, _ => rfl
    | 2, _ => rfl
    | k + 3, h => exact absurd h (by simp only [List.length_cons, List.length_nil]; omega)
theorem bk__law_course {kV doc pm : Value} {an : Option Addr} {cdv ct : Value} (us : List Value) (hl : us.length = ["_law_source_here"].length) (i : Nat) (hi : i ≤ (["_law_source_here"] : List Str).length) : bindArgs (PySem.W.fnOf "_law_course" "_law_course" (defArgs s__law_course) (defBody s__law_course) (defScope s__law_course) .none kV doc pm an cdv ct) ⟨us.take i, ((["_law_source_here"] : List Str).drop i).zip (us.drop i)⟩ = pure ((["_law_source_here"] : List Str).zip us) := by
  match us, hl with
  | [_], _ => match i, hi with
    | 0, _ => rfl
    | 1, _ => rfl
    | k + 2, h => exact absurd h (by simp only [List.length_cons, List.length_nil]; omega)
theorem bk__law_is_turned {kV doc pm : Value} {an : Option Addr} {cdv ct : Value} (us : List Value) (hl : us.length = ["_law_told", "_law_row", "_law_slot_here", "_law_more"].length) (i : Nat) (hi : i ≤ (["_law_told", "_law_row", "_law_slot_here", "_law_more"] : List Str).length) : bindArgs (PySem.W.fnOf "_law_is_turned" "_law_is_turned" (defArgs s__law_is_turned) (defBody s__law_is_turned) (defScope s__law_is_turned) .none kV doc pm an cdv ct) ⟨us.take i, ((["_law_told", "_law_row", "_law_slot_here", "_law_more"] : List Str).drop i).zip (us.drop i)⟩ = pure ((["_law_told", "_law_row", "_law_slot_here", "_law_more"] : List Str).zip us) := by
  match us, hl with
  | [_, _, _, _], _ => match i, hi with
    | 0, _ => rfl
    | 1, _ => rfl
    | 2, _ => rfl
    | 3, _ => rfl
    | 4, _ => rfl
    | k + 5, h => exact absurd h (by simp only [List.length_cons, List.length_nil]; omega)
theorem bk__law_right {kV doc pm : Value} {an : Option Addr} {cdv ct : Value} (us : List Value) (hl : us.length = ["_law_source_here"].length) (i : Nat) (hi : i ≤ (["_law_source_here"] : List Str).length) : bindArgs (PySem.W.fnOf "_law_right" "_law_right" (defArgs s__law_right) (defBody s__law_right) (defScope s__law_right) .none kV doc pm an cdv ct) ⟨us.take i, ((["_law_source_here"] : List Str).drop i).zip (us.drop i)⟩ = pure ((["_law_source_here"] : List Str).zip us) := by
  match us, hl with
  | [_], _ => match i, hi with
    | 0, _ => rfl
    | 1, _ => rfl
    | k + 2, h => exact absurd h (by simp only [List.length_cons, List.length_nil]; omega)
theorem bp_turned_course_by10 {kV doc pm : Value} {an : Option Addr} {cdv ct : Value} (us : List Value) (hl : us.length = [1, 0].length) : bindArgs (PySem.W.fnOf "turned_course" "turned_course" (defArgs s_turned_course) (defBody s_turned_course) (defScope s_turned_course) .none kV doc pm an cdv ct) ⟨[], (["setting", "course"] : List Str).zip us⟩ = pure ((["course", "setting"] : List Str).zip (perm [1, 0] us)) := by
  match us, hl with
  | [_, _], _ => rfl
theorem all_mk {l : PySem.W.OpenLaw} {w : World} {K : PySem.W.Frag} {h : Heap} {mg : Str → Option Value} {fa : Addr} {f_is_whole : Addr} {od_is_whole an_is_whole : Option Addr} {sl_is_whole : Array (Option Value)} {oc_is_whole kV_is_whole dc_is_whole pm_is_whole cd_is_whole ct_is_whole : Value} {f_is_row : Addr} {od_is_row an_is_row : Option Addr} {sl_is_row : Array (Option Value)} {oc_is_row kV_is_row dc_is_row pm_is_row cd_is_row ct_is_row : Value} {f_divisor_of : Addr} {od_divisor_of an_divisor_of : Option Addr} {sl_divisor_of : Array (Option Value)} {oc_divisor_of kV_divisor_of dc_divisor_of pm_divisor_of cd_divisor_of ct_divisor_of : Value} {f_is_reduced_row : Addr} {od_is_reduced_row an_is_reduced_row : Option Addr} {sl_is_reduced_row : Array (Option Value)} {oc_is_reduced_row kV_is_reduced_row dc_is_reduced_row pm_is_reduced_row cd_is_reduced_row ct_is_reduced_row : Value} {f_reduced : Addr} {od_reduced an_reduced : Option Addr} {sl_reduced : Array (Option Value)} {oc_reduced kV_reduced dc_reduced pm_reduced cd_reduced ct_reduced : Value} {f_dot : Addr} {od_dot an_dot : Option Addr} {sl_dot : Array (Option Value)} {oc_dot kV_dot dc_dot pm_dot cd_dot ct_dot : Value} {f_combined : Addr} {od_combined an_combined : Option Addr} {sl_combined : Array (Option Value)} {oc_combined kV_combined dc_combined pm_combined cd_combined ct_combined : Value} {f_ratio : Addr} {od_ratio an_ratio : Option Addr} {sl_ratio : Array (Option Value)} {oc_ratio kV_ratio dc_ratio pm_ratio cd_ratio ct_ratio : Value} {f_trimmed : Addr} {od_trimmed an_trimmed : Option Addr} {sl_trimmed : Array (Option Value)} {oc_trimmed kV_trimmed dc_trimmed pm_trimmed cd_trimmed ct_trimmed : Value} {f_polynomial_product : Addr} {od_polynomial_product an_polynomial_product : Option Addr} {sl_polynomial_product : Array (Option Value)} {oc_polynomial_product kV_polynomial_product dc_polynomial_product pm_polynomial_product cd_polynomial_product ct_polynomial_product : Value} {f_value_at : Addr} {od_value_at an_value_at : Option Addr} {sl_value_at : Array (Option Value)} {oc_value_at kV_value_at dc_value_at pm_value_at cd_value_at ct_value_at : Value} {f_is_setting : Addr} {od_is_setting an_is_setting : Option Addr} {sl_is_setting : Array (Option Value)} {oc_is_setting kV_is_setting dc_is_setting pm_is_setting cd_is_setting ct_is_setting : Value} {f_check_setting : Addr} {od_check_setting an_check_setting : Option Addr} {sl_check_setting : Array (Option Value)} {oc_check_setting kV_check_setting dc_check_setting pm_check_setting cd_check_setting ct_check_setting : Value} {f_is_course : Addr} {od_is_course an_is_course : Option Addr} {sl_is_course : Array (Option Value)} {oc_is_course kV_is_course dc_is_course pm_is_course cd_is_course ct_is_course : Value} {f_check_course : Addr} {od_check_course an_check_course : Option Addr} {sl_check_course : Array (Option Value)} {oc_check_course kV_check_course dc_check_course pm_check_course cd_check_course ct_check_course : Value} {f__length_of : Addr} {od__length_of an__length_of : Option Addr} {sl__length_of : Array (Option Value)} {oc__length_of kV__length_of dc__length_of pm__length_of cd__length_of ct__length_of : Value} {f_level_at : Addr} {od_level_at an_level_at : Option Addr} {sl_level_at : Array (Option Value)} {oc_level_at kV_level_at dc_level_at pm_level_at cd_level_at ct_level_at : Value} {f__power : Addr} {od__power an__power : Option Addr} {sl__power : Array (Option Value)} {oc__power kV__power dc__power pm__power cd__power ct__power : Value} {f__weighed_course : Addr} {od__weighed_course an__weighed_course : Option Addr} {sl__weighed_course : Array (Option Value)} {oc__weighed_course kV__weighed_course dc__weighed_course pm__weighed_course cd__weighed_course ct__weighed_course : Value} {f_turned_course : Addr} {od_turned_course an_turned_course : Option Addr} {sl_turned_course : Array (Option Value)} {oc_turned_course kV_turned_course dc_turned_course pm_turned_course cd_turned_course ct_turned_course : Value} {f_course_parts : Addr} {od_course_parts an_course_parts : Option Addr} {sl_course_parts : Array (Option Value)} {oc_course_parts kV_course_parts dc_course_parts pm_course_parts cd_course_parts ct_course_parts : Value} {f_setting_sum : Addr} {od_setting_sum an_setting_sum : Option Addr} {sl_setting_sum : Array (Option Value)} {oc_setting_sum kV_setting_sum dc_setting_sum pm_setting_sum cd_setting_sum ct_setting_sum : Value} {f_setting_back : Addr} {od_setting_back an_setting_back : Option Addr} {sl_setting_back : Array (Option Value)} {oc_setting_back kV_setting_back dc_setting_back pm_setting_back cd_setting_back ct_setting_back : Value} {f__law_source : Addr} {od__law_source an__law_source : Option Addr} {sl__law_source : Array (Option Value)} {oc__law_source kV__law_source dc__law_source pm__law_source cd__law_source ct__law_source : Value} {f__law_draw : Addr} {od__law_draw an__law_draw : Option Addr} {sl__law_draw : Array (Option Value)} {oc__law_draw kV__law_draw dc__law_draw pm__law_draw cd__law_draw ct__law_draw : Value} {f__law_pick : Addr} {od__law_pick an__law_pick : Option Addr} {sl__law_pick : Array (Option Value)} {oc__law_pick kV__law_pick dc__law_pick pm__law_pick cd__law_pick ct__law_pick : Value} {f__law_about : Addr} {od__law_about an__law_about : Option Addr} {sl__law_about : Array (Option Value)} {oc__law_about kV__law_about dc__law_about pm__law_about cd__law_about ct__law_about : Value} {f__law_common : Addr} {od__law_common an__law_common : Option Addr} {sl__law_common : Array (Option Value)} {oc__law_common kV__law_common dc__law_common pm__law_common cd__law_common ct__law_common : Value} {f__law_low : Addr} {od__law_low an__law_low : Option Addr} {sl__law_low : Array (Option Value)} {oc__law_low kV__law_low dc__law_low pm__law_low cd__law_low ct__law_low : Value} {f__law_ratio : Addr} {od__law_ratio an__law_ratio : Option Addr} {sl__law_ratio : Array (Option Value)} {oc__law_ratio kV__law_ratio dc__law_ratio pm__law_ratio cd__law_ratio ct__law_ratio : Value} {f__law_slot : Addr} {od__law_slot an__law_slot : Option Addr} {sl__law_slot : Array (Option Value)} {oc__law_slot kV__law_slot dc__law_slot pm__law_slot cd__law_slot ct__law_slot : Value} {f__law_signed : Addr} {od__law_signed an__law_signed : Option Addr} {sl__law_signed : Array (Option Value)} {oc__law_signed kV__law_signed dc__law_signed pm__law_signed cd__law_signed ct__law_signed : Value} {f__law_summed : Addr} {od__law_summed an__law_summed : Option Addr} {sl__law_summed : Array (Option Value)} {oc__law_summed kV__law_summed dc__law_summed pm__law_summed cd__law_summed ct__law_summed : Value} {f__law_form : Addr} {od__law_form an__law_form : Option Addr} {sl__law_form : Array (Option Value)} {oc__law_form kV__law_form dc__law_form pm__law_form cd__law_form ct__law_form : Value} {f__law_at : Addr} {od__law_at an__law_at : Option Addr} {sl__law_at : Array (Option Value)} {oc__law_at kV__law_at dc__law_at pm__law_at cd__law_at ct__law_at : Value} {f__law_quad : Addr} {od__law_quad an__law_quad : Option Addr} {sl__law_quad : Array (Option Value)} {oc__law_quad kV__law_quad dc__law_quad pm__law_quad cd__law_quad ct__law_quad : Value} {f__law_folded : Addr} {od__law_folded an__law_folded : Option Addr} {sl__law_folded : Array (Option Value)} {oc__law_folded kV__law_folded dc__law_folded pm__law_folded cd__law_folded ct__law_folded : Value} {f__law_course : Addr} {od__law_course an__law_course : Option Addr} {sl__law_course : Array (Option Value)} {oc__law_course kV__law_course dc__law_course pm__law_course cd__law_course ct__law_course : Value} {f__law_is_turned : Addr} {od__law_is_turned an__law_is_turned : Option Addr} {sl__law_is_turned : Array (Option Value)} {oc__law_is_turned kV__law_is_turned dc__law_is_turned pm__law_is_turned cd__law_is_turned ct__law_is_turned : Value} {f__law_right : Addr} {od__law_right an__law_right : Option Addr} {sl__law_right : Array (Option Value)} {oc__law_right kV__law_right dc__law_right pm__law_right cd__law_right ct__law_right : Value} {f_law : Addr} {od_law an_law : Option Addr} {sl_law : Array (Option Value)} {oc_law kV_law dc_law pm_law cd_law ct_law : Value} {tk_q_ROWS_OF_PARTS1 : Tok} {tk_q_ROWS_OF_PARTS2 : Tok} {tk_q_ROWS_OF_PARTS3 : Tok} {tk_q_ROWS_OF_PARTS4 : Tok} {tk_q_ROWS_OF_PARTS5 : Tok} {a_q_ROWS_OF_PARTS5 : Addr} {dd_q_ROWS_OF_PARTS5 : Option Addr} {n_q_ROWS_OF_PARTS5 : Nat} {sl_q_ROWS_OF_PARTS5 : Array (Option Value)} {tk_q_ROWS_OF_PARTS7 : Tok} {tk_q_ROWS_OF_PARTS8 : Tok} {tk_q_ROWS_OF_PARTS9 : Tok} {tk_q_ROWS_OF_PARTS10 : Tok} {tk_q_ROWS_OF_PARTS11 : Tok} {a_q_ROWS_OF_PARTS11 : Addr} {dd_q_ROWS_OF_PARTS11 : Option Addr} {n_q_ROWS_OF_PARTS11 : Nat} {sl_q_ROWS_OF_PARTS11 : Array (Option Value)} {tk_q_ROWS_OF_PARTS13 : Tok} {tk_q_ROWS_OF_PARTS14 : Tok} {tk_q_ROWS_OF_PARTS15 : Tok} {tk_q_ROWS_OF_PARTS16 : Tok} {tk_q_ROWS_OF_PARTS17 : Tok} {a_q_ROWS_OF_PARTS17 : Addr} {dd_q_ROWS_OF_PARTS17 : Option Addr} {n_q_ROWS_OF_PARTS17 : Nat} {sl_q_ROWS_OF_PARTS17 : Array (Option Value)} {tk_q_ROWS_OF_PARTS19 : Tok} {tk_q_ROWS_OF_PARTS20 : Tok} {tk_q_ROWS_OF_PARTS21 : Tok} {tk_q_ROWS_OF_PARTS22 : Tok} {tk_q_ROWS_OF_PARTS23 : Tok} {a_q_ROWS_OF_PARTS23 : Addr} {dd_q_ROWS_OF_PARTS23 : Option Addr} {n_q_ROWS_OF_PARTS23 : Nat} {sl_q_ROWS_OF_PARTS23 : Array (Option Value)} {tk_q_ROWS_OF_PARTS25 : Tok} {tk_q_ROWS_OF_PARTS26 : Tok} {tk_q_ROWS_OF_PARTS27 : Tok} {tk_q_ROWS_OF_PARTS28 : Tok} {tk_q_ROWS_OF_PARTS29 : Tok} {a_q_ROWS_OF_PARTS29 : Addr} {dd_q_ROWS_OF_PARTS29 : Option Addr} {n_q_ROWS_OF_PARTS29 : Nat} {sl_q_ROWS_OF_PARTS29 : Array (Option Value)} {a_q_ROWS_OF_PARTS30 : Addr} {dd_q_ROWS_OF_PARTS30 : Option Addr} {n_q_ROWS_OF_PARTS30 : Nat} {sl_q_ROWS_OF_PARTS30 : Array (Option Value)} (X : K.In h) (G : h.Ns mainGlobals mg) (hfa : mg "law" = some (.ref fa))
    (a_is_whole : PySem.W.nsIn K mainGlobals "is_whole" = some (some (.ref f_is_whole)))
    (l_is_whole : K.lookup f_is_whole = some ⟨oc_is_whole, od_is_whole, .func (PySem.W.fnOf "is_whole" "is_whole" (defArgs s_is_whole) (defBody s_is_whole) (defScope s_is_whole) .none kV_is_whole dc_is_whole pm_is_whole an_is_whole cd_is_whole ct_is_whole), sl_is_whole⟩)
    (c_is_whole : PySem.W.codeIn K cd_is_whole "is_whole" = true)
    (k_is_whole : PySem.W.keepIn K (.ref f_is_whole) = true)
    (a_is_row : PySem.W.nsIn K mainGlobals "is_row" = some (some (.ref f_is_row)))
    (l_is_row : K.lookup f_is_row = some ⟨oc_is_row, od_is_row, .func (PySem.W.fnOf "is_row" "is_row" (defArgs s_is_row) (defBody s_is_row) (defScope s_is_row) .none kV_is_row dc_is_row pm_is_row an_is_row cd_is_row ct_is_row), sl_is_row⟩)
    (c_is_row : PySem.W.codeIn K cd_is_row "is_row" = true)
    (k_is_row : PySem.W.keepIn K (.ref f_is_row) = true)
    (a_divisor_of : PySem.W.nsIn K mainGlobals "divisor_of" = some (some (.ref f_divisor_of)))
    (l_divisor_of : K.lookup f_divisor_of = some ⟨oc_divisor_of, od_divisor_of, .func (PySem.W.fnOf "divisor_of" "divisor_of" (defArgs s_divisor_of) (defBody s_divisor_of) (defScope s_divisor_of) .none kV_divisor_of dc_divisor_of pm_divisor_of an_divisor_of cd_divisor_of ct_divisor_of), sl_divisor_of⟩)
    (c_divisor_of : PySem.W.codeIn K cd_divisor_of "divisor_of" = true)
    (k_divisor_of : PySem.W.keepIn K (.ref f_divisor_of) = true)
    (a_is_reduced_row : PySem.W.nsIn K mainGlobals "is_reduced_row" = some (some (.ref f_is_reduced_row)))
    (l_is_reduced_row : K.lookup f_is_reduced_row = some ⟨oc_is_reduced_row, od_is_reduced_row, .func (PySem.W.fnOf "is_reduced_row" "is_reduced_row" (defArgs s_is_reduced_row) (defBody s_is_reduced_row) (defScope s_is_reduced_row) .none kV_is_reduced_row dc_is_reduced_row pm_is_reduced_row an_is_reduced_row cd_is_reduced_row ct_is_reduced_row), sl_is_reduced_row⟩)
    (c_is_reduced_row : PySem.W.codeIn K cd_is_reduced_row "is_reduced_row" = true)
    (k_is_reduced_row : PySem.W.keepIn K (.ref f_is_reduced_row) = true)
    (a_reduced : PySem.W.nsIn K mainGlobals "reduced" = some (some (.ref f_reduced)))
    (l_reduced : K.lookup f_reduced = some ⟨oc_reduced, od_reduced, .func (PySem.W.fnOf "reduced" "reduced" (defArgs s_reduced) (defBody s_reduced) (defScope s_reduced) .none kV_reduced dc_reduced pm_reduced an_reduced cd_reduced ct_reduced), sl_reduced⟩)
    (c_reduced : PySem.W.codeIn K cd_reduced "reduced" = true)
    (k_reduced : PySem.W.keepIn K (.ref f_reduced) = true)
    (a_dot : PySem.W.nsIn K mainGlobals "dot" = some (some (.ref f_dot)))
    (l_dot : K.lookup f_dot = some ⟨oc_dot, od_dot, .func (PySem.W.fnOf "dot" "dot" (defArgs s_dot) (defBody s_dot) (defScope s_dot) .none kV_dot dc_dot pm_dot an_dot cd_dot ct_dot), sl_dot⟩)
    (c_dot : PySem.W.codeIn K cd_dot "dot" = true)
    (k_dot : PySem.W.keepIn K (.ref f_dot) = true)
    (a_combined : PySem.W.nsIn K mainGlobals "combined" = some (some (.ref f_combined)))
    (l_combined : K.lookup f_combined = some ⟨oc_combined, od_combined, .func (PySem.W.fnOf "combined" "combined" (defArgs s_combined) (defBody s_combined) (defScope s_combined) .none kV_combined dc_combined pm_combined an_combined cd_combined ct_combined), sl_combined⟩)
    (c_combined : PySem.W.codeIn K cd_combined "combined" = true)
    (k_combined : PySem.W.keepIn K (.ref f_combined) = true)
    (a_ratio : PySem.W.nsIn K mainGlobals "ratio" = some (some (.ref f_ratio)))
    (l_ratio : K.lookup f_ratio = some ⟨oc_ratio, od_ratio, .func (PySem.W.fnOf "ratio" "ratio" (defArgs s_ratio) (defBody s_ratio) (defScope s_ratio) .none kV_ratio dc_ratio pm_ratio an_ratio cd_ratio ct_ratio), sl_ratio⟩)
    (c_ratio : PySem.W.codeIn K cd_ratio "ratio" = true)
    (k_ratio : PySem.W.keepIn K (.ref f_ratio) = true)
    (a_trimmed : PySem.W.nsIn K mainGlobals "trimmed" = some (some (.ref f_trimmed)))
    (l_trimmed : K.lookup f_trimmed = some ⟨oc_trimmed, od_trimmed, .func (PySem.W.fnOf "trimmed" "trimmed" (defArgs s_trimmed) (defBody s_trimmed) (defScope s_trimmed) .none kV_trimmed dc_trimmed pm_trimmed an_trimmed cd_trimmed ct_trimmed), sl_trimmed⟩)
    (c_trimmed : PySem.W.codeIn K cd_trimmed "trimmed" = true)
    (k_trimmed : PySem.W.keepIn K (.ref f_trimmed) = true)
    (a_polynomial_product : PySem.W.nsIn K mainGlobals "polynomial_product" = some (some (.ref f_polynomial_product)))
    (l_polynomial_product : K.lookup f_polynomial_product = some ⟨oc_polynomial_product, od_polynomial_product, .func (PySem.W.fnOf "polynomial_product" "polynomial_product" (defArgs s_polynomial_product) (defBody s_polynomial_product) (defScope s_polynomial_product) .none kV_polynomial_product dc_polynomial_product pm_polynomial_product an_polynomial_product cd_polynomial_product ct_polynomial_product), sl_polynomial_product⟩)
    (c_polynomial_product : PySem.W.codeIn K cd_polynomial_product "polynomial_product" = true)
    (k_polynomial_product : PySem.W.keepIn K (.ref f_polynomial_product) = true)
    (a_value_at : PySem.W.nsIn K mainGlobals "value_at" = some (some (.ref f_value_at)))
    (l_value_at : K.lookup f_value_at = some ⟨oc_value_at, od_value_at, .func (PySem.W.fnOf "value_at" "value_at" (defArgs s_value_at) (defBody s_value_at) (defScope s_value_at) .none kV_value_at dc_value_at pm_value_at an_value_at cd_value_at ct_value_at), sl_value_at⟩)
    (c_value_at : PySem.W.codeIn K cd_value_at "value_at" = true)
    (k_value_at : PySem.W.keepIn K (.ref f_value_at) = true)
    (a_is_setting : PySem.W.nsIn K mainGlobals "is_setting" = some (some (.ref f_is_setting)))
    (l_is_setting : K.lookup f_is_setting = some ⟨oc_is_setting, od_is_setting, .func (PySem.W.fnOf "is_setting" "is_setting" (defArgs s_is_setting) (defBody s_is_setting) (defScope s_is_setting) .none kV_is_setting dc_is_setting pm_is_setting an_is_setting cd_is_setting ct_is_setting), sl_is_setting⟩)
    (c_is_setting : PySem.W.codeIn K cd_is_setting "is_setting" = true)
    (k_is_setting : PySem.W.keepIn K (.ref f_is_setting) = true)
    (a_check_setting : PySem.W.nsIn K mainGlobals "check_setting" = some (some (.ref f_check_setting)))
    (l_check_setting : K.lookup f_check_setting = some ⟨oc_check_setting, od_check_setting, .func (PySem.W.fnOf "check_setting" "check_setting" (defArgs s_check_setting) (defBody s_check_setting) (defScope s_check_setting) .none kV_check_setting dc_check_setting pm_check_setting an_check_setting cd_check_setting ct_check_setting), sl_check_setting⟩)
    (c_check_setting : PySem.W.codeIn K cd_check_setting "check_setting" = true)
    (k_check_setting : PySem.W.keepIn K (.ref f_check_setting) = true)
    (a_is_course : PySem.W.nsIn K mainGlobals "is_course" = some (some (.ref f_is_course)))
    (l_is_course : K.lookup f_is_course = some ⟨oc_is_course, od_is_course, .func (PySem.W.fnOf "is_course" "is_course" (defArgs s_is_course) (defBody s_is_course) (defScope s_is_course) .none kV_is_course dc_is_course pm_is_course an_is_course cd_is_course ct_is_course), sl_is_course⟩)
    (c_is_course : PySem.W.codeIn K cd_is_course "is_course" = true)
    (k_is_course : PySem.W.keepIn K (.ref f_is_course) = true)
    (a_check_course : PySem.W.nsIn K mainGlobals "check_course" = some (some (.ref f_check_course)))
    (l_check_course : K.lookup f_check_course = some ⟨oc_check_course, od_check_course, .func (PySem.W.fnOf "check_course" "check_course" (defArgs s_check_course) (defBody s_check_course) (defScope s_check_course) .none kV_check_course dc_check_course pm_check_course an_check_course cd_check_course ct_check_course), sl_check_course⟩)
    (c_check_course : PySem.W.codeIn K cd_check_course "check_course" = true)
    (k_check_course : PySem.W.keepIn K (.ref f_check_course) = true)
    (a__length_of : PySem.W.nsIn K mainGlobals "_length_of" = some (some (.ref f__length_of)))
    (l__length_of : K.lookup f__length_of = some ⟨oc__length_of, od__length_of, .func (PySem.W.fnOf "_length_of" "_length_of" (defArgs s__length_of) (defBody s__length_of) (defScope s__length_of) .none kV__length_of dc__length_of pm__length_of an__length_of cd__length_of ct__length_of), sl__length_of⟩)
    (c__length_of : PySem.W.codeIn K cd__length_of "_length_of" = true)
    (k__length_of : PySem.W.keepIn K (.ref f__length_of) = true)
    (a_level_at : PySem.W.nsIn K mainGlobals "level_at" = some (some (.ref f_level_at)))
    (l_level_at : K.lookup f_level_at = some ⟨oc_level_at, od_level_at, .func (PySem.W.fnOf "level_at" "level_at" (defArgs s_level_at) (defBody s_level_at) (defScope s_level_at) .none kV_level_at dc_level_at pm_level_at an_level_at cd_level_at ct_level_at), sl_level_at⟩)
    (c_level_at : PySem.W.codeIn K cd_level_at "level_at" = true)
    (k_level_at : PySem.W.keepIn K (.ref f_level_at) = true)
    (a__power : PySem.W.nsIn K mainGlobals "_power" = some (some (.ref f__power)))
    (l__power : K.lookup f__power = some ⟨oc__power, od__power, .func (PySem.W.fnOf "_power" "_power" (defArgs s__power) (defBody s__power) (defScope s__power) .none kV__power dc__power pm__power an__power cd__power ct__power), sl__power⟩)
    (c__power : PySem.W.codeIn K cd__power "_power" = true)
    (k__power : PySem.W.keepIn K (.ref f__power) = true)
    (a__weighed_course : PySem.W.nsIn K mainGlobals "_weighed_course" = some (some (.ref f__weighed_course)))
    (l__weighed_course : K.lookup f__weighed_course = some ⟨oc__weighed_course, od__weighed_course, .func (PySem.W.fnOf "_weighed_course" "_weighed_course" (defArgs s__weighed_course) (defBody s__weighed_course) (defScope s__weighed_course) .none kV__weighed_course dc__weighed_course pm__weighed_course an__weighed_course cd__weighed_course ct__weighed_course), sl__weighed_course⟩)
    (c__weighed_course : PySem.W.codeIn K cd__weighed_course "_weighed_course" = true)
    (k__weighed_course : PySem.W.keepIn K (.ref f__weighed_course) = true)
    (a_turned_course : PySem.W.nsIn K mainGlobals "turned_course" = some (some (.ref f_turned_course)))
    (l_turned_course : K.lookup f_turned_course = some ⟨oc_turned_course, od_turned_course, .func (PySem.W.fnOf "turned_course" "turned_course" (defArgs s_turned_course) (defBody s_turned_course) (defScope s_turned_course) .none kV_turned_course dc_turned_course pm_turned_course an_turned_course cd_turned_course ct_turned_course), sl_turned_course⟩)
    (c_turned_course : PySem.W.codeIn K cd_turned_course "turned_course" = true)
    (k_turned_course : PySem.W.keepIn K (.ref f_turned_course) = true)
    (a_course_parts : PySem.W.nsIn K mainGlobals "course_parts" = some (some (.ref f_course_parts)))
    (l_course_parts : K.lookup f_course_parts = some ⟨oc_course_parts, od_course_parts, .func (PySem.W.fnOf "course_parts" "course_parts" (defArgs s_course_parts) (defBody s_course_parts) (defScope s_course_parts) .none kV_course_parts dc_course_parts pm_course_parts an_course_parts cd_course_parts ct_course_parts), sl_course_parts⟩)
    (c_course_parts : PySem.W.codeIn K cd_course_parts "course_parts" = true)
    (k_course_parts : PySem.W.keepIn K (.ref f_course_parts) = true)
    (a_setting_sum : PySem.W.nsIn K mainGlobals "setting_sum" = some (some (.ref f_setting_sum)))
    (l_setting_sum : K.lookup f_setting_sum = some ⟨oc_setting_sum, od_setting_sum, .func (PySem.W.fnOf "setting_sum" "setting_sum" (defArgs s_setting_sum) (defBody s_setting_sum) (defScope s_setting_sum) .none kV_setting_sum dc_setting_sum pm_setting_sum an_setting_sum cd_setting_sum ct_setting_sum), sl_setting_sum⟩)
    (c_setting_sum : PySem.W.codeIn K cd_setting_sum "setting_sum" = true)
    (k_setting_sum : PySem.W.keepIn K (.ref f_setting_sum) = true)
    (a_setting_back : PySem.W.nsIn K mainGlobals "setting_back" = some (some (.ref f_setting_back)))
    (l_setting_back : K.lookup f_setting_back = some ⟨oc_setting_back, od_setting_back, .func (PySem.W.fnOf "setting_back" "setting_back" (defArgs s_setting_back) (defBody s_setting_back) (defScope s_setting_back) .none kV_setting_back dc_setting_back pm_setting_back an_setting_back cd_setting_back ct_setting_back), sl_setting_back⟩)
    (c_setting_back : PySem.W.codeIn K cd_setting_back "setting_back" = true)
    (k_setting_back : PySem.W.keepIn K (.ref f_setting_back) = true)
    (a__law_source : PySem.W.nsIn K mainGlobals "_law_source" = some (some (.ref f__law_source)))
    (l__law_source : K.lookup f__law_source = some ⟨oc__law_source, od__law_source, .func (PySem.W.fnOf "_law_source" "_law_source" (defArgs s__law_source) (defBody s__law_source) (defScope s__law_source) .none kV__law_source dc__law_source pm__law_source an__law_source cd__law_source ct__law_source), sl__law_source⟩)
    (c__law_source : PySem.W.codeIn K cd__law_source "_law_source" = true)
    (k__law_source : PySem.W.keepIn K (.ref f__law_source) = true)
    (a__law_draw : PySem.W.nsIn K mainGlobals "_law_draw" = some (some (.ref f__law_draw)))
    (l__law_draw : K.lookup f__law_draw = some ⟨oc__law_draw, od__law_draw, .func (PySem.W.fnOf "_law_draw" "_law_draw" (defArgs s__law_draw) (defBody s__law_draw) (defScope s__law_draw) .none kV__law_draw dc__law_draw pm__law_draw an__law_draw cd__law_draw ct__law_draw), sl__law_draw⟩)
    (c__law_draw : PySem.W.codeIn K cd__law_draw "_law_draw" = true)
    (k__law_draw : PySem.W.keepIn K (.ref f__law_draw) = true)
    (a__law_pick : PySem.W.nsIn K mainGlobals "_law_pick" = some (some (.ref f__law_pick)))
    (l__law_pick : K.lookup f__law_pick = some ⟨oc__law_pick, od__law_pick, .func (PySem.W.fnOf "_law_pick" "_law_pick" (defArgs s__law_pick) (defBody s__law_pick) (defScope s__law_pick) .none kV__law_pick dc__law_pick pm__law_pick an__law_pick cd__law_pick ct__law_pick), sl__law_pick⟩)
    (c__law_pick : PySem.W.codeIn K cd__law_pick "_law_pick" = true)
    (k__law_pick : PySem.W.keepIn K (.ref f__law_pick) = true)
    (a__law_about : PySem.W.nsIn K mainGlobals "_law_about" = some (some (.ref f__law_about)))
    (l__law_about : K.lookup f__law_about = some ⟨oc__law_about, od__law_about, .func (PySem.W.fnOf "_law_about" "_law_about" (defArgs s__law_about) (defBody s__law_about) (defScope s__law_about) .none kV__law_about dc__law_about pm__law_about an__law_about cd__law_about ct__law_about), sl__law_about⟩)
    (c__law_about : PySem.W.codeIn K cd__law_about "_law_about" = true)
    (k__law_about : PySem.W.keepIn K (.ref f__law_about) = true)
    (a__law_common : PySem.W.nsIn K mainGlobals "_law_common" = some (some (.ref f__law_common)))
    (l__law_common : K.lookup f__law_common = some ⟨oc__law_common, od__law_common, .func (PySem.W.fnOf "_law_common" "_law_common" (defArgs s__law_common) (defBody s__law_common) (defScope s__law_common) .none kV__law_common dc__law_common pm__law_common an__law_common cd__law_common ct__law_common), sl__law_common⟩)
    (c__law_common : PySem.W.codeIn K cd__law_common "_law_common" = true)
    (k__law_common : PySem.W.keepIn K (.ref f__law_common) = true)
    (a__law_low : PySem.W.nsIn K mainGlobals "_law_low" = some (some (.ref f__law_low)))
    (l__law_low : K.lookup f__law_low = some ⟨oc__law_low, od__law_low, .func (PySem.W.fnOf "_law_low" "_law_low" (defArgs s__law_low) (defBody s__law_low) (defScope s__law_low) .none kV__law_low dc__law_low pm__law_low an__law_low cd__law_low ct__law_low), sl__law_low⟩)
    (c__law_low : PySem.W.codeIn K cd__law_low "_law_low" = true)
    (k__law_low : PySem.W.keepIn K (.ref f__law_low) = true)
    (a__law_ratio : PySem.W.nsIn K mainGlobals "_law_ratio" = some (some (.ref f__law_ratio)))
    (l__law_ratio : K.lookup f__law_ratio = some ⟨oc__law_ratio, od__law_ratio, .func (PySem.W.fnOf "_law_ratio" "_law_ratio" (defArgs s__law_ratio) (defBody s__law_ratio) (defScope s__law_ratio) .none kV__law_ratio dc__law_ratio pm__law_ratio an__law_ratio cd__law_ratio ct__law_ratio), sl__law_ratio⟩)
    (c__law_ratio : PySem.W.codeIn K cd__law_ratio "_law_ratio" = true)
    (k__law_ratio : PySem.W.keepIn K (.ref f__law_ratio) = true)
    (a__law_slot : PySem.W.nsIn K mainGlobals "_law_slot" = some (some (.ref f__law_slot)))
    (l__law_slot : K.lookup f__law_slot = some ⟨oc__law_slot, od__law_slot, .func (PySem.W.fnOf "_law_slot" "_law_slot" (defArgs s__law_slot) (defBody s__law_slot) (defScope s__law_slot) .none kV__law_slot dc__law_slot pm__law_slot an__law_slot cd__law_slot ct__law_slot), sl__law_slot⟩)
    (c__law_slot : PySem.W.codeIn K cd__law_slot "_law_slot" = true)
    (k__law_slot : PySem.W.keepIn K (.ref f__law_slot) = true)
    (a__law_signed : PySem.W.nsIn K mainGlobals "_law_signed" = some (some (.ref f__law_signed)))
    (l__law_signed : K.lookup f__law_signed = some ⟨oc__law_signed, od__law_signed, .func (PySem.W.fnOf "_law_signed" "_law_signed" (defArgs s__law_signed) (defBody s__law_signed) (defScope s__law_signed) .none kV__law_signed dc__law_signed pm__law_signed an__law_signed cd__law_signed ct__law_signed), sl__law_signed⟩)
    (c__law_signed : PySem.W.codeIn K cd__law_signed "_law_signed" = true)
    (k__law_signed : PySem.W.keepIn K (.ref f__law_signed) = true)
    (a__law_summed : PySem.W.nsIn K mainGlobals "_law_summed" = some (some (.ref f__law_summed)))
    (l__law_summed : K.lookup f__law_summed = some ⟨oc__law_summed, od__law_summed, .func (PySem.W.fnOf "_law_summed" "_law_summed" (defArgs s__law_summed) (defBody s__law_summed) (defScope s__law_summed) .none kV__law_summed dc__law_summed pm__law_summed an__law_summed cd__law_summed ct__law_summed), sl__law_summed⟩)
    (c__law_summed : PySem.W.codeIn K cd__law_summed "_law_summed" = true)
    (k__law_summed : PySem.W.keepIn K (.ref f__law_summed) = true)
    (a__law_form : PySem.W.nsIn K mainGlobals "_law_form" = some (some (.ref f__law_form)))
    (l__law_form : K.lookup f__law_form = some ⟨oc__law_form, od__law_form, .func (PySem.W.fnOf "_law_form" "_law_form" (defArgs s__law_form) (defBody s__law_form) (defScope s__law_form) .none kV__law_form dc__law_form pm__law_form an__law_form cd__law_form ct__law_form), sl__law_form⟩)
    (c__law_form : PySem.W.codeIn K cd__law_form "_law_form" = true)
    (k__law_form : PySem.W.keepIn K (.ref f__law_form) = true)
    (a__law_at : PySem.W.nsIn K mainGlobals "_law_at" = some (some (.ref f__law_at)))
    (l__law_at : K.lookup f__law_at = some ⟨oc__law_at, od__law_at, .func (PySem.W.fnOf "_law_at" "_law_at" (defArgs s__law_at) (defBody s__law_at) (defScope s__law_at) .none kV__law_at dc__law_at pm__law_at an__law_at cd__law_at ct__law_at), sl__law_at⟩)
    (c__law_at : PySem.W.codeIn K cd__law_at "_law_at" = true)
    (k__law_at : PySem.W.keepIn K (.ref f__law_at) = true)
    (a__law_quad : PySem.W.nsIn K mainGlobals "_law_quad" = some (some (.ref f__law_quad)))
    (l__law_quad : K.lookup f__law_quad = some ⟨oc__law_quad, od__law_quad, .func (PySem.W.fnOf "_law_quad" "_law_quad" (defArgs s__law_quad) (defBody s__law_quad) (defScope s__law_quad) .none kV__law_quad dc__law_quad pm__law_quad an__law_quad cd__law_quad ct__law_quad), sl__law_quad⟩)
    (c__law_quad : PySem.W.codeIn K cd__law_quad "_law_quad" = true)
    (k__law_quad : PySem.W.keepIn K (.ref f__law_quad) = true)
    (a__law_folded : PySem.W.nsIn K mainGlobals "_law_folded" = some (some (.ref f__law_folded)))
    (l__law_folded : K.lookup f__law_folded = some ⟨oc__law_folded, od__law_folded, .func (PySem.W.fnOf "_law_folded" "_law_folded" (defArgs s__law_folded) (defBody s__law_folded) (defScope s__law_folded) .none kV__law_folded dc__law_folded pm__law_folded an__law_folded cd__law_folded ct__law_folded), sl__law_folded⟩)
    (c__law_folded : PySem.W.codeIn K cd__law_folded "_law_folded" = true)
    (k__law_folded : PySem.W.keepIn K (.ref f__law_folded) = true)
    (a__law_course : PySem.W.nsIn K mainGlobals "_law_course" = some (some (.ref f__law_course)))
    (l__law_course : K.lookup f__law_course = some ⟨oc__law_course, od__law_course, .func (PySem.W.fnOf "_law_course" "_law_course" (defArgs s__law_course) (defBody s__law_course) (defScope s__law_course) .none kV__law_course dc__law_course pm__law_course an__law_course cd__law_course ct__law_course), sl__law_course⟩)
    (c__law_course : PySem.W.codeIn K cd__law_course "_law_course" = true)
    (k__law_course : PySem.W.keepIn K (.ref f__law_course) = true)
    (a__law_is_turned : PySem.W.nsIn K mainGlobals "_law_is_turned" = some (some (.ref f__law_is_turned)))
    (l__law_is_turned : K.lookup f__law_is_turned = some ⟨oc__law_is_turned, od__law_is_turned, .func (PySem.W.fnOf "_law_is_turned" "_law_is_turned" (defArgs s__law_is_turned) (defBody s__law_is_turned) (defScope s__law_is_turned) .none kV__law_is_turned dc__law_is_turned pm__law_is_turned an__law_is_turned cd__law_is_turned ct__law_is_turned), sl__law_is_turned⟩)
    (c__law_is_turned : PySem.W.codeIn K cd__law_is_turned "_law_is_turned" = true)
    (k__law_is_turned : PySem.W.keepIn K (.ref f__law_is_turned) = true)
    (a__law_right : PySem.W.nsIn K mainGlobals "_law_right" = some (some (.ref f__law_right)))
    (l__law_right : K.lookup f__law_right = some ⟨oc__law_right, od__law_right, .func (PySem.W.fnOf "_law_right" "_law_right" (defArgs s__law_right) (defBody s__law_right) (defScope s__law_right) .none kV__law_right dc__law_right pm__law_right an__law_right cd__law_right ct__law_right), sl__law_right⟩)
    (c__law_right : PySem.W.codeIn K cd__law_right "_law_right" = true)
    (k__law_right : PySem.W.keepIn K (.ref f__law_right) = true)
    (a_law : PySem.W.nsIn K mainGlobals "law" = some (some (.ref f_law)))
    (l_law : K.lookup f_law = some ⟨oc_law, od_law, .func (PySem.W.fnOf "law" "law" (defArgs s_law) (defBody s_law) (defScope s_law) .none kV_law dc_law pm_law an_law cd_law ct_law), sl_law⟩)
    (c_law : PySem.W.codeIn K cd_law "law" = true)
    (k_law : PySem.W.keepIn K (.ref f_law) = true)
    (z_gcd : PySem.W.nsIn K mainGlobals "gcd" = some (some (.builtin "math.gcd")))
    (z_lcm : PySem.W.nsIn K mainGlobals "lcm" = some (some (.builtin "math.lcm")))
    (z_abs : PySem.W.nsIn K mainGlobals "abs" = some none)
    (z_all : PySem.W.nsIn K mainGlobals "all" = some none)
    (z_bool : PySem.W.nsIn K mainGlobals "bool" = some none)
    (z_divmod : PySem.W.nsIn K mainGlobals "divmod" = some none)
    (z_enumerate : PySem.W.nsIn K mainGlobals "enumerate" = some none)
    (z_int : PySem.W.nsIn K mainGlobals "int" = some none)
    (z_isinstance : PySem.W.nsIn K mainGlobals "isinstance" = some none)
    (z_len : PySem.W.nsIn K mainGlobals "len" = some none)
    (z_max : PySem.W.nsIn K mainGlobals "max" = some none)
    (z_min : PySem.W.nsIn K mainGlobals "min" = some none)
    (z_range : PySem.W.nsIn K mainGlobals "range" = some none)
    (z_repr : PySem.W.nsIn K mainGlobals "repr" = some none)
    (z_reversed : PySem.W.nsIn K mainGlobals "reversed" = some none)
    (z_sum : PySem.W.nsIn K mainGlobals "sum" = some none)
    (z_tuple : PySem.W.nsIn K mainGlobals "tuple" = some none)
    (z_type : PySem.W.nsIn K mainGlobals "type" = some none)
    (z_zip : PySem.W.nsIn K mainGlobals "zip" = some none)
    (y__ROWS_OF_PARTS : PySem.W.nsIn K mainGlobals "_ROWS_OF_PARTS" = some (some (.ref a_q_ROWS_OF_PARTS30)))
    (t_q_ROWS_OF_PARTS30 : K.lookup a_q_ROWS_OF_PARTS30 = some ⟨.type "tuple", dd_q_ROWS_OF_PARTS30, .seq #[.ref a_q_ROWS_OF_PARTS5, .ref a_q_ROWS_OF_PARTS11, .ref a_q_ROWS_OF_PARTS17, .ref a_q_ROWS_OF_PARTS23, .ref a_q_ROWS_OF_PARTS29] n_q_ROWS_OF_PARTS30, sl_q_ROWS_OF_PARTS30⟩)
    (t_q_ROWS_OF_PARTS29 : K.lookup a_q_ROWS_OF_PARTS29 = some ⟨.type "tuple", dd_q_ROWS_OF_PARTS29, .seq #[.int (0) tk_q_ROWS_OF_PARTS25, .int (1) tk_q_ROWS_OF_PARTS26, .int (0) tk_q_ROWS_OF_PARTS27, .int (-1) tk_q_ROWS_OF_PARTS28, .int (0) tk_q_ROWS_OF_PARTS29] n_q_ROWS_OF_PARTS29, sl_q_ROWS_OF_PARTS29⟩)
    (t_q_ROWS_OF_PARTS23 : K.lookup a_q_ROWS_OF_PARTS23 = some ⟨.type "tuple", dd_q_ROWS_OF_PARTS23, .seq #[.int (1) tk_q_ROWS_OF_PARTS19, .int (0) tk_q_ROWS_OF_PARTS20, .int (-1) tk_q_ROWS_OF_PARTS21, .int (0) tk_q_ROWS_OF_PARTS22, .int (1) tk_q_ROWS_OF_PARTS23] n_q_ROWS_OF_PARTS23, sl_q_ROWS_OF_PARTS23⟩)
    (t_q_ROWS_OF_PARTS17 : K.lookup a_q_ROWS_OF_PARTS17 = some ⟨.type "tuple", dd_q_ROWS_OF_PARTS17, .seq #[.int (0) tk_q_ROWS_OF_PARTS13, .int (2) tk_q_ROWS_OF_PARTS14, .int (0) tk_q_ROWS_OF_PARTS15, .int (2) tk_q_ROWS_OF_PARTS16, .int (0) tk_q_ROWS_OF_PARTS17] n_q_ROWS_OF_PARTS17, sl_q_ROWS_OF_PARTS17⟩)
    (t_q_ROWS_OF_PARTS11 : K.lookup a_q_ROWS_OF_PARTS11 = some ⟨.type "tuple", dd_q_ROWS_OF_PARTS11, .seq #[.int (4) tk_q_ROWS_OF_PARTS7, .int (0) tk_q_ROWS_OF_PARTS8, .int (0) tk_q_ROWS_OF_PARTS9, .int (0) tk_q_ROWS_OF_PARTS10, .int (-4) tk_q_ROWS_OF_PARTS11] n_q_ROWS_OF_PARTS11, sl_q_ROWS_OF_PARTS11⟩)
    (t_q_ROWS_OF_PARTS5 : K.lookup a_q_ROWS_OF_PARTS5 = some ⟨.type "tuple", dd_q_ROWS_OF_PARTS5, .seq #[.int (3) tk_q_ROWS_OF_PARTS1, .int (0) tk_q_ROWS_OF_PARTS2, .int (1) tk_q_ROWS_OF_PARTS3, .int (0) tk_q_ROWS_OF_PARTS4, .int (3) tk_q_ROWS_OF_PARTS5] n_q_ROWS_OF_PARTS5, sl_q_ROWS_OF_PARTS5⟩) :
    ∃ fd : FuncData, (∀ (s : Shared) (v : Value), BindsTo s fd ⟨[v], []⟩ [("_law_script", v)]) ∧ ∀ base : Heap, K.In base → base.Ns mainGlobals mg → FnG l.prog w K mg base 9 fa fd ["_law_script"] F_law_K36 := by
  have e := hfa.symm.trans (PySem.W.mg_of X G a_law)
  cases e
  have U_is_whole := fun_mk (st := s_is_whole) l_is_whole c_is_whole k_is_whole
  have U_is_row := fun_mk (st := s_is_row) l_is_row c_is_row k_is_row
  have U_divisor_of := fun_mk (st := s_divisor_of) l_divisor_of c_divisor_of k_divisor_of
  have U_is_reduced_row := fun_mk (st := s_is_reduced_row) l_is_reduced_row c_is_reduced_row k_is_reduced_row
  have U_reduced := fun_mk (st := s_reduced) l_reduced c_reduced k_reduced
  have U_dot := fun_mk (st := s_dot) l_dot c_dot k_dot
  have U_combined := fun_mk (st := s_combined) l_combined c_combined k_combined
  have U_ratio := fun_mk (st := s_ratio) l_ratio c_ratio k_ratio
  have U_trimmed := fun_mk (st := s_trimmed) l_trimmed c_trimmed k_trimmed
  have U_polynomial_product := fun_mk (st := s_polynomial_product) l_polynomial_product c_polynomial_product k_polynomial_product
  have U_value_at := fun_mk (st := s_value_at) l_value_at c_value_at k_value_at
  have U_is_setting := fun_mk (st := s_is_setting) l_is_setting c_is_setting k_is_setting
  have U_check_setting := fun_mk (st := s_check_setting) l_check_setting c_check_setting k_check_setting
  have U_is_course := fun_mk (st := s_is_course) l_is_course c_is_course k_is_course
  have U_check_course := fun_mk (st := s_check_course) l_check_course c_check_course k_check_course
  have U__length_of := fun_mk (st := s__length_of) l__length_of c__length_of k__length_of
  have U_level_at := fun_mk (st := s_level_at) l_level_at c_level_at k_level_at
  have U__power := fun_mk (st := s__power) l__power c__power k__power
  have U__weighed_course := fun_mk (st := s__weighed_course) l__weighed_course c__weighed_course k__weighed_course
  have U_turned_course := fun_mk (st := s_turned_course) l_turned_course c_turned_course k_turned_course
  have U_course_parts := fun_mk (st := s_course_parts) l_course_parts c_course_parts k_course_parts
  have U_setting_sum := fun_mk (st := s_setting_sum) l_setting_sum c_setting_sum k_setting_sum
  have U_setting_back := fun_mk (st := s_setting_back) l_setting_back c_setting_back k_setting_back
  have U__law_source := fun_mk (st := s__law_source) l__law_source c__law_source k__law_source
  have U__law_draw := fun_mk (st := s__law_draw) l__law_draw c__law_draw k__law_draw
  have U__law_pick := fun_mk (st := s__law_pick) l__law_pick c__law_pick k__law_pick
  have U__law_about := fun_mk (st := s__law_about) l__law_about c__law_about k__law_about
  have U__law_common := fun_mk (st := s__law_common) l__law_common c__law_common k__law_common
  have U__law_low := fun_mk (st := s__law_low) l__law_low c__law_low k__law_low
  have U__law_ratio := fun_mk (st := s__law_ratio) l__law_ratio c__law_ratio k__law_ratio
  have U__law_slot := fun_mk (st := s__law_slot) l__law_slot c__law_slot k__law_slot
  have U__law_signed := fun_mk (st := s__law_signed) l__law_signed c__law_signed k__law_signed
  have U__law_summed := fun_mk (st := s__law_summed) l__law_summed c__law_summed k__law_summed
  have U__law_form := fun_mk (st := s__law_form) l__law_form c__law_form k__law_form
  have U__law_at := fun_mk (st := s__law_at) l__law_at c__law_at k__law_at
  have U__law_quad := fun_mk (st := s__law_quad) l__law_quad c__law_quad k__law_quad
  have U__law_folded := fun_mk (st := s__law_folded) l__law_folded c__law_folded k__law_folded
  have U__law_course := fun_mk (st := s__law_course) l__law_course c__law_course k__law_course
  have U__law_is_turned := fun_mk (st := s__law_is_turned) l__law_is_turned c__law_is_turned k__law_is_turned
  have U__law_right := fun_mk (st := s__law_right) l__law_right c__law_right k__law_right
  have U_law := fun_mk (st := s_law) l_law c_law k_law
  have T : Tx K mg := ⟨PySem.W.mg_of X G z_gcd, PySem.W.mg_of X G z_lcm, PySem.W.mg_none_of X G z_abs, PySem.W.mg_none_of X G z_all, PySem.W.mg_none_of X G z_bool, PySem.W.mg_none_of X G z_divmod, PySem.W.mg_none_of X G z_enumerate, PySem.W.mg_none_of X G z_int, PySem.W.mg_none_of X G z_isinstance, PySem.W.mg_none_of X G z_len, PySem.W.mg_none_of X G z_max, PySem.W.mg_none_of X G z_min, PySem.W.mg_none_of X G z_range, PySem.W.mg_none_of X G z_repr, PySem.W.mg_none_of X G z_reversed, PySem.W.mg_none_of X G z_sum, PySem.W.mg_none_of X G z_tuple, PySem.W.mg_none_of X G z_type, PySem.W.mg_none_of X G z_zip, ⟨.ref a_q_ROWS_OF_PARTS30, _, PySem.W.mg_of X G y__ROWS_OF_PARTS, rfl, fun _ => (dp_kt (vs := [.ref a_q_ROWS_OF_PARTS5, .ref a_q_ROWS_OF_PARTS11, .ref a_q_ROWS_OF_PARTS17, .ref a_q_ROWS_OF_PARTS23, .ref a_q_ROWS_OF_PARTS29]) t_q_ROWS_OF_PARTS30 (by show 5 ≤ sizeLine; decide) (.cons rfl (.cons rfl (.cons rfl (.cons rfl (.cons rfl .nil))))) fun _ => (.cons (dp_kt (vs := [.int (3), .int (0), .int (1), .int (0), .int (3)]) t_q_ROWS_OF_PARTS5 (by show 5 ≤ sizeLine; decide) (.cons ⟨_, rfl⟩ (.cons ⟨_, rfl⟩ (.cons ⟨_, rfl⟩ (.cons ⟨_, rfl⟩ (.cons ⟨_, rfl⟩ .nil))))) fun _ => (.cons (.int _) (.cons (.int _) (.cons (.int _) (.cons (.int _) (.cons (.int _) .nil)))))) (.cons (dp_kt (vs := [.int (4), .int (0), .int (0), .int (0), .int (-4)]) t_q_ROWS_OF_PARTS11 (by show 5 ≤ sizeLine; decide) (.cons ⟨_, rfl⟩ (.cons ⟨_, rfl⟩ (.cons ⟨_, rfl⟩ (.cons ⟨_, rfl⟩ (.cons ⟨_, rfl⟩ .nil))))) fun _ => (.cons (.int _) (.cons (.int _) (.cons (.int _) (.cons (.int _) (.cons (.int _) .nil)))))) (.cons (dp_kt (vs := [.int (0), .int (2), .int (0), .int (2), .int (0)]) t_q_ROWS_OF_PARTS17 (by show 5 ≤ sizeLine; decide) (.cons ⟨_, rfl⟩ (.cons ⟨_, rfl⟩ (.cons ⟨_, rfl⟩ (.cons ⟨_, rfl⟩ (.cons ⟨_, rfl⟩ .nil))))) fun _ => (.cons (.int _) (.cons (.int _) (.cons (.int _) (.cons (.int _) (.cons (.int _) .nil)))))) (.cons (dp_kt (vs := [.int (1), .int (0), .int (-1), .int (0), .int (1)]) t_q_ROWS_OF_PARTS23 (by show 5 ≤ sizeLine; decide) (.cons ⟨_, rfl⟩ (.cons ⟨_, rfl⟩ (.cons ⟨_, rfl⟩ (.cons ⟨_, rfl⟩ (.cons ⟨_, rfl⟩ .nil))))) fun _ => (.cons (.int _) (.cons (.int _) (.cons (.int _) (.cons (.int _) (.cons (.int _) .nil)))))) (.cons (dp_kt (vs := [.int (0), .int (1), .int (0), .int (-1), .int (0)]) t_q_ROWS_OF_PARTS29 (by show 5 ≤ sizeLine; decide) (.cons ⟨_, rfl⟩ (.cons ⟨_, rfl⟩ (.cons ⟨_, rfl⟩ (.cons ⟨_, rfl⟩ (.cons ⟨_, rfl⟩ .nil))))) fun _ => (.cons (.int _) (.cons (.int _) (.cons (.int _) (.cons (.int _) (.cons (.int _) .nil)))))) .nil))))))⟩⟩
  refine ⟨PySem.W.fnOf "law" "law" (defArgs s_law) (defBody s_law) (defScope s_law) .none kV_law dc_law pm_law an_law cd_law ct_law, fun s v => .of_eq rfl, fun base _ _ => ?_⟩
  have C_is_whole : At l.prog w K mg base 1 "is_whole" ["value"] F_is_whole := at_mk U_is_whole (PySem.W.mg_of X G a_is_whole) (ok_is_whole U_is_whole T ) fun _ _ _ _ _ _ us hl i hi => bk_is_whole us hl i hi
  have C_is_row : At l.prog w K mg base 2 "is_row" ["value", "many"] F_is_row := at_mk U_is_row (PySem.W.mg_of X G a_is_row) (ok_is_row U_is_row T C_is_whole) fun _ _ _ _ _ _ us hl i hi => bk_is_row us hl i hi
  have C_divisor_of : At l.prog w K mg base 1 "divisor_of" ["numbers"] F_divisor_of := at_mk U_divisor_of (PySem.W.mg_of X G a_divisor_of) (ok_divisor_of U_divisor_of T ) fun _ _ _ _ _ _ us hl i hi => bk_divisor_of us hl i hi
  have C_is_reduced_row : At l.prog w K mg base 3 "is_reduced_row" ["value", "many"] F_is_reduced_row := at_mk U_is_reduced_row (PySem.W.mg_of X G a_is_reduced_row) (ok_is_reduced_row U_is_reduced_row T C_divisor_of C_is_row) fun _ _ _ _ _ _ us hl i hi => bk_is_reduced_row us hl i hi
  have C_reduced : At l.prog w K mg base 2 "reduced" ["numbers"] F_reduced := at_mk U_reduced (PySem.W.mg_of X G a_reduced) (ok_reduced U_reduced T C_divisor_of) fun _ _ _ _ _ _ us hl i hi => bk_reduced us hl i hi
  have C_dot : At l.prog w K mg base 1 "dot" ["row", "other"] F_dot := at_mk U_dot (PySem.W.mg_of X G a_dot) (ok_dot U_dot T ) fun _ _ _ _ _ _ us hl i hi => bk_dot us hl i hi
  have C_combined : At l.prog w K mg base 1 "combined" ["one", "row", "two", "other"] F_combined := at_mk U_combined (PySem.W.mg_of X G a_combined) (ok_combined U_combined T ) fun _ _ _ _ _ _ us hl i hi => bk_combined us hl i hi
  have C_ratio : At l.prog w K mg base 1 "ratio" ["p", "q"] F_ratio := at_mk U_ratio (PySem.W.mg_of X G a_ratio) (ok_ratio U_ratio T ) fun _ _ _ _ _ _ us hl i hi => bk_ratio us hl i hi
  have C_trimmed : At l.prog w K mg base 1 "trimmed" ["polynomial"] F_trimmed := at_mk U_trimmed (PySem.W.mg_of X G a_trimmed) (ok_trimmed U_trimmed T ) fun _ _ _ _ _ _ us hl i hi => bk_trimmed us hl i hi
  have C_polynomial_product : At l.prog w K mg base 2 "polynomial_product" ["one", "two"] F_polynomial_product := at_mk U_polynomial_product (PySem.W.mg_of X G a_polynomial_product) (ok_polynomial_product U_polynomial_product T C_trimmed) fun _ _ _ _ _ _ us hl i hi => bk_polynomial_product us hl i hi
  have C_value_at : At l.prog w K mg base 1 "value_at" ["polynomial", "point"] F_value_at := at_mk U_value_at (PySem.W.mg_of X G a_value_at) (ok_value_at U_value_at T ) fun _ _ _ _ _ _ us hl i hi => bk_value_at us hl i hi
  have C_is_setting : At l.prog w K mg base 4 "is_setting" ["value"] F_is_setting := at_mk U_is_setting (PySem.W.mg_of X G a_is_setting) (ok_is_setting U_is_setting T C_is_reduced_row) fun _ _ _ _ _ _ us hl i hi => bk_is_setting us hl i hi
  have C_check_setting : At l.prog w K mg base 5 "check_setting" ["value"] F_check_setting := at_mk U_check_setting (PySem.W.mg_of X G a_check_setting) (ok_check_setting U_check_setting T C_is_setting) fun _ _ _ _ _ _ us hl i hi => bk_check_setting us hl i hi
  have C_is_course : At l.prog w K mg base 4 "is_course" ["value"] F_is_course := at_mk U_is_course (PySem.W.mg_of X G a_is_course) (ok_is_course U_is_course T C_is_reduced_row) fun _ _ _ _ _ _ us hl i hi => bk_is_course us hl i hi
  have C_check_course : At l.prog w K mg base 5 "check_course" ["value"] F_check_course := at_mk U_check_course (PySem.W.mg_of X G a_check_course) (ok_check_course U_check_course T C_is_course) fun _ _ _ _ _ _ us hl i hi => bk_check_course us hl i hi
  have C__length_of : At l.prog w K mg base 1 "_length_of" ["setting"] F__length_of := at_mk U__length_of (PySem.W.mg_of X G a__length_of) (ok__length_of U__length_of T ) fun _ _ _ _ _ _ us hl i hi => bk__length_of us hl i hi
  have C_level_at : At l.prog w K mg base 6 "level_at" ["course", "setting"] F_level_at := at_mk U_level_at (PySem.W.mg_of X G a_level_at) (ok_level_at U_level_at T C__length_of C_check_course C_check_setting C_ratio C_value_at) fun _ _ _ _ _ _ us hl i hi => bk_level_at us hl i hi
  have C__power : At l.prog w K mg base 3 "_power" ["polynomial", "many"] F__power := at_mk U__power (PySem.W.mg_of X G a__power) (ok__power U__power T C_polynomial_product) fun _ _ _ _ _ _ us hl i hi => bk__power us hl i hi
  have C__weighed_course : At l.prog w K mg base 3 "_weighed_course" ["rows", "weights"] F__weighed_course := at_mk U__weighed_course (PySem.W.mg_of X G a__weighed_course) (ok__weighed_course U__weighed_course T C_combined C_reduced) fun _ _ _ _ _ _ us hl i hi => bk__weighed_course us hl i hi
  have C_turned_course : At l.prog w K mg base 6 "turned_course" ["course", "setting"] F_turned_course := at_mk U_turned_course (PySem.W.mg_of X G a_turned_course) (ok_turned_course U_turned_course T C__length_of C__power C__weighed_course C_check_course C_check_setting C_polynomial_product C_ratio) fun _ _ _ _ _ _ us hl i hi => bk_turned_course us hl i hi
  have C_turned_course_by10 : AtP l.prog w K mg base 6 "turned_course" ["course", "setting"] ["setting", "course"] [1, 0] F_turned_course := atp_mk U_turned_course (PySem.W.mg_of X G a_turned_course) (ok_turned_course U_turned_course T C__length_of C__power C__weighed_course C_check_course C_check_setting C_polynomial_product C_ratio) fun _ _ _ _ _ _ us hl => bp_turned_course_by10 us hl
  have C_course_parts : At l.prog w K mg base 6 "course_parts" ["course"] F_course_parts := at_mk U_course_parts (PySem.W.mg_of X G a_course_parts) (ok_course_parts U_course_parts T C_check_course C_dot C_ratio) fun _ _ _ _ _ _ us hl i hi => bk_course_parts us hl i hi
  have C_setting_sum : At l.prog w K mg base 6 "setting_sum" ["setting", "other"] F_setting_sum := at_mk U_setting_sum (PySem.W.mg_of X G a_setting_sum) (ok_setting_sum U_setting_sum T C_check_setting C_reduced) fun _ _ _ _ _ _ us hl i hi => bk_setting_sum us hl i hi
  have C_setting_back : At l.prog w K mg base 6 "setting_back" ["setting"] F_setting_back := at_mk U_setting_back (PySem.W.mg_of X G a_setting_back) (ok_setting_back U_setting_back T C_check_setting) fun _ _ _ _ _ _ us hl i hi => bk_setting_back us hl i hi
  have C__law_source : At l.prog w K mg base 1 "_law_source" ["_law_script", "_law_at_here"] F__law_source := at_mk U__law_source (PySem.W.mg_of X G a__law_source) (ok__law_source U__law_source T ) fun _ _ _ _ _ _ us hl i hi => bk__law_source us hl i hi
  have C__law_draw : At l.prog w K mg base 1 "_law_draw" ["_law_source_here", "_law_top"] F__law_draw := at_mk U__law_draw (PySem.W.mg_of X G a__law_draw) (ok__law_draw U__law_draw T ) fun _ _ _ _ _ _ us hl i hi => bk__law_draw us hl i hi
  have C__law_pick : At l.prog w K mg base 2 "_law_pick" ["_law_source_here", "_law_some"] F__law_pick_K36 := at_mk U__law_pick (PySem.W.mg_of X G a__law_pick) (ok__law_pick U__law_pick T C__law_draw) fun _ _ _ _ _ _ us hl i hi => bk__law_pick us hl i hi
  have C__law_about : At l.prog w K mg base 2 "_law_about" ["_law_source_here", "_law_most"] F__law_about := at_mk U__law_about (PySem.W.mg_of X G a__law_about) (ok__law_about U__law_about T C__law_draw) fun _ _ _ _ _ _ us hl i hi => bk__law_about us hl i hi
  have C__law_common : At l.prog w K mg base 1 "_law_common" ["_law_row"] F__law_common_K36 := at_mk U__law_common (PySem.W.mg_of X G a__law_common) (ok__law_common U__law_common T ) fun _ _ _ _ _ _ us hl i hi => bk__law_common us hl i hi
  have C__law_low : At l.prog w K mg base 2 "_law_low" ["_law_row"] F__law_low_K36 := at_mk U__law_low (PySem.W.mg_of X G a__law_low) (ok__law_low U__law_low T C__law_common) fun _ _ _ _ _ _ us hl i hi => bk__law_low us hl i hi
  have C__law_ratio : At l.prog w K mg base 2 "_law_ratio" ["_law_top", "_law_under"] F__law_ratio_K36 := at_mk U__law_ratio (PySem.W.mg_of X G a__law_ratio) (ok__law_ratio U__law_ratio T C__law_common) fun _ _ _ _ _ _ us hl i hi => bk__law_ratio us hl i hi
  have C__law_slot : At l.prog w K mg base 3 "_law_slot" ["_law_source_here"] F__law_slot := at_mk U__law_slot (PySem.W.mg_of X G a__law_slot) (ok__law_slot U__law_slot T C__law_about C__law_draw C__law_low C__law_pick) fun _ _ _ _ _ _ us hl i hi => bk__law_slot us hl i hi
  have C__law_signed : At l.prog w K mg base 3 "_law_signed" ["_law_pair"] F__law_signed := at_mk U__law_signed (PySem.W.mg_of X G a__law_signed) (ok__law_signed U__law_signed T C__law_low) fun _ _ _ _ _ _ us hl i hi => bk__law_signed us hl i hi
  have C__law_summed : At l.prog w K mg base 4 "_law_summed" ["_law_one", "_law_two"] F__law_summed := at_mk U__law_summed (PySem.W.mg_of X G a__law_summed) (ok__law_summed U__law_summed T C__law_signed) fun _ _ _ _ _ _ us hl i hi => bk__law_summed us hl i hi
  have C__law_form : At l.prog w K mg base 1 "_law_form" ["_law_row", "_law_slot_here"] F__law_form := at_mk U__law_form (PySem.W.mg_of X G a__law_form) (ok__law_form U__law_form T ) fun _ _ _ _ _ _ us hl i hi => bk__law_form us hl i hi
  have C__law_at : At l.prog w K mg base 3 "_law_at" ["_law_row", "_law_slot_here"] F__law_at_K36 := at_mk U__law_at (PySem.W.mg_of X G a__law_at) (ok__law_at U__law_at T C__law_form C__law_ratio) fun _ _ _ _ _ _ us hl i hi => bk__law_at us hl i hi
  have C__law_quad : At l.prog w K mg base 3 "_law_quad" ["_law_source_here"] F__law_quad := at_mk U__law_quad (PySem.W.mg_of X G a__law_quad) (ok__law_quad U__law_quad T C__law_about C__law_draw C__law_pick) fun _ _ _ _ _ _ us hl i hi => bk__law_quad us hl i hi
  have C__law_folded : At l.prog w K mg base 1 "_law_folded" ["_law_one", "_law_two"] F__law_folded := at_mk U__law_folded (PySem.W.mg_of X G a__law_folded) (ok__law_folded U__law_folded T ) fun _ _ _ _ _ _ us hl i hi => bk__law_folded us hl i hi
  have C__law_course : At l.prog w K mg base 4 "_law_course" ["_law_source_here"] F__law_course := at_mk U__law_course (PySem.W.mg_of X G a__law_course) (ok__law_course U__law_course T C__law_about C__law_draw C__law_folded C__law_low C__law_quad C__law_ratio) fun _ _ _ _ _ _ us hl i hi => bk__law_course us hl i hi
  have C__law_is_turned : At l.prog w K mg base 7 "_law_is_turned" ["_law_told", "_law_row", "_law_slot_here", "_law_more"] F__law_is_turned := at_mk U__law_is_turned (PySem.W.mg_of X G a__law_is_turned) (ok__law_is_turned U__law_is_turned T C__law_at C__law_low C__law_summed C_is_course C_level_at) fun _ _ _ _ _ _ us hl i hi => bk__law_is_turned us hl i hi
  have C__law_right : At l.prog w K mg base 8 "_law_right" ["_law_source_here"] F__law_right_K36 := at_mk U__law_right (PySem.W.mg_of X G a__law_right) (ok__law_right U__law_right T C__law_course C__law_is_turned C__law_ratio C__law_slot C__law_summed C_course_parts C_setting_back C_setting_sum C_turned_course C_turned_course_by10) fun _ _ _ _ _ _ us hl i hi => bk__law_right us hl i hi
  exact ok_law U_law T C__law_right C__law_source
end K36


set_option Elab.async false
set_option linter.all false
set_option maxRecDepth 100000
set_option maxHeartbeats 4000000
set_option exponentiation.threshold 20000
namespace PL
open PySem PySem.Spec L2 DL
local macro_rules | `(tactic| simp! [$as,*]) => `(tactic| simp only [fThaw, fThawT, fThawL, thawD, thawO, noL, noLAll, fAug, gAug, fRev, fFnA, fCallV, fBot, fZip, zipD, gSum, intsOf, List.foldl_cons, List.foldl_nil, mkF, fRet, fRetL, fRetN, fSkip, fSeq, fNever, fSet, fAsg, fNew, fIfS, fDrop, fPar, fPar3, fSetc, fSetc2, fVar, fLit, fOp, fUn, fTup, fTup.datsOf, fLst, fNilA, fConsA, fStarA, fCelA, fOfL, fTru, fAndT, fOrT, fNotT, fAndV, fOrV, fNotV, fIf, fBi, fCall, fCallL, fCallFr, fPerm, callF, celOf, celsOk, norm, aName, aNil, aCons, aTup, setD, fSl, fIt, fItL, fItT, fFor, forGo, fLc, lcGo, fYes, wipeD, fCix, fList, fSlL, fPart, fNoPart, fChain, List.length_cons, List.length_nil, List.getElem?_cons_zero, List.getElem?_cons_succ, List.getElem?_nil, List.set_cons_zero, List.set_cons_succ, List.map_cons, List.map_nil, List.cons_append, List.nil_append, List.append_nil, List.replicate, List.take_zero, List.take_nil, List.take_succ_cons, ↓bsome, ↓msome, Option.bind_some, Option.map_some, Option.bind_none, Option.map_none, Nat.sub_self, Int.cast_ofNat_Int, Nat.reduceAdd, Nat.reduceMul, Nat.reduceSub, Nat.reduceLeDiff, Nat.reduceLT, Nat.zero_add, Nat.add_zero, and_self, and_true, true_and, if_true, if_false, ↓reduceIte, ite_true, Bool.true_eq_false, Bool.false_eq_true, beq_self_eq_true, Bool.and_self, Bool.not_true, Bool.not_false, decide_true, decide_false, gLen, gTyIs, gTyNot, tyOf, gNeg, gPlus, DL.gSub, gCmp, gInt, gAbs, gTuple, gMax, gMin, gGcd, LIM, gIx, $as,*])
theorem permW {α : Type} (x y : α) : perm [1, 0] [x, y] = [y, x] := rfl
theorem core36 {x0 x1 x2 x3 x4 n N : Int} {fr S F M H T Y V U B G R p1 p2 p3 p4 tr1 tr2 tr3 : PyData} {t t1 t2 t3 t4 : List PyData}
    (y1 : F__law_course [.cel 0] [t] = some (.dat (.tuple [T6 x0 x1 x2 x3 x4 n, fr]), [t1])) (y2 : F__law_slot [.cel 0] [t1] = some (.dat S, [t2])) (y3 : F__law_slot [.cel 0] [t2] = some (.dat F, [t3])) (y4 : F__law_slot [.cel 0] [t3] = some (.dat M, [t4]))
    (a1 : F_turned_course [.dat (T6 x0 x1 x2 x3 x4 n), .dat S] [] = some (.dat T, [])) (s1 : F__law_summed [.dat S, .dat F] [] = some (.dat H, [])) (a2 : F_turned_course [.dat T, .dat F] [] = some (.dat Y, []))
    (i1 : F__law_is_turned [.dat T, .dat (T6 x0 x1 x2 x3 x4 n), .dat S, .dat M] [] = some (.dat (.bool true), [])) (i2 : F__law_is_turned [.dat Y, .dat (T6 x0 x1 x2 x3 x4 n), .dat H, .dat M] [] = some (.dat (.bool true), []))
    (a3 : F_turned_course [.dat (T6 x0 x1 x2 x3 x4 n), .dat F] [] = some (.dat U, [])) (a4 : F_turned_course [.dat U, .dat S] [] = some (.dat V, []))
    (a5 : F_turned_course [.dat (T6 x0 x1 x2 x3 x4 n), .dat (T2 0 1)] [] = some (.dat (T6 x0 x1 x2 x3 x4 n), [])) (b1 : F_setting_back [.dat S] [] = some (.dat B, [])) (a6 : F_turned_course [.dat T, .dat B] [] = some (.dat (T6 x0 x1 x2 x3 x4 n), []))
    (r1 : gRepr [.list [T, T6 x0 x1 x2 x3 x4 n, T6 x0 x1 x2 x3 x4 n]] = some tr1) (q1 : gNe tr1 tr1 = some (.bool false)) (b2 : F_setting_sum [.dat S, .dat F] [] = some (.dat G, [])) (a7 : F_turned_course [.dat (T6 x0 x1 x2 x3 x4 n), .dat G] [] = some (.dat V, [])) (r2 : gRepr [V] = some tr2) (q2 : gNe tr2 tr2 = some (.bool false))
    (b3 : F_course_parts [.dat T] [] = some (.dat (.tuple [R, p1, p2, p3, p4]), [])) (m3a : gMul (.int 3) (.int x0) = some (.int (3 * x0))) (m3b : gMul (.int 3) (.int x4) = some (.int (3 * x4))) (m8 : gMul (.int 8) (.int n) = some (.int N)) (b4 : F__law_ratio_K36 [.dat (.int (3 * x0 + x2 + 3 * x4)), .dat (.int N)] [] = some (.dat R, [])) (r3 : gRepr [R] = some tr3) (q3 : gEq tr3 tr3 = some (.bool true)) :
    F__law_right_K36 [.cel 0] [t] = some (.dat (.bool true), [t4]) := by
  have i0 : atI [PyData.int x0, .int x1, .int x2, .int x3, .int x4, .int n] 0 = some (.int x0) := rfl
  have j2 : atI [PyData.int x0, .int x1, .int x2, .int x3, .int x4, .int n] 2 = some (.int x2) := rfl
  have j4 : atI [PyData.int x0, .int x1, .int x2, .int x3, .int x4, .int n] 4 = some (.int x4) := rfl
  have j5 : atI [PyData.int x0, .int x1, .int x2, .int x3, .int x4, .int n] 5 = some (.int n) := rfl
  have c0 : (fSet 1 (fOp gIx (fCall F__law_course (fCelA 0 fNilA)) (fLit (.int 0)))) ⟨[some (.cel 0), none, none, none, none, none, none, none, none], [t]⟩ = some (.nx ⟨[some (.cel 0), some (.dat (T6 x0 x1 x2 x3 x4 n)), none, none, none, none, none, none, none], [t1]⟩) := by
    simp! [y1, gIx, ix2_0]
  have c1 : (fPar 4 5 (fConsA (fCall F__law_slot (fCelA 0 fNilA)) (fConsA (fCall F__law_slot (fCelA 0 fNilA)) fNilA))) ⟨[some (.cel 0), some (.dat (T6 x0 x1 x2 x3 x4 n)), none, none, none, none, none, none, none], [t1]⟩ = some (.nx ⟨[some (.cel 0), some (.dat (T6 x0 x1 x2 x3 x4 n)), none, none, some (.dat S), some (.dat F), none, none, none], [t3]⟩) := by
    simp! [y2, y3]
  have c2 : (fPar3 6 7 8 (fConsA (fCall F_turned_course (fConsA (fVar 1) (fConsA (fVar 4) fNilA))) (fConsA (fCall F__law_slot (fCelA 0 fNilA)) (fConsA (fCall F__law_summed (fConsA (fVar 4) (fConsA (fVar 5) fNilA))) fNilA)))) ⟨[some (.cel 0), some (.dat (T6 x0 x1 x2 x3 x4 n)), none, none, some (.dat S), some (.dat F), none, none, none], [t3]⟩ = some (.nx ⟨[some (.cel 0), some (.dat (T6 x0 x1 x2 x3 x4 n)), none, none, some (.dat S), some (.dat F), some (.dat T), some (.dat M), some (.dat H)], [t4]⟩) := by
    simp! [a1, y4, s1]
  have c3 : (fIfS (fOrT (fNotT (fTru (fCall F__law_is_turned (fConsA (fVar 6) (fConsA (fVar 1) (fConsA (fVar 4) (fConsA (fVar 7) fNilA))))))) (fNotT (fTru (fCall F__law_is_turned (fConsA (fCall F_turned_course (fConsA (fVar 6) (fConsA (fVar 5) fNilA))) (fConsA (fVar 1) (fConsA (fVar 8) (fConsA (fVar 7) fNilA)))))))) (fRet (fLit (.bool false))) fSkip) ⟨[some (.cel 0), some (.dat (T6 x0 x1 x2 x3 x4 n)), none, none, some (.dat S), some (.dat F), some (.dat T), some (.dat M), some (.dat H)], [t4]⟩ = some (.nx ⟨[some (.cel 0), some (.dat (T6 x0 x1 x2 x3 x4 n)), none, none, some (.dat S), some (.dat F), some (.dat T), some (.dat M), some (.dat H)], [t4]⟩) := by
    simp! [a2, i1, i2]
  have c4 : (fSet 2 (fCall F_turned_course (fConsA (fCall F_turned_course (fConsA (fVar 1) (fConsA (fVar 5) fNilA))) (fConsA (fVar 4) fNilA)))) ⟨[some (.cel 0), some (.dat (T6 x0 x1 x2 x3 x4 n)), none, none, some (.dat S), some (.dat F), some (.dat T), some (.dat M), some (.dat H)], [t4]⟩ = some (.nx ⟨[some (.cel 0), some (.dat (T6 x0 x1 x2 x3 x4 n)), some (.dat V), none, some (.dat S), some (.dat F), some (.dat T), some (.dat M), some (.dat H)], [t4]⟩) := by
    simp! [a3, a4]
  have c5 : (fSet 3 (fOfL (fLst (fConsA (fCall F_turned_course (fPerm [1, 0] (fConsA (fVar 4) (fConsA (fVar 1) fNilA)))) (fConsA (fCall F_turned_course (fConsA (fVar 1) (fConsA (fTup (fConsA (fLit (.int 0)) (fConsA (fLit (.int 1)) fNilA))) fNilA))) (fConsA (fCall F_turned_course (fConsA (fVar 6) (fConsA (fCall F_setting_back (fConsA (fVar 4) fNilA)) fNilA))) fNilA)))))) ⟨[some (.cel 0), some (.dat (T6 x0 x1 x2 x3 x4 n)), some (.dat V), none, some (.dat S), some (.dat F), some (.dat T), some (.dat M), some (.dat H)], [t4]⟩ = some (.nx ⟨[some (.cel 0), some (.dat (T6 x0 x1 x2 x3 x4 n)), some (.dat V), some (.dat (.list [T, (T6 x0 x1 x2 x3 x4 n), (T6 x0 x1 x2 x3 x4 n)])), some (.dat S), some (.dat F), some (.dat T), some (.dat M), some (.dat H)], [t4]⟩) := by
    simp! [permW, a1, a5, b1, a6]
  have c6 : (fIfS (fOrT (fTru (fOp gNe (fBi gRepr (fConsA (fVar 3) fNilA)) (fBi gRepr (fConsA (fOfL (fLst (fConsA (fVar 6) (fConsA (fVar 1) (fConsA (fVar 1) fNilA))))) fNilA)))) (fTru (fOp gNe (fBi gRepr (fConsA (fCall F_turned_course (fConsA (fVar 1) (fConsA (fCall F_setting_sum (fConsA (fVar 4) (fConsA (fVar 5) fNilA))) fNilA))) fNilA)) (fBi gRepr (fConsA (fVar 2) fNilA))))) (fRet (fLit (.bool false))) fSkip) ⟨[some (.cel 0), some (.dat (T6 x0 x1 x2 x3 x4 n)), some (.dat V), some (.dat (.list [T, (T6 x0 x1 x2 x3 x4 n), (T6 x0 x1 x2 x3 x4 n)])), some (.dat S), some (.dat F), some (.dat T), some (.dat M), some (.dat H)], [t4]⟩ = some (.nx ⟨[some (.cel 0), some (.dat (T6 x0 x1 x2 x3 x4 n)), some (.dat V), some (.dat (.list [T, (T6 x0 x1 x2 x3 x4 n), (T6 x0 x1 x2 x3 x4 n)])), some (.dat S), some (.dat F), some (.dat T), some (.dat M), some (.dat H)], [t4]⟩) := by
    simp! [r1, q1, b2, a7, r2, q2]
  have c7 : (fRet (fOp gEq (fBi gRepr (fConsA (fOp gIx (fCall F_course_parts (fConsA (fVar 6) fNilA)) (fLit (.int 0))) fNilA)) (fBi gRepr (fConsA (fCall F__law_ratio_K36 (fConsA (fOp gPlus (fOp gPlus (fOp gMul (fLit (.int 3)) (fOp gIx (fVar 1) (fLit (.int 0)))) (fOp gIx (fVar 1) (fLit (.int 2)))) (fOp gMul (fLit (.int 3)) (fOp gIx (fVar 1) (fLit (.int 4))))) (fConsA (fOp gMul (fLit (.int 8)) (fOp gIx (fVar 1) (fLit (.int 5)))) fNilA))) fNilA)))) ⟨[some (.cel 0), some (.dat (T6 x0 x1 x2 x3 x4 n)), some (.dat V), some (.dat (.list [T, (T6 x0 x1 x2 x3 x4 n), (T6 x0 x1 x2 x3 x4 n)])), some (.dat S), some (.dat F), some (.dat T), some (.dat M), some (.dat H)], [t4]⟩ = some (.rt (.dat (.bool true)) [t4]) := by
    simp! [gIx, ix5_0, i0, j2, j4, j5, b3, m3a, m3b, m8, b4, r3, q3]
  exact fn_ok (np := 1) (nN := 9) (n0 := 1) ((seq_nx c0).trans ((seq_nx c1).trans ((seq_nx c2).trans ((seq_nx c3).trans ((seq_nx c4).trans ((seq_nx c5).trans ((seq_nx c6).trans (c7)))))))) ⟨rfl, rfl⟩ rfl
theorem nice6 {m : Nat} {a b c d e f : Int} (ha : Sz m a) (hb : Sz m b) (hc : Sz m c) (hd : Sz m d) (he : Sz m e) (hf : Sz m f) : Nice m (T6 a b c d e f) :=
  nice_tup (nice_cons (nice_int ha) (nice_cons (nice_int hb) (nice_cons (nice_int hc) (nice_cons (nice_int hd) (nice_cons (nice_int he) (nice_cons (nice_int hf) nice_nil))))))
theorem co_nice {m : Nat} {x0 x1 x2 x3 x4 n : Int} (C : Co m x0 x1 x2 x3 x4 n) : Nice m (T6 x0 x1 x2 x3 x4 n) := nice6 C.s0 C.s1 C.s2 C.s3 C.s4 C.sn
theorem e_right36 {k : Nat} {t : List PyData} (h : Src (k + 30) t) : ∃ t', F__law_right_K36 [.cel 0] [t] = some (.dat (.bool true), [t']) := by
  obtain ⟨x0, x1, x2, x3, x4, n, fr, t1, y1, h1, C⟩ := w_course (k := k + 12) h
  obtain ⟨a, b, t2, y2, h2, S⟩ := w_slot (k := k + 8) h1
  obtain ⟨c, f, t3, y3, h3, F⟩ := w_slot (k := k + 4) h2
  obtain ⟨p, q, t4, y4, h4, M⟩ := w_slot (k := k) h3
  have n0 := C.n0
  obtain ⟨u0, u1, u2, u3, u4, ud, a1, CT, TT⟩ := w_turned C S (by decide) (by decide)
  have hT := TT
  obtain ⟨v0, v1, v2, v3, v4, vd, a2, CY, TY⟩ := w_turned CT F (by decide) (by decide)
  obtain ⟨w0, w1, w2, w3, w4, wd, a3, CU, TU⟩ := w_turned C F (by decide) (by decide)
  obtain ⟨z0, z1, z2, z3, z4, zd, a4, CV, TV⟩ := w_turned CU S (by decide) (by decide)
  have s1 := w_summed S F (by decide)
  have b2 := w_setsum S F (by decide)
  have hn := sum_nz S F
  obtain ⟨G, g, g0, e1, e2⟩ := sg_ok hn (s := 17) (((S.sa.mul F.sb).add (F.sa.mul S.sb)).by _ (by decide)) (((S.sb.mul F.sb).sub (S.sa.mul F.sa)).by _ (by decide)) (by decide)
  have TY' := tn_comp TT TY (by have := CT.n0; omega)
  have TV' := tn_comp TU TV (by have := CU.n0; omega)
  rw [show c * b + a * f = a * f + c * b by grind, show f * b - c * a = b * f - a * c by grind] at TV'
  generalize sgA (a * f + c * b) (b * f - a * c) = A at *
  generalize sgB (a * f + c * b) (b * f - a * c) = B at *
  rw [e1, e2] at TY' TV'
  have TYs := tn_sign TY' g0
  have TVs := tn_sign TV' g0
  have S8 : Sg 8 (0 : Int) 1 := ⟨by decide, by decide, by decide, sz_0.by _ (by decide), sz_1.by _ (by decide)⟩
  obtain ⟨o0, o1, o2, o3, o4, od, a5, CO, TO⟩ := w_turned C S8 (by decide) (by decide)
  have L01 : Ls 0 1 ≠ 0 := by decide
  have eO := tn_uniq CO C TO tn_id (by omega) L01
  rw [eO] at a5
  obtain ⟨A', B', b1, SB, g', g0', e1', e2'⟩ := w_back S
  obtain ⟨l0, l1, l2, l3, l4, ld, a6, CL, TL⟩ := w_turned CT SB (by decide) (by decide)
  have TL' := tn_comp TT TL (by have := CT.n0; omega)
  rw [e1', e2'] at TL'
  have eL := tn_uniq CL C (tn_sign TL' g0') tn_id (by omega) L01
  rw [eL] at a6
  obtain ⟨r0, r1, r2, r3, r4, rd, a7, CR, TR⟩ := w_turned C G (by decide) (by decide)
  have eR := tn_uniq CR CV TR TVs (by omega) (by have := ls_pos G; omega)
  rw [eR] at a7
  have i1 := w_isturned (CT.up (by decide : _ ≤ 248)) (C.up (by decide : 24 ≤ 248)) S M TT (by decide) (by decide)
  have i2 := w_isturned (CY.up (by decide : _ ≤ 248)) (C.up (by decide : 24 ≤ 248)) G (M.up (by decide : 8 ≤ 18)) TYs (by decide) (by decide)
  obtain ⟨p1, p2, p3, p4, b3⟩ := w_parts (CT.up (by decide : _ ≤ 248)) (by decide)
  have mean := tn_mean TT
  have s3 : Sz 4 (3 : Int) := Sm.sz (show (3 : Int).natAbs < 2 ^ 4 by decide)
  have s8 : Sz 4 (8 : Int) := Sm.sz (show (8 : Int).natAbs < 2 ^ 4 by decide)
  have m3a := gMul_ok (s3.sm (m := 4000)) (C.s0.sm (m := 4000))
  have m3b := gMul_ok (s3.sm (m := 4000)) (C.s4.sm (m := 4000))
  have m8 := gMul_ok (s8.sm (m := 4000)) (C.sn.sm (m := 4000))
  have sS : Sz 40 (3 * x0 + x2 + 3 * x4) := (((s3.mul C.s0).add C.s2).add (s3.mul C.s4)).by _ (by decide)
  have b4 := w_ratio (p := 3 * x0 + x2 + 3 * x4) (q := 8 * n) (by omega) sS.sm ((s8.mul C.sn).sm)
  have ud0 := CT.n0
  have eM : Rt (3 * u0 + u2 + 3 * u4) (8 * ud) = Rt (3 * x0 + x2 + 3 * x4) (8 * n) := rt_eq (by omega) (by omega) (by
    have L0 := ls_pos S
    have LL : Ls a b * Ls a b ≠ 0 := Int.mul_ne_zero (by omega) (by omega)
    refine Int.eq_of_mul_eq_mul_left LL ?_
    generalize Ls a b * Ls a b = L at *
    generalize 3 * u0 + u2 + 3 * u4 = P at *
    generalize 3 * x0 + x2 + 3 * x4 = Q at *
    have q1 : L * (P * (8 * n)) = 8 * (P * (n * L)) := by grind
    rw [q1, mean]
    grind)
  rw [eM] at b3
  have F8 := rt_fr (n := 60) (p := 3 * x0 + x2 + 3 * x4) (q := 8 * n) (by omega) (sS.by _ (by decide)) ((s8.mul C.sn).by _ (by decide))
  have nR : Nice 60 (Rt (3 * x0 + x2 + 3 * x4) (8 * n)) := nice2 F8.sp F8.sq
  obtain ⟨tr3, R1, _, R3⟩ := rep_R nR
  have nT := co_nice (CT.up (by decide : _ ≤ 248))
  have nX := co_nice (C.up (by decide : 24 ≤ 248))
  obtain ⟨tr1, Q1, Q2, _⟩ := rep_R (nice_list (nice_cons nT (nice_cons nX (nice_cons nX nice_nil))))
  obtain ⟨tr2, V1, V2, _⟩ := rep_R (co_nice (CV.up (by decide : _ ≤ 248)))
  exact ⟨t4, core36 y1 y2 y3 y4 a1 s1 a2 i1 i2 a3 a4 a5 b1 a6 Q1 Q2 b2 a7 V1 V2 b3 m3a m3b m8 b4 R1 R3⟩
theorem math_K36 (ns : List Int) (hl : ns.length ≤ 63) : ∃ c, F_law_K36 [.dat (.list (ns.map PyData.int))] [] = some (.dat (.bool true), c) :=
  src_ok (FR := F__law_right_K36) (m := 4) (by decide) (by decide) (fun t ht => by
    obtain ⟨t', e⟩ := e_right36 (k := 0) (ht.le (by decide))
    exact ⟨_, e⟩) ns
end PL


set_option Elab.async false
set_option linter.all false
open PySem PySem.W PyProof.Rows
set_option maxRecDepth 100000 in
set_option maxHeartbeats 0 in
theorem PySem.Challenge.cw_platelights_k36_whole_turned_courses_holds : PySem.Challenge.rw_platelights_k36_whole_turned_courses.Holds := by
  w_on; o_law; k_head; (case hw => w_witness2)
  k_fill
  refine DL.walk_G (l := PySem.Challenge.rw_platelights_k36_whole_turned_courses) (n := 63) (k := 9) (x := "_law_script") rfl (by decide) rfl ⟨rfl, by decide, by decide⟩ (fun w h Y => PySem.W.kIn_of Y) ?F (fun ns hl => PL.math_K36 ns hl)
  case F =>
    intro w mg fa h KX G hmg
    refine' K36.all_mk KX G hmg ?a_is_whole ?l_is_whole ?c_is_whole ?k_is_whole ?a_is_row ?l_is_row ?c_is_row ?k_is_row ?a_divisor_of ?l_divisor_of ?c_divisor_of ?k_divisor_of ?a_is_reduced_row ?l_is_reduced_row ?c_is_reduced_row ?k_is_reduced_row ?a_reduced ?l_reduced ?c_reduced ?k_reduced ?a_dot ?l_dot ?c_dot ?k_dot ?a_combined ?l_combined ?c_combined ?k_combined ?a_ratio ?l_ratio ?c_ratio ?k_ratio ?a_trimmed ?l_trimmed ?c_trimmed ?k_trimmed ?a_polynomial_product ?l_polynomial_product ?c_polynomial_product ?k_polynomial_product ?a_value_at ?l_value_at ?c_value_at ?k_value_at ?a_is_setting ?l_is_setting ?c_is_setting ?k_is_setting ?a_check_setting ?l_check_setting ?c_check_setting ?k_check_setting ?a_is_course ?l_is_course ?c_is_course ?k_is_course ?a_check_course ?l_check_course ?c_check_course ?k_check_course ?a__length_of ?l__length_of ?c__length_of ?k__length_of ?a_level_at ?l_level_at ?c_level_at ?k_level_at ?a__power ?l__power ?c__power ?k__power ?a__weighed_course ?l__weighed_course ?c__weighed_course ?k__weighed_course ?a_turned_course ?l_turned_course ?c_turned_course ?k_turned_course ?a_course_parts ?l_course_parts ?c_course_parts ?k_course_parts ?a_setting_sum ?l_setting_sum ?c_setting_sum ?k_setting_sum ?a_setting_back ?l_setting_back ?c_setting_back ?k_setting_back ?a__law_source ?l__law_source ?c__law_source ?k__law_source ?a__law_draw ?l__law_draw ?c__law_draw ?k__law_draw ?a__law_pick ?l__law_pick ?c__law_pick ?k__law_pick ?a__law_about ?l__law_about ?c__law_about ?k__law_about ?a__law_common ?l__law_common ?c__law_common ?k__law_common ?a__law_low ?l__law_low ?c__law_low ?k__law_low ?a__law_ratio ?l__law_ratio ?c__law_ratio ?k__law_ratio ?a__law_slot ?l__law_slot ?c__law_slot ?k__law_slot ?a__law_signed ?l__law_signed ?c__law_signed ?k__law_signed ?a__law_summed ?l__law_summed ?c__law_summed ?k__law_summed ?a__law_form ?l__law_form ?c__law_form ?k__law_form ?a__law_at ?l__law_at ?c__law_at ?k__law_at ?a__law_quad ?l__law_quad ?c__law_quad ?k__law_quad ?a__law_folded ?l__law_folded ?c__law_folded ?k__law_folded ?a__law_course ?l__law_course ?c__law_course ?k__law_course ?a__law_is_turned ?l__law_is_turned ?c__law_is_turned ?k__law_is_turned ?a__law_right ?l__law_right ?c__law_right ?k__law_right ?a_law ?l_law ?c_law ?k_law ?z_gcd ?z_lcm ?z_abs ?z_all ?z_bool ?z_divmod ?z_enumerate ?z_int ?z_isinstance ?z_len ?z_max ?z_min ?z_range ?z_repr ?z_reversed ?z_sum ?z_tuple ?z_type ?z_zip ?y__ROWS_OF_PARTS ?t_q_ROWS_OF_PARTS30 ?t_q_ROWS_OF_PARTS29 ?t_q_ROWS_OF_PARTS23 ?t_q_ROWS_OF_PARTS17 ?t_q_ROWS_OF_PARTS11 ?t_q_ROWS_OF_PARTS5
    (case a_is_whole => k_is)
    (case l_is_whole => k_is)
    (case c_is_whole => k_is)
    (case k_is_whole => k_is)
    (case a_is_row => k_is)
    (case l_is_row => k_is)
    (case c_is_row => k_is)
    (case k_is_row => k_is)
    (case a_divisor_of => k_is)
    (case l_divisor_of => k_is)
    (case c_divisor_of => k_is)
    (case k_divisor_of => k_is)
    (case a_is_reduced_row => k_is)
    (case l_is_reduced_row => k_is)
    (case c_is_reduced_row => k_is)
    (case k_is_reduced_row => k_is)
    (case a_reduced => k_is)
    (case l_reduced => k_is)
    (case c_reduced => k_is)
    (case k_reduced => k_is)
    (case a_dot => k_is)
    (case l_dot => k_is)
    (case c_dot => k_is)
    (case k_dot => k_is)
    (case a_combined => k_is)
    (case l_combined => k_is)
    (case c_combined => k_is)
    (case k_combined => k_is)
    (case a_ratio => k_is)
    (case l_ratio => k_is)
    (case c_ratio => k_is)
    (case k_ratio => k_is)
    (case a_trimmed => k_is)
    (case l_trimmed => k_is)
    (case c_trimmed => k_is)
    (case k_trimmed => k_is)
    (case a_polynomial_product => k_is)
    (case l_polynomial_product => k_is)
    (case c_polynomial_product => k_is)
    (case k_polynomial_product => k_is)
    (case a_value_at => k_is)
    (case l_value_at => k_is)
    (case c_value_at => k_is)
    (case k_value_at => k_is)
    (case a_is_setting => k_is)
    (case l_is_setting => k_is)
    (case c_is_setting => k_is)
    (case k_is_setting => k_is)
    (case a_check_setting => k_is)
    (case l_check_setting => k_is)
    (case c_check_setting => k_is)
    (case k_check_setting => k_is)
    (case a_is_course => k_is)
    (case l_is_course => k_is)
    (case c_is_course => k_is)
    (case k_is_course => k_is)
    (case a_check_course => k_is)
    (case l_check_course => k_is)
    (case c_check_course => k_is)
    (case k_check_course => k_is)
    (case a__length_of => k_is)
    (case l__length_of => k_is)
    (case c__length_of => k_is)
    (case k__length_of => k_is)
    (case a_level_at => k_is)
    (case l_level_at => k_is)
    (case c_level_at => k_is)
    (case k_level_at => k_is)
    (case a__power => k_is)
    (case l__power => k_is)
    (case c__power => k_is)
    (case k__power => k_is)
    (case a__weighed_course => k_is)
    (case l__weighed_course => k_is)
    (case c__weighed_course => k_is)
    (case k__weighed_course => k_is)
    (case a_turned_course => k_is)
    (case l_turned_course => k_is)
    (case c_turned_course => k_is)
    (case k_turned_course => k_is)
    (case a_course_parts => k_is)
    (case l_course_parts => k_is)
    (case c_course_parts => k_is)
    (case k_course_parts => k_is)
    (case a_setting_sum => k_is)
    (case l_setting_sum => k_is)
    (case c_setting_sum => k_is)
    (case k_setting_sum => k_is)
    (case a_setting_back => k_is)
    (case l_setting_back => k_is)
    (case c_setting_back => k_is)
    (case k_setting_back => k_is)
    (case a__law_source => k_is)
    (case l__law_source => k_is)
    (case c__law_source => k_is)
    (case k__law_source => k_is)
    (case a__law_draw => k_is)
    (case l__law_draw => k_is)
    (case c__law_draw => k_is)
    (case k__law_draw => k_is)
    (case a__law_pick => k_is)
    (case l__law_pick => k_is)
    (case c__law_pick => k_is)
    (case k__law_pick => k_is)
    (case a__law_about => k_is)
    (case l__law_about => k_is)
    (case c__law_about => k_is)
    (case k__law_about => k_is)
    (case a__law_common => k_is)
    (case l__law_common => k_is)
    (case c__law_common => k_is)
    (case k__law_common => k_is)
    (case a__law_low => k_is)
    (case l__law_low => k_is)
    (case c__law_low => k_is)
    (case k__law_low => k_is)
    (case a__law_ratio => k_is)
    (case l__law_ratio => k_is)
    (case c__law_ratio => k_is)
    (case k__law_ratio => k_is)
    (case a__law_slot => k_is)
    (case l__law_slot => k_is)
    (case c__law_slot => k_is)
    (case k__law_slot => k_is)
    (case a__law_signed => k_is)
    (case l__law_signed => k_is)
    (case c__law_signed => k_is)
    (case k__law_signed => k_is)
    (case a__law_summed => k_is)
    (case l__law_summed => k_is)
    (case c__law_summed => k_is)
    (case k__law_summed => k_is)
    (case a__law_form => k_is)
    (case l__law_form => k_is)
    (case c__law_form => k_is)
    (case k__law_form => k_is)
    (case a__law_at => k_is)
    (case l__law_at => k_is)
    (case c__law_at => k_is)
    (case k__law_at => k_is)
    (case a__law_quad => k_is)
    (case l__law_quad => k_is)
    (case c__law_quad => k_is)
    (case k__law_quad => k_is)
    (case a__law_folded => k_is)
    (case l__law_folded => k_is)
    (case c__law_folded => k_is)
    (case k__law_folded => k_is)
    (case a__law_course => k_is)
    (case l__law_course => k_is)
    (case c__law_course => k_is)
    (case k__law_course => k_is)
    (case a__law_is_turned => k_is)
    (case l__law_is_turned => k_is)
    (case c__law_is_turned => k_is)
    (case k__law_is_turned => k_is)
    (case a__law_right => k_is)
    (case l__law_right => k_is)
    (case c__law_right => k_is)
    (case k__law_right => k_is)
    (case a_law => k_is)
    (case l_law => k_is)
    (case c_law => k_is)
    (case k_law => k_is)
    (case z_gcd => k_is)
    (case z_lcm => k_is)
    (case z_abs => k_is)
    (case z_all => k_is)
    (case z_bool => k_is)
    (case z_divmod => k_is)
    (case z_enumerate => k_is)
    (case z_int => k_is)
    (case z_isinstance => k_is)
    (case z_len => k_is)
    (case z_max => k_is)
    (case z_min => k_is)
    (case z_range => k_is)
    (case z_repr => k_is)
    (case z_reversed => k_is)
    (case z_sum => k_is)
    (case z_tuple => k_is)
    (case z_type => k_is)
    (case z_zip => k_is)
    (case y__ROWS_OF_PARTS => k_is)
    (case t_q_ROWS_OF_PARTS30 => k_is)
    (case t_q_ROWS_OF_PARTS29 => k_is)
    (case t_q_ROWS_OF_PARTS23 => k_is)
    (case t_q_ROWS_OF_PARTS17 => k_is)
    (case t_q_ROWS_OF_PARTS11 => k_is)
    (case t_q_ROWS_OF_PARTS5 => k_is)

