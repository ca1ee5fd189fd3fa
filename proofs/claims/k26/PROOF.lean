import PyProof.Rows.All
import Wide.All
import OpenK.AllK
import Wide.FinOn
import HandS.Base
import HandS.Call
import HandS.List
import HandS.Comp
import HandS.Ends
import HandS.Iter
import HandS.Walk
import HandS.Words
import HandS.Wide
import HandS.WideBits
import HandS.Gcd
import HandS.IsInst
import HandS.More
import HandS.Style
import HandS.Conv
import HandS.RaiseMore
import PyProof.ReprRoads
import HandS.TupAny
import HandS.Zip
import PySem.Challenge.RW_platelights_k26_turns_joined_back_times
set_option Elab.async false
set_option linter.all false
set_option maxRecDepth 100000
set_option maxHeartbeats 4000000
/-! A layer of my own over the hand layer: plain data, evaluated without the heap. -/
namespace DL
open PySem PySem.Spec L2
open PyProof.Rows hiding St

/-! ### heaps -/
def hid (hs : List Addr) (H : Hp) : Hp := fun a => if a ∈ hs then none else H a
theorem hid_out {hs : List Addr} {H : Hp} {a : Addr} (h : a ∉ hs) : hid hs H a = H a := if_neg h
theorem hid_some {hs : List Addr} {H : Hp} {a : Addr} {o : HO} (h : hid hs H a = some o) : a ∉ hs ∧ H a = some o := by
  unfold hid at h
  by_cases m : a ∈ hs
  · rw [if_pos m] at h; cases h
  · rw [if_neg m] at h; exact ⟨m, h⟩
def Sub (G H : Hp) : Prop := ∀ a o, G a = some o → H a = some o
theorem Sub.refl (H : Hp) : Sub H H := fun _ _ h => h
theorem hid_sub {hs : List Addr} {H : Hp} : Sub (hid hs H) H := fun _ _ h => (hid_some h).2
def Step (ps : List Addr) (H H' : Hp) : Prop := ∀ a o, a ∉ ps → H a = some o → H' a = some o
theorem Step.refl {ps : List Addr} (H : Hp) : Step ps H H := fun _ _ _ h => h
theorem Step.trans {ps : List Addr} {H H1 H2 : Hp} (a : Step ps H H1) (b : Step ps H1 H2) : Step ps H H2 := fun x o n h => b x o n (a x o n h)
theorem Step.mono {ps qs : List Addr} {H H1 : Hp} (a : Step ps H H1) (h : ∀ p ∈ ps, p ∈ qs) : Step qs H H1 := fun x o n q => a x o (fun m => n (h x m)) q
theorem Step.new {ps : List Addr} {H : Hp} {p : Addr} {o : HO} (h : H p = none) : Step ps H (upd H p o) := fun a u _ e => by
  rw [upd_ne (ne_of_none e h)]; exact e
theorem Step.hd {ps hs hs' : List Addr} {H H' : Hp} (s : Step ps H H') (h1 : ∀ p ∈ ps, p ∈ hs) (h2 : ∀ a ∈ hs', a ∉ hs → H a = none) : Sub (hid hs H) (hid hs' H') := fun a o e => by
  obtain ⟨n, q⟩ := hid_some e
  rw [hid_out (fun m => by rw [h2 a m n] at q; cases q)]
  exact s a o (fun m => n (h1 a m)) q
theorem Step.hd0 {ps hs : List Addr} {H H' : Hp} (s : Step ps H H') (h1 : ∀ p ∈ ps, p ∈ hs) : Sub (hid hs H) (hid hs H') := s.hd h1 fun _ m n => absurd m n

/-! ### data -/
theorem sqL_mono {K : PySem.W.Frag} {G H : Hp} {a : Addr} {xs : List V} (s : Sub G H) (h : SqL K G a xs) : SqL K H a xs := by
  rcases h with (h | ⟨o, h⟩) | h
  · exact .inl (.inl (s _ _ h))
  · exact .inl (.inr ⟨o, s _ _ h⟩)
  · exact .inr h
theorem sqT_mono {K : PySem.W.Frag} {G H : Hp} {a : Addr} {xs : List V} (s : Sub G H) (h : SqT K G a xs) : SqT K H a xs := by
  rcases h with (h | ⟨o, h⟩) | h
  · exact .inl (.inl (s _ _ h))
  · exact .inl (.inr ⟨o, s _ _ h⟩)
  · exact .inr h
mutual
theorem dp_mono {K : PySem.W.Frag} {G H : Hp} (s : Sub G H) : ∀ (d : PyData) (v : V), Dp K G v d → Dp K H v d
  | .none, _, h => by cases h; exact .non
  | .bool b, _, h => by cases h; exact .bl b
  | .int i, _, h => by cases h; exact .int i
  | .str x, _, h => by cases h; exact .str x
  | .list ds, _, h => by
    cases h with
    | lst hs ha => exact .lst (sqL_mono s hs) (dpa_mono s ds _ ha)
  | .tuple ds, _, h => by
    cases h with
    | tup hs ha => exact .tup (sqT_mono s hs) (dpa_mono s ds _ ha)
  | .dict _, _, h => by cases h
theorem dpa_mono {K : PySem.W.Frag} {G H : Hp} (s : Sub G H) : ∀ (ds : List PyData) (vs : List V), DpAll K G vs ds → DpAll K H vs ds
  | [], _, h => by cases h; exact .nil
  | d :: ds, _, h => by
    cases h with
    | cons h1 h2 => exact .cons (dp_mono s d _ h1) (dpa_mono s ds _ h2)
end
end DL
namespace L2
open PySem PySem.Spec DL
section
variable {K : PySem.W.Frag} {G H : Hp}
theorem Dp.up {v : V} {d : PyData} (h : Dp K G v d) (s : Sub G H) : Dp K H v d := dp_mono s d v h
theorem DpAll.up {vs : List V} {ds : List PyData} (h : DpAll K G vs ds) (s : Sub G H) : DpAll K H vs ds := dpa_mono s ds vs h
theorem DpAll.len : ∀ {vs : List V} {ds : List PyData}, DpAll K H vs ds → vs.length = ds.length
  | _, _, .nil => rfl
  | _, _, .cons _ t => congrArg (· + 1) (DpAll.len t)
theorem DpAll.get : ∀ {vs : List V} {ds : List PyData} {i : Nat} {d : PyData}, DpAll K H vs ds → ds[i]? = some d → ∃ v, vs[i]? = some v ∧ Dp K H v d
  | _, _, 0, _, .cons h _, e => by
    have e' := Option.some.inj e; subst e'; exact ⟨_, rfl, h⟩
  | _, _, i + 1, _, .cons _ t, e => by
    obtain ⟨v, h1, h2⟩ := DpAll.get (i := i) t (by simpa using e)
    exact ⟨v, by simpa using h1, h2⟩
theorem DpAll.getV : ∀ {vs : List V} {ds : List PyData} {i : Nat} {v : V}, DpAll K H vs ds → vs[i]? = some v → ∃ d, ds[i]? = some d ∧ Dp K H v d
  | _, _, 0, _, .cons h _, e => by
    have e' := Option.some.inj e; subst e'; exact ⟨_, rfl, h⟩
  | _, _, i + 1, _, .cons _ t, e => by
    obtain ⟨v, h1, h2⟩ := DpAll.getV (i := i) t (by simpa using e)
    exact ⟨v, by simpa using h1, h2⟩
theorem DpAll.app : ∀ {vs ws : List V} {ds es : List PyData}, DpAll K H vs ds → DpAll K H ws es → DpAll K H (vs ++ ws) (ds ++ es)
  | _, _, _, _, .nil, h => h
  | _, _, _, _, .cons a t, h => .cons a (DpAll.app t h)
theorem DpAll.tk : ∀ {vs : List V} {ds : List PyData} (n : Nat), DpAll K H vs ds → DpAll K H (vs.take n) (ds.take n)
  | _, _, 0, _ => .nil
  | _, _, _ + 1, .nil => .nil
  | _, _, n + 1, .cons a t => .cons a (DpAll.tk n t)
theorem DpAll.dr : ∀ {vs : List V} {ds : List PyData} (n : Nat), DpAll K H vs ds → DpAll K H (vs.drop n) (ds.drop n)
  | _, _, 0, h => h
  | _, _, _ + 1, .nil => .nil
  | _, _, n + 1, .cons _ t => DpAll.dr n t
theorem DpAll.set' : ∀ {vs : List V} {ds : List PyData} (n : Nat) {v : V} {d : PyData}, DpAll K H vs ds → Dp K H v d → DpAll K H (vs.set n v) (ds.set n d)
  | _, _, _, _, _, .nil, _ => .nil
  | _, _, 0, _, _, .cons _ t, h => .cons h t
  | _, _, n + 1, _, _, .cons a t, h => .cons a (DpAll.set' n t h)
theorem DpAll.ints : ∀ (ns : List Int), DpAll K H (ns.map V.int) (ns.map PyData.int)
  | [] => .nil
  | n :: ns => .cons (.int n) (DpAll.ints ns)
end

end L2
namespace DL
open PySem PySem.Spec L2
open PyProof.Rows hiding St
/-! ### states -/
inductive SV where
  | dat (d : PyData) | cel (i : Nat)
abbrev Slots := List (Option SV)
structure Sta where
  ds : Slots
  cs : List (List PyData)
section
variable (K : PySem.W.Frag)
def RelS (hs ps : List Addr) (H : Hp) (v : V) : SV → Prop
  | .dat d => Dp K (hid hs H) v d
  | .cel i => ∃ p, ps[i]? = some p ∧ v = .ref p
structure HR (hs ps : List Addr) (H : Hp) (cs : List (List PyData)) : Prop where
  sub : ∀ p ∈ ps, p ∈ hs
  nd : ps.Nodup
  len : ps.length = cs.length
  trk : ∀ a ∈ hs, H a ≠ none
  cel : ∀ (i : Nat) (p : Addr) (xs : List PyData), ps[i]? = some p → cs[i]? = some xs → ∃ vs, H p = some (.lst vs) ∧ DpAll K (hid hs H) vs xs
structure Rel (hs ps : List Addr) (σ : St) (H : Hp) (st : Sta) : Prop where
  hr : HR K hs ps H st.cs
  len : σ.length = st.ds.length
  slot : ∀ (i : Nat) (x : SV), st.ds[i]? = some (some x) → ∃ v, σ[i]? = some (some v) ∧ RelS K hs ps H v x
end
section
variable {K : PySem.W.Frag} {hs hs' ps ps' : List Addr} {σ : St} {H H' : Hp} {st : Sta} {cs cs' : List (List PyData)}
theorem RelS.up {v : V} {x : SV} (h : RelS K hs ps H v x) (s : Sub (hid hs H) (hid hs' H')) : RelS K hs' ps H' v x := by
  cases x with
  | dat d => exact Dp.up h s
  | cel i => exact h
theorem Rel.slots (R : Rel K hs ps σ H st) (s : Sub (hid hs H) (hid hs' H')) (q : HR K hs' ps H' cs') : Rel K hs' ps σ H' ⟨st.ds, cs'⟩ :=
  ⟨q, R.len, fun i x e => let ⟨v, h1, h2⟩ := R.slot i x e; ⟨v, h1, h2.up s⟩⟩
/-- a step that changes nothing of the cells -/
theorem HR.step (R : HR K hs ps H cs) (s : Step [] H H') : HR K hs ps H' cs := by
  refine ⟨R.sub, R.nd, R.len, fun a m e => ?_, fun i p xs h1 h2 => ?_⟩
  · cases q : H a with
    | none => exact R.trk a m q
    | some o =>
      rw [s a o (by simp) q] at e
      cases e
  · obtain ⟨vs, q1, q2⟩ := R.cel i p xs h1 h2
    exact ⟨vs, s _ _ (by simp) q1, q2.up ((s.mono (qs := ps) (by simp)).hd0 R.sub)⟩
theorem Rel.step (R : Rel K hs ps σ H st) (s : Step [] H H') : Rel K hs ps σ H' st :=
  R.slots ((s.mono (qs := ps) (by simp)).hd0 R.hr.sub) (R.hr.step s)
/-- fewer addresses are hidden -/
theorem HR.less (R : HR K hs ps H cs) (h : ∀ a ∈ hs', a ∈ hs) (hp : ∀ p ∈ ps, p ∈ hs') : HR K hs' ps H cs := by
  have s : Sub (hid hs H) (hid hs' H) := fun a o e => by
    obtain ⟨n, q⟩ := hid_some e
    rw [hid_out fun m => n (h a m)]; exact q
  exact ⟨hp, R.nd, R.len, fun a m => R.trk a (h a m), fun i p xs h1 h2 => let ⟨vs, q1, q2⟩ := R.cel i p xs h1 h2; ⟨vs, q1, q2.up s⟩⟩
theorem Rel.less (R : Rel K hs ps σ H st) (h : ∀ a ∈ hs', a ∈ hs) (hp : ∀ p ∈ ps, p ∈ hs') : Rel K hs' ps σ H st := by
  have s : Sub (hid hs H) (hid hs' H) := fun a o e => by
    obtain ⟨n, q⟩ := hid_some e
    rw [hid_out fun m => n (h a m)]; exact q
  exact R.slots s (R.hr.less h hp)
/-- more are: new ones -/
theorem Rel.more (R : Rel K hs ps σ H st) {p : Addr} (s : Step [] H H') (hp : H p = none) (hp' : H' p ≠ none) : Rel K (p :: hs) ps σ H' st := by
  have e : ∀ a ∈ p :: hs, a ∉ hs → H a = none := fun a m n => by
    rcases List.mem_cons.mp m with e | m
    · rw [e]; exact hp
    · exact absurd m n
  have s1 := (s.mono (qs := ps) (by simp)).hd (hs' := p :: hs) R.hr.sub e
  have R1 := R.hr.step s
  refine R.slots s1 ⟨fun q m => List.mem_cons_of_mem _ (R.hr.sub q m), R.hr.nd, R.hr.len, fun a m => ?_, fun i q xs h1 h2 => ?_⟩
  · rcases List.mem_cons.mp m with e | m
    · rw [e]; exact hp'
    · exact R1.trk a m
  · obtain ⟨vs, q1, q2⟩ := R.hr.cel i q xs h1 h2
    exact ⟨vs, s _ _ (by simp) q1, q2.up s1⟩
end

/-! ### what readings evaluate to -/
section
variable (K : PySem.W.Frag)
def ED (te : TE) (st : Sta) (d : PyData) (cs' : List (List PyData)) : Prop :=
  ∀ hs ps σ H, Rel K hs ps σ H st → ∀ Q : VK, (∀ v H2, Step ps H H2 → Rel K hs ps σ H2 ⟨st.ds, cs'⟩ → Dp K (hid hs H2) v d → Q v H2) → te σ H Q
def EDT (tt : TT) (st : Sta) (b : Bool) (cs' : List (List PyData)) : Prop :=
  ∀ hs ps σ H, Rel K hs ps σ H st → ∀ Q : Bool → Hp → Prop, (∀ H2, Step ps H H2 → Rel K hs ps σ H2 ⟨st.ds, cs'⟩ → Q b H2) → tt σ H Q
def EDA (ta : TA) (st : Sta) (xs : List SV) (cs' : List (List PyData)) : Prop :=
  ∀ hs ps σ H, Rel K hs ps σ H st → ∀ Q : List V → Hp → Prop, (∀ vs H2, Step ps H H2 → Rel K hs ps σ H2 ⟨st.ds, cs'⟩ → Paired (RelS K hs ps H2) vs xs → Q vs H2) → ta σ H Q
/-- a fresh list -/
def EDL (te : TE) (st : Sta) (xs : List PyData) (cs' : List (List PyData)) : Prop :=
  ∀ hs ps σ H, Rel K hs ps σ H st → ∀ Q : VK, (∀ p vs H2, H p = none → Step ps H H2 → Rel K (p :: hs) ps σ H2 ⟨st.ds, cs'⟩ → H2 p = some (.lst vs) → DpAll K (hid (p :: hs) H2) vs xs → Q (.ref p) H2) → te σ H Q
end
section
variable {K : PySem.W.Frag} {st : Sta} {d x y z : PyData} {cs cs' c1 c2 : List (List PyData)} {ta tb te : TE} {tt tu : TT}
theorem hid_cons_sub {p : Addr} {hs : List Addr} {H : Hp} : Sub (hid (p :: hs) H) (hid hs H) := fun a o e => by
  obtain ⟨n, q⟩ := hid_some e
  rw [hid_out fun m => n (List.mem_cons_of_mem _ m)]; exact q
theorem EDL.ed {xs : List PyData} (h : EDL K te st xs cs') : ED K te st (.list xs) cs' := fun hs ps σ H R Q q => h hs ps σ H R Q fun p vs H2 hp s R2 e a => by
  have hph : p ∉ hs := fun m => R.hr.trk p m hp
  refine q _ H2 s (R2.less (fun a m => List.mem_cons_of_mem _ m) R.hr.sub) ?_
  exact .lst (.inl (.inl (by rw [hid_out hph]; exact e))) (a.up hid_cons_sub)
theorem ed_var {i : Nat} (h : st.ds[i]? = some (some (.dat d))) : ED K (tVar i) st d st.cs := fun hs ps σ H R Q q => by
  obtain ⟨v, h1, h2⟩ := R.slot i _ h
  exact ⟨v, h1, q v H (Step.refl H) R h2⟩
theorem ed_c {v : V} (h : ∀ H, Dp K H v d) : ED K (tC v) st d st.cs := fun hs ps σ H R Q q => q v H (Step.refl H) R (h _)
/-- a two-place operation on data; it may make new things -/
def RD (K : PySem.W.Frag) (r : R2) (x y z : PyData) : Prop := ∀ (hs : List Addr) (H : Hp) (v w : V), (∀ a ∈ hs, H a ≠ none) → Dp K (hid hs H) v x → Dp K (hid hs H) w y →
  ∀ Q : VK, (∀ u H', Step [] H H' → Dp K (hid hs H') u z → Q u H') → r v w H Q
theorem ed_op {r : R2} (ha : ED K ta st x c1) (hb : ED K tb ⟨st.ds, c1⟩ y c2) (hr : RD K r x y z) : ED K (tOp r ta tb) st z c2 := fun hs ps σ H R Q q =>
  ha hs ps σ H R _ fun v H1 s1 R1 d1 => hb hs ps σ H1 R1 _ fun w H2 s2 R2 d2 => hr hs H2 v w R2.hr.trk (d1.up (s2.hd0 R.hr.sub)) d2 Q fun u H3 s3 d3 =>
    q u H3 ((s1.trans s2).trans (s3.mono (by simp))) (R2.step s3) d3
def RU (K : PySem.W.Frag) (r : V → Hp → VK → Prop) (x z : PyData) : Prop := ∀ (hs : List Addr) (H : Hp) (v : V), (∀ a ∈ hs, H a ≠ none) → Dp K (hid hs H) v x →
  ∀ Q : VK, (∀ u H', Step [] H H' → Dp K (hid hs H') u z → Q u H') → r v H Q
theorem ed_un {r : V → Hp → VK → Prop} (ha : ED K ta st x c1) (hr : RU K r x z) : ED K (tUn r ta) st z c1 := fun hs ps σ H R Q q =>
  ha hs ps σ H R _ fun v H1 s1 R1 d1 => hr hs H1 v R1.hr.trk d1 Q fun u H3 s3 d3 => q u H3 (s1.trans (s3.mono (by simp))) (R1.step s3) d3
theorem eda_nil : EDA K tNil st [] st.cs := fun hs ps σ H R Q q => q [] H (Step.refl H) R .nil
theorem Paired.up {hs ps : List Addr} {H H' : Hp} (s : Sub (hid hs H) (hid hs H')) : ∀ {vs : List V} {xs : List SV}, Paired (RelS K hs ps H) vs xs → Paired (RelS K hs ps H') vs xs
  | _, _, .nil => .nil
  | _, _, .cons a t => .cons (a.up s) (Paired.up s t)
theorem eda_cons {tr : TA} {xs : List SV} (ha : ED K ta st x c1) (hr : EDA K tr ⟨st.ds, c1⟩ xs c2) : EDA K (tCons ta tr) st (.dat x :: xs) c2 := fun hs ps σ H R Q q =>
  ha hs ps σ H R _ fun v H1 s1 R1 d1 => hr hs ps σ H1 R1 _ fun vs H2 s2 R2 a2 => q (v :: vs) H2 (s1.trans s2) R2 (.cons (d1.up (s2.hd0 R.hr.sub)) a2)
theorem eda_cel {tr : TA} {xs : List SV} {i k : Nat} (h : st.ds[i]? = some (some (.cel k))) (hr : EDA K tr st xs c2) : EDA K (tCons (tVar i) tr) st (.cel k :: xs) c2 := fun hs ps σ H R Q q => by
  obtain ⟨v, h1, h2⟩ := R.slot i _ h
  exact ⟨v, h1, hr hs ps σ H R _ fun vs H2 s2 R2 a2 => q (v :: vs) H2 s2 R2 (.cons h2 a2)⟩
end
end DL


set_option Elab.async false
set_option linter.all false
set_option maxRecDepth 100000
set_option maxHeartbeats 4000000
namespace DL
open PySem PySem.Spec L2
open PyProof.Rows hiding St

/-! ### the readings that say the least -/
def wE (X : Cx) (e : Expr) : TE := fun σ H Q => ∀ pins s, Inv X pins σ H s → wpAny (model X.prog X.w) X.A (eval e X.env) (EP X pins σ Q) X.xe s
def wT (X : Cx) (e : Expr) : TT := fun σ H Q => ∀ pins s, Inv X pins σ H s → wpAny (model X.prog X.w) X.A (isTrue e X.env (eval e X.env)) (TP X pins σ Q) X.xe s
def wW (X : Cx) (e : Expr) : TT := fun σ H Q => ∀ whole pins s, Inv X pins σ H s → wpAny (model X.prog X.w) X.A (isTrue e X.env whole) (TP X pins σ Q) X.xe s
def wA (X : Cx) (es : List Expr) : TA := fun σ H Q => ∀ pos pins s, Inv X pins σ H s → wpAny (model X.prog X.w) X.A (spliced (backTo pos (starEach es X.env))) (AP X pins σ Q) X.xe s
def wS (X : Cx) (st : Stmt) : TS := fun D σ H => ∀ pins s, Inv X pins σ H s → wpAny (model X.prog X.w) X.A (exec st X.env) (SP X pins D) X.xe s
def wSs (X : Cx) (st : List Stmt) : TS := fun D σ H => ∀ pins s, Inv X pins σ H s → wpAny (model X.prog X.w) X.A (execs st X.env) (SP X pins D) X.xe s
def wI (X : Cx) (tg iter : Expr) : TI := fun σ H R => ∀ pins s, Inv X pins σ H s → wpAny (model X.prog X.w) X.A (eval iter X.env) (fun v s1 => wpAny (model X.prog X.w) X.A (pyIter v) (PIE X pins σ tg R) X.xe s1) X.xe s
section
variable {X : Cx}
theorem pwE (e : Expr) : PE X e (wE X e) := ⟨fun pins s _ _ _ I h => h pins s I⟩
theorem pwT (e : Expr) : PT X e (wT X e) := ⟨fun pins s _ _ _ I h => h pins s I⟩
theorem pwW (e : Expr) : PW X e (wW X e) := ⟨fun w pins s _ _ _ I h => h w pins s I⟩
theorem pwA (es : List Expr) : PA X es (wA X es) := ⟨fun pos pins s _ _ _ I h => h pos pins s I⟩
theorem pwS (st : Stmt) : PS X st (wS X st) := ⟨fun pins s _ _ _ I h => h pins s I⟩
theorem pwSs (st : List Stmt) : PSs X st (wSs X st) := ⟨fun pins s _ _ _ I h => h pins s I⟩
theorem pwI (tg iter : Expr) : PI X tg iter (wI X tg iter) := ⟨fun pins s _ _ _ I h => h pins s I⟩
end

/-! ### what a piece of syntax computes on data -/
abbrev Cs := List (List PyData)
abbrev FE := Sta → Option (PyData × Cs)
abbrev FT := Sta → Option (Bool × Cs)
abbrev FA := Sta → Option (List SV × Cs)
abbrev FL := Sta → Option (List PyData × Cs)
structure RE (X : Cx) (e : Expr) (f : FE) : Prop where
  h : ∀ st d c, f st = some (d, c) → ED X.K (wE X e) st d c
instance (X : Cx) (e : Expr) (f : FE) : CoeFun (RE X e f) (fun _ => ∀ st d c, f st = some (d, c) → ED X.K (wE X e) st d c) := ⟨fun r => r.h⟩
structure RT (X : Cx) (e : Expr) (f : FT) : Prop where
  h : ∀ st d c, f st = some (d, c) → EDT X.K (wT X e) st d c
instance (X : Cx) (e : Expr) (f : FT) : CoeFun (RT X e f) (fun _ => ∀ st d c, f st = some (d, c) → EDT X.K (wT X e) st d c) := ⟨fun r => r.h⟩
structure RW (X : Cx) (e : Expr) (f : FT) : Prop where
  h : ∀ st d c, f st = some (d, c) → EDT X.K (wW X e) st d c
instance (X : Cx) (e : Expr) (f : FT) : CoeFun (RW X e f) (fun _ => ∀ st d c, f st = some (d, c) → EDT X.K (wW X e) st d c) := ⟨fun r => r.h⟩
structure RA (X : Cx) (es : List Expr) (f : FA) : Prop where
  h : ∀ st d c, f st = some (d, c) → EDA X.K (wA X es) st d c
instance (X : Cx) (es : List Expr) (f : FA) : CoeFun (RA X es f) (fun _ => ∀ st d c, f st = some (d, c) → EDA X.K (wA X es) st d c) := ⟨fun r => r.h⟩
structure RL (X : Cx) (e : Expr) (f : FL) : Prop where
  h : ∀ st d c, f st = some (d, c) → EDL X.K (wE X e) st d c
instance (X : Cx) (e : Expr) (f : FL) : CoeFun (RL X e f) (fun _ => ∀ st d c, f st = some (d, c) → EDL X.K (wE X e) st d c) := ⟨fun r => r.h⟩
section
variable {X : Cx} {e : Expr} {st : Sta} {c : Cs}
theorem RE.of {t : TE} {d : PyData} (p : PE X e t) (k : ED X.K t st d c) : ED X.K (wE X e) st d c := fun hs ps σ H R Q q pins s I => p.run pins s σ H Q I (k hs ps σ H R Q q)
theorem RL.of {t : TE} {d : List PyData} (p : PE X e t) (k : EDL X.K t st d c) : EDL X.K (wE X e) st d c := fun hs ps σ H R Q q pins s I => p.run pins s σ H Q I (k hs ps σ H R Q q)
theorem RT.of {t : TT} {d : Bool} (p : PT X e t) (k : EDT X.K t st d c) : EDT X.K (wT X e) st d c := fun hs ps σ H R Q q pins s I => p.run pins s σ H Q I (k hs ps σ H R Q q)
theorem RW.of {t : TT} {d : Bool} (p : PW X e t) (k : EDT X.K t st d c) : EDT X.K (wW X e) st d c := fun hs ps σ H R Q q w pins s I => p.run w pins s σ H Q I (k hs ps σ H R Q q)
theorem RA.of {es : List Expr} {t : TA} {d : List SV} (p : PA X es t) (k : EDA X.K t st d c) : EDA X.K (wA X es) st d c := fun hs ps σ H R Q q pos pins s I => p.run pos pins s σ H Q I (k hs ps σ H R Q q)
end

/-! ### expressions -/
def fVar (i : Nat) : FE := fun st => match st.ds[i]? with
  | some (some (.dat d)) => some (d, st.cs)
  | _ => none
def fLit (d : PyData) : FE := fun st => some (d, st.cs)
def fOp (g : PyData → PyData → Option PyData) (a b : FE) : FE := fun st => (a st).bind fun p => (b ⟨st.ds, p.2⟩).bind fun q => (g p.1 q.1).map fun z => (z, q.2)
def fUn (g : PyData → Option PyData) (a : FE) : FE := fun st => (a st).bind fun p => (g p.1).map fun z => (z, p.2)
def fTup (a : FA) : FE := fun st => (a st).bind fun p => if p.1.length ≤ 100000 then (datsOf p.1).map fun ds => (.tuple ds, p.2) else none
where datsOf : List SV → Option (List PyData)
  | [] => some []
  | .dat d :: r => (datsOf r).map (d :: ·)
  | .cel _ :: _ => none
abbrev datsOf := fTup.datsOf
def fLst (a : FA) : FL := fun st => (a st).bind fun p => if p.1.length ≤ 100000 then (datsOf p.1).map fun ds => (ds, p.2) else none
def fNilA : FA := fun st => some ([], st.cs)
def fConsA (a : FE) (r : FA) : FA := fun st => (a st).bind fun p => (r ⟨st.ds, p.2⟩).map fun q => (.dat p.1 :: q.1, q.2)
def fCelA (i : Nat) (r : FA) : FA := fun st => match st.ds[i]? with
  | some (some (.cel k)) => (r st).map fun q => (.cel k :: q.1, q.2)
  | _ => none
def fOfL (a : FL) : FE := fun st => (a st).map fun p => (.list p.1, p.2)
theorem bind_some {α β : Type} {o : Option α} {f : α → Option β} {z : β} (h : o.bind f = some z) : ∃ x, o = some x ∧ f x = some z := Option.bind_eq_some_iff.mp h
theorem map_some {α β : Type} {o : Option α} {f : α → β} {z : β} (h : o.map f = some z) : ∃ x, o = some x ∧ f x = z := Option.map_eq_some_iff.mp h
theorem datsOf_dat : ∀ {xs : List SV} {ds : List PyData}, datsOf xs = some ds → xs = ds.map SV.dat
  | [], ds, h => by
    have h' := Option.some.inj h
    subst h'; rfl
  | .dat d :: r, ds, h => by
    obtain ⟨l, h1, rfl⟩ := map_some (show (datsOf r).map (d :: ·) = some ds from h)
    rw [datsOf_dat h1]; rfl
  | .cel _ :: _, _, h => by cases h
theorem paired_dat {K : PySem.W.Frag} {hs ps : List Addr} {H : Hp} : ∀ {ds : List PyData} {vs : List V}, Paired (RelS K hs ps H) vs (ds.map SV.dat) → DpAll K (hid hs H) vs ds
  | [], _, h => by cases h; exact .nil
  | _ :: _, _, h => by
    cases h with
    | cons a t => exact .cons a (paired_dat t)
/-! an argument that is no star -/
section
variable {env : PySem.Env} {es : List Expr}
theorem sn_name {x : Str} {p : Pos} : starEach (.Name x p :: es) env = (false, eval (.Name x p) env) :: starEach es env := rfl
theorem sn_const {c : Const} {j} {p : Pos} : starEach (.Constant c j p :: es) env = (false, eval (.Constant c j p) env) :: starEach es env := rfl
theorem sn_tup {l : List Expr} {j} {p : Pos} : starEach (.Tuple l j p :: es) env = (false, eval (.Tuple l j p) env) :: starEach es env := rfl
theorem sn_list {l : List Expr} {p : Pos} : starEach (.List l p :: es) env = (false, eval (.List l p) env) :: starEach es env := rfl
theorem sn_bin {a b : Expr} {o : Operator} {p : Pos} : starEach (.BinOp a o b p :: es) env = (false, eval (.BinOp a o b p) env) :: starEach es env := rfl
theorem sn_un {a : Expr} {o : UnaryOp} {p : Pos} : starEach (.UnaryOp o a p :: es) env = (false, eval (.UnaryOp o a p) env) :: starEach es env := rfl
theorem sn_bool {l : List Expr} {o : BoolOp} {p : Pos} : starEach (.BoolOp o l p :: es) env = (false, eval (.BoolOp o l p) env) :: starEach es env := rfl
theorem sn_cmp {a : Expr} {o : List CmpOp} {l : List Expr} {p : Pos} : starEach (.Compare a o l p :: es) env = (false, eval (.Compare a o l p) env) :: starEach es env := rfl
theorem sn_call {f : Expr} {l : List Expr} {k : List Keyword} {p : Pos} : starEach (.Call f l k p :: es) env = (false, eval (.Call f l k p) env) :: starEach es env := rfl
theorem sn_sub {a b : Expr} {p : Pos} : starEach (.Subscript a b p :: es) env = (false, eval (.Subscript a b p) env) :: starEach es env := rfl
theorem sn_if {a b c : Expr} {p : Pos} : starEach (.IfExp a b c p :: es) env = (false, eval (.IfExp a b c p) env) :: starEach es env := rfl
theorem sn_attr {a : Expr} {x : Str} {p : Pos} : starEach (.Attribute a x p :: es) env = (false, eval (.Attribute a x p) env) :: starEach es env := rfl
theorem sn_lc {a : Expr} {l : List Comprehension} {sc : Scope} {p : Pos} : starEach (.ListComp a l sc p :: es) env = (false, eval (.ListComp a l sc p) env) :: starEach es env := rfl
end
section
variable {X : Cx} {a b e : Expr} {es : List Expr} {pos : Pos} {fa fb : FE} {f : FA}
theorem re_var {i : Nat} {x : Str} (hN : X.N[i]? = some x) (hv : Vis X.env.scope x) (hd : (x == ("__debug__" : Str)) = false := by decide) (hcd : (x == ("__classdict__" : Str)) = false := by decide) : RE X (.Name x pos) (fVar i) := .mk fun st d c h => by
  unfold fVar at h
  split at h
  · rename_i d' e'
    cases h
    exact RE.of (pe_var hN hv hd hcd) (ed_var e')
  · cases h
theorem re_int {i : Int} {j} : RE X (.Constant (.int i) j pos) (fLit (.int i)) := .mk fun st d c h => by
  cases h; exact RE.of pe_int (ed_c fun _ => .int i)
theorem re_bl {i : Bool} {j} : RE X (.Constant (.bool i) j pos) (fLit (.bool i)) := .mk fun st d c h => by
  cases h; exact RE.of pe_bl (ed_c fun _ => .bl i)
theorem re_non {j} : RE X (.Constant .none j pos) (fLit .none) := .mk fun st d c h => by
  cases h; exact RE.of pe_non (ed_c fun _ => .non)
theorem re_str {i : Str} {j} : RE X (.Constant (.str i) j pos) (fLit (.str i)) := .mk fun st d c h => by
  cases h; exact RE.of pe_str (ed_c fun _ => .str i)
/-- a module's constant that stands in the written part -/
theorem re_glob {x : Str} {v : V} {u : Value} {d : PyData} (hg : Gl X x) (hm : X.mg x = some u) (r : RelV v u) (hd : ∀ H, Dp X.K H v d) (hdb : (x == ("__debug__" : Str)) = false := by decide) : RE X (.Name x pos) (fLit d) := .mk fun st d c h => by
  cases h; exact RE.of (pe_glob hg hm r hdb) (ed_c hd)
theorem re_op {op : Operator} {r : R2} {g : PyData → PyData → Option PyData} (ho : OpR X (binaryOp op) r) (hr : ∀ x y z, g x y = some z → RD X.K r x y z) (ha : RE X a fa) (hb : RE X b fb) : RE X (.BinOp a op b pos) (fOp g fa fb) := .mk fun st d c h => by
  obtain ⟨⟨x, c1⟩, h1, h⟩ := bind_some h
  obtain ⟨⟨y, c2⟩, h2, h⟩ := bind_some h
  obtain ⟨z, h3, e⟩ := map_some h
  cases e
  exact RE.of (pe_op ho (pwE a) (pwE b)) (ed_op (ha _ _ _ h1) (hb _ _ _ h2) (hr _ _ _ h3))
theorem re_cmp {op : CmpOp} {r : R2} {g : PyData → PyData → Option PyData} (ho : OpR X (compareOp op) r) (hr : ∀ x y z, g x y = some z → RD X.K r x y z) (ha : RE X a fa) (hb : RE X b fb) (hm : behindInMarks op b = false) : RE X (.Compare a [op] [b] pos) (fOp g fa fb) := .mk fun st d c h => by
  obtain ⟨⟨x, c1⟩, h1, h⟩ := bind_some h
  obtain ⟨⟨y, c2⟩, h2, h⟩ := bind_some h
  obtain ⟨z, h3, e⟩ := map_some h
  cases e
  exact RE.of (pe_cmpR ho (pwE a) (pwE b) hm) (ed_op (ha _ _ _ h1) (hb _ _ _ h2) (hr _ _ _ h3))
theorem re_un {op : UnaryOp} {r : V → Hp → VK → Prop} {g : PyData → Option PyData} (ho : UnR X (unaryOp op) r) (hr : ∀ x z, g x = some z → RU X.K r x z) (ha : RE X a fa) : RE X (.UnaryOp op a pos) (fUn g fa) := .mk fun st d c h => by
  obtain ⟨⟨x, c1⟩, h1, h⟩ := bind_some h
  obtain ⟨z, h3, e⟩ := map_some h
  cases e
  exact RE.of (pe_un ho (pwE a)) (ed_un (ha _ _ _ h1) (hr _ _ h3))
theorem ra_nil : RA X [] fNilA := .mk fun st d c h => by
  cases h; exact RA.of pa_nil eda_nil
theorem ra_cons (ha : RE X e fa) (hr : RA X es f) (hs : starEach (e :: es) X.env = (false, eval e X.env) :: starEach es X.env := by with_reducible first | exact sn_name | exact sn_const | exact sn_tup | exact sn_list | exact sn_bin | exact sn_un | exact sn_bool | exact sn_cmp | exact sn_call | exact sn_sub | exact sn_if | exact sn_attr | exact sn_lc) : RA X (e :: es) (fConsA fa f) := .mk fun st d c h => by
  obtain ⟨⟨x, c1⟩, h1, h⟩ := bind_some h
  obtain ⟨⟨xs, c2⟩, h2, e⟩ := map_some h
  cases e
  exact RA.of (pa_cons (pwE e) (pwA es) hs) (eda_cons (ha _ _ _ h1) (hr _ _ _ h2))
theorem ra_cel {i : Nat} {x : Str} (hN : X.N[i]? = some x) (hv : Vis X.env.scope x) (hr : RA X es f) (hd : (x == ("__debug__" : Str)) = false := by decide) (hcd : (x == ("__classdict__" : Str)) = false := by decide)
    (hs : starEach (.Name x pos :: es) X.env = (false, eval (.Name x pos) X.env) :: starEach es X.env := by rfl) : RA X (.Name x pos :: es) (fCelA i f) := .mk fun st d c h => by
  unfold fCelA at h
  split at h
  · rename_i k e'
    obtain ⟨⟨xs, c2⟩, h2, e⟩ := map_some h
    cases e
    exact RA.of (pa_cons (pe_var hN hv hd hcd) (pwA es) hs) (eda_cel e' (hr _ _ _ h2))
  · cases h
theorem re_tup {x1} (ha : RA X es f) : RE X (.Tuple es x1 pos) (fTup f) := .mk fun st d c h => by
  obtain ⟨⟨xs, c1⟩, h1, h⟩ := bind_some h
  simp only at h
  split at h
  · rename_i hl
    obtain ⟨ds, h2, e⟩ := map_some h
    cases e
    refine RE.of (pe_tup (pwA es)) fun hs ps σ H R Q q => ha _ _ _ h1 hs ps σ H R _ fun vs H2 s2 R2 p2 => ?_
    rw [datsOf_dat h2] at p2 hl
    have dd := paired_dat p2
    refine ⟨Nat.le_trans (by rw [dd.len]; simpa using hl) (by decide : 100000 ≤ sizeLine), fun p hp => ?_⟩
    have s3 : Step [] H2 (upd H2 p (.tup vs)) := Step.new hp
    have hph : p ∉ hs := fun m => R2.hr.trk p m hp
    exact q _ _ (s2.trans (s3.mono (by simp))) (R2.step s3) (.tup (.inl (.inl (by rw [hid_out hph]; exact upd_same))) (dd.up (s3.hd0 (by simp))))
  · cases h
theorem rl_lst (ha : RA X es f) : RL X (.List es pos) (fLst f) := .mk fun st d c h => by
  obtain ⟨⟨xs, c1⟩, h1, h⟩ := bind_some h
  simp only at h
  split at h
  · rename_i hl
    obtain ⟨ds, h2, e⟩ := map_some h
    cases e
    refine RL.of (pe_lst (pwA es)) fun hs ps σ H R Q q => ha _ _ _ h1 hs ps σ H R _ fun vs H2 s2 R2 p2 => ?_
    rw [datsOf_dat h2] at p2 hl
    have dd := paired_dat p2
    refine ⟨Nat.le_trans (by rw [dd.len]; simpa using hl) (by decide : 100000 ≤ sizeLine), fun p hp => ?_⟩
    have s3 : Step [] H2 (upd H2 p (.lst vs)) := Step.new hp
    have hp0 : H p = none := by
      cases hq : H p with
      | none => rfl
      | some o =>
        by_cases m : p ∈ ps
        · exact absurd hp (R2.hr.trk p (R2.hr.sub p m))
        · rw [s2 p o m hq] at hp; cases hp
    have e3 : ∀ a ∈ p :: hs, a ∉ hs → H2 a = none := fun a m n => by
      rcases List.mem_cons.mp m with e | m
      · rw [e]; exact hp
      · exact absurd m n
    exact q p vs _ hp0 (s2.trans (s3.mono (by simp))) (R2.more s3 hp (by rw [upd_same]; simp)) upd_same (dd.up ((s3.mono (qs := []) (by simp)).hd (by simp) e3))
  · cases h
theorem re_ofL {g : FL} (h : RL X e g) : RE X e (fOfL g) := .mk fun st d c hq => by
  obtain ⟨⟨xs, c1⟩, h1, e⟩ := map_some hq
  cases e
  exact (h _ _ _ h1).ed
end

/-! ### tests, and, or, not, if -/
def fTru (a : FE) : FT := fun st => (a st).bind fun p => match p.1 with
  | .bool b => some (b, p.2)
  | _ => none
def fAndT (a b : FT) : FT := fun st => (a st).bind fun p => if p.1 = true then b ⟨st.ds, p.2⟩ else some (false, p.2)
def fOrT (a b : FT) : FT := fun st => (a st).bind fun p => if p.1 = true then some (true, p.2) else b ⟨st.ds, p.2⟩
def fNotT (a : FT) : FT := fun st => (a st).map fun p => (!p.1, p.2)
def fAndV (a b : FE) : FE := fun st => (a st).bind fun p => match p.1 with
  | .bool c => if c = true then b ⟨st.ds, p.2⟩ else some (.bool false, p.2)
  | _ => none
def fOrV (a b : FE) : FE := fun st => (a st).bind fun p => match p.1 with
  | .bool c => if c = true then some (.bool true, p.2) else b ⟨st.ds, p.2⟩
  | _ => none
def fNotV (a : FE) : FE := fun st => (a st).bind fun p => match p.1 with
  | .bool c => some (.bool (!c), p.2)
  | _ => none
def fIf (t : FT) (a b : FE) : FE := fun st => (t st).bind fun p => if p.1 = true then a ⟨st.ds, p.2⟩ else b ⟨st.ds, p.2⟩
section
variable {X : Cx} {a b e : Expr} {rest : List Expr} {pos : Pos} {fa fb : FE} {f g : FT}
theorem dp_bool {K : PySem.W.Frag} {H : Hp} {v : V} {b : Bool} (h : Dp K H v (.bool b)) : v = .bl b := by cases h; rfl
theorem dp_int {K : PySem.W.Frag} {H : Hp} {v : V} {b : Int} (h : Dp K H v (.int b)) : v = .int b := by cases h; rfl
theorem rt_val (ha : RE X a fa) (he : ∀ whole, isTrue a X.env whole = (do let v ← whole; standAt a.pos; holding [v] (truthy v)) := by intro _; rfl) : RT X a (fTru fa) := .mk fun st d c h => by
  obtain ⟨⟨x, c1⟩, h1, h⟩ := bind_some h
  simp only at h
  split at h
  · cases h
    exact RT.of (pt_val (pwE a) he) fun hs ps σ H R Q q => ha _ _ _ h1 hs ps σ H R _ fun v H2 s2 R2 d2 => ⟨_, dp_bool d2, q H2 s2 R2⟩
  · cases h
theorem rt_w (h : RW X a f) : RT X a f := .mk fun st d c hq => RT.of (PW.pt (pwW a)) (h _ _ _ hq)
theorem rw_and1 (h : RT X a f) : RW X (.BoolOp .And [a] pos) f := .mk fun st d c hq => RW.of (pw_and1 (pwT a)) (h _ _ _ hq)
theorem rw_or1 (h : RT X a f) : RW X (.BoolOp .Or [a] pos) f := .mk fun st d c hq => RW.of (pw_or1 (pwT a)) (h _ _ _ hq)
theorem rw_and (ha : RT X a f) (hb : RW X (.BoolOp .And (b :: rest) pos) g) : RW X (.BoolOp .And (a :: b :: rest) pos) (fAndT f g) := .mk fun st d c h => by
  obtain ⟨⟨x, c1⟩, h1, h⟩ := bind_some h
  refine RW.of (pw_and (pwT a) (pwW _)) fun hs ps σ H R Q q => ha _ _ _ h1 hs ps σ H R _ fun H2 s2 R2 => ?_
  simp only at h
  cases x with
  | true =>
    rw [if_pos rfl] at h ⊢
    exact hb _ _ _ h hs ps σ H2 R2 _ fun H3 s3 R3 => q H3 (s2.trans s3) R3
  | false =>
    rw [if_neg (by decide)] at h ⊢
    cases h
    exact q H2 s2 R2
theorem rw_or (ha : RT X a f) (hb : RW X (.BoolOp .Or (b :: rest) pos) g) : RW X (.BoolOp .Or (a :: b :: rest) pos) (fOrT f g) := .mk fun st d c h => by
  obtain ⟨⟨x, c1⟩, h1, h⟩ := bind_some h
  refine RW.of (pw_or (pwT a) (pwW _)) fun hs ps σ H R Q q => ha _ _ _ h1 hs ps σ H R _ fun H2 s2 R2 => ?_
  simp only at h
  cases x with
  | true =>
    rw [if_pos rfl] at h ⊢
    cases h
    exact q H2 s2 R2
  | false =>
    rw [if_neg (by decide)] at h ⊢
    exact hb _ _ _ h hs ps σ H2 R2 _ fun H3 s3 R3 => q H3 (s2.trans s3) R3
theorem rt_not (h : RT X a f) : RT X (.UnaryOp .Not a pos) (fNotT f) := .mk fun st d c hq => by
  obtain ⟨⟨x, c1⟩, h1, e⟩ := map_some hq
  cases e
  exact RT.of (pt_not (pwT a)) fun hs ps σ H R Q q => h _ _ _ h1 hs ps σ H R _ fun H2 s2 R2 => q H2 s2 R2
theorem re_one {op} (h : RE X a fa) : RE X (.BoolOp op [a] pos) fa := .mk fun st d c hq => RE.of (pe_one (pwE a)) (h _ _ _ hq)
theorem re_and (ha : RE X a fa) (hb : RE X (.BoolOp .And (b :: rest) pos) fb) : RE X (.BoolOp .And (a :: b :: rest) pos) (fAndV fa fb) := .mk fun st d c h => by
  obtain ⟨⟨x, c1⟩, h1, h⟩ := bind_some h
  simp only at h
  split at h
  · rename_i _ k
    refine RE.of (pe_and (pwE a) (pwE _)) fun hs ps σ H R Q q => ha _ _ _ h1 hs ps σ H R _ fun v H2 s2 R2 d2 => ⟨_, dp_bool d2, ?_⟩
    cases k with
    | true =>
      rw [if_pos rfl] at h ⊢
      exact hb _ _ _ h hs ps σ H2 R2 _ fun w H3 s3 R3 d3 => q w H3 (s2.trans s3) R3 d3
    | false =>
      rw [if_neg (by decide)] at h ⊢
      cases h
      exact q _ H2 s2 R2 (.bl _)
  · cases h
theorem re_or (ha : RE X a fa) (hb : RE X (.BoolOp .Or (b :: rest) pos) fb) : RE X (.BoolOp .Or (a :: b :: rest) pos) (fOrV fa fb) := .mk fun st d c h => by
  obtain ⟨⟨x, c1⟩, h1, h⟩ := bind_some h
  simp only at h
  split at h
  · rename_i _ k
    refine RE.of (pe_or (pwE a) (pwE _)) fun hs ps σ H R Q q => ha _ _ _ h1 hs ps σ H R _ fun v H2 s2 R2 d2 => ⟨_, dp_bool d2, ?_⟩
    cases k with
    | true =>
      rw [if_pos rfl] at h ⊢
      cases h
      exact q _ H2 s2 R2 (.bl _)
    | false =>
      rw [if_neg (by decide)] at h ⊢
      exact hb _ _ _ h hs ps σ H2 R2 _ fun w H3 s3 R3 d3 => q w H3 (s2.trans s3) R3 d3
  · cases h
theorem re_not (ha : RE X a fa) : RE X (.UnaryOp .Not a pos) (fNotV fa) := .mk fun st d c h => by
  obtain ⟨⟨x, c1⟩, h1, h⟩ := bind_some h
  simp only at h
  split at h
  · rename_i _ k
    cases h
    exact RE.of (pe_not (pwE a)) fun hs ps σ H R Q q => ha _ _ _ h1 hs ps σ H R _ fun v H2 s2 R2 d2 => ⟨_, dp_bool d2, q _ H2 s2 R2 (.bl _)⟩
  · cases h
theorem re_if {cc : Expr} (hc : RT X cc f) (ha : RE X a fa) (hb : RE X b fb) : RE X (.IfExp cc a b pos) (fIf f fa fb) := .mk fun st d c h => by
  obtain ⟨⟨x, c1⟩, h1, h⟩ := bind_some h
  refine RE.of (pe_ifExp (pwT cc) (pwE a) (pwE b)) fun hs ps σ H R Q q => hc _ _ _ h1 hs ps σ H R _ fun H2 s2 R2 => ?_
  simp only at h
  cases x with
  | true =>
    rw [if_pos rfl] at h ⊢
    exact ha _ _ _ h hs ps σ H2 R2 _ fun w H3 s3 R3 d3 => q w H3 (s2.trans s3) R3 d3
  | false =>
    rw [if_neg (by decide)] at h ⊢
    exact hb _ _ _ h hs ps σ H2 R2 _ fun w H3 s3 R3 d3 => q w H3 (s2.trans s3) R3 d3
end
end DL


set_option Elab.async false
set_option linter.all false
set_option maxRecDepth 100000
set_option maxHeartbeats 4000000
namespace DL
open PySem PySem.Spec L2
open PyProof.Rows hiding St

/-! ### operators on data -/
section
variable {X : Cx}
theorem OpR.or {f : Value → Value → Sem Value} {r r' : R2} (h : OpR X f r) (h' : OpR X f r') : OpR X f (fun x y H Q => r x y H Q ∨ r' x y H Q) := by
  intro pins s σ H x y v u Q I rx ry q
  rcases q with q | q
  · exact h pins s σ H x y v u Q I rx ry q
  · exact h' pins s σ H x y v u Q I rx ry q
/-- + of two lists that are read -/
def rCatS (K : PySem.W.Frag) : R2 := fun x y H Q => ∃ l b xs zs, x = .ref l ∧ y = .ref b ∧ SqL K H l xs ∧ SqL K H b zs ∧ xs.length + zs.length ≤ sizeLine ∧ ∀ p, H p = none → Q (.ref p) (upd H p (.lst (xs ++ zs)))
theorem op_catS : OpR X (binaryOp .Add) (rCatS X.K) := by
  intro pins s σ H x y v u Q I rx ry h
  obtain ⟨l, b, xs, zs, rfl, rfl, hH, hB, hz, q⟩ := h
  cases rx
  cases ry
  obtain ⟨its, r, ⟨⟨cls, dd, data, sl⟩, n1, e1, c1, d1, k1⟩, z⟩ := I.list hH
  obtain ⟨its2, r2, ⟨⟨cls2, dd2, data2, sl2⟩, n2, e2, c2, d2, k2⟩, z2⟩ := I.list hB
  simp only at c1 d1 k1 c2 d2 k2
  subst c1 d1 k1 c2 d2 k2
  have h1 := r.length
  have h2 := r2.length
  have ea : its.toArray ++ its2.toArray = (its ++ its2).toArray := by simp
  refine concat_meets ⟨_, e1, rfl⟩ ⟨_, e2, rfl⟩ noFill_list_add seq_list_add PySem.F.slot_list_add PySem.F.entry_list_add (PySem.F.args_list_add_2 _ _) (list_addW l b its.toArray its2.toArray n1 n2 none none sl sl2 (by simp only [List.size_toArray]; omega)) ⟨e1, e2, ?_⟩
  rw [ea]
  exact ⟨.ref _, _, I.lnew (t' := s.toks) (r.append r2) (by rw [List.length_append]; omega), rfl, q _ I.fresh⟩
end
abbrev LIM : Nat := 100000
def mulOk (i j : Int) : Bool := decide (i.natAbs.log2 + j.natAbs.log2 < 1000000)
def divOk (i j : Int) : Bool := decide (0 < j ∧ j.natAbs.log2 < 9000)
def powOk (i j : Int) : Bool := decide (0 ≤ j ∧ j ≤ 1000000 ∧ i.natAbs < 2 ^ 64)
def gAdd : PyData → PyData → Option PyData
  | .int i, .int j => some (.int (i + j))
  | _, _ => none
def gCat : PyData → PyData → Option PyData
  | .list xs, .list ys => if xs.length + ys.length ≤ LIM then some (.list (xs ++ ys)) else none
  | _, _ => none
def gSub : PyData → PyData → Option PyData
  | .int i, .int j => some (.int (i - j))
  | _, _ => none
def gMul : PyData → PyData → Option PyData
  | .int i, .int j => if mulOk i j = true then some (.int (i * j)) else none
  | _, _ => none
def gDiv : PyData → PyData → Option PyData
  | .int i, .int j => if divOk i j = true then some (.int (i / j)) else none
  | _, _ => none
def gMod : PyData → PyData → Option PyData
  | .int i, .int j => if 0 < j then some (.int (i % j)) else none
  | _, _ => none
def gPow : PyData → PyData → Option PyData
  | .int i, .int j => if powOk i j = true then some (.int (i ^ j.toNat)) else none
  | _, _ => none
def gNeg : PyData → Option PyData
  | .int i => some (.int (-i))
  | _ => none
def gCmp (p : Int → Int → Bool) : PyData → PyData → Option PyData
  | .int i, .int j => some (.bool (p i j))
  | _, _ => none
def gEq (x y : PyData) : Option PyData := if SeqAt.shaped x = true ∧ SeqAt.shaped y = true then some (.bool (PyData.eqv x y)) else none
def gNe (x y : PyData) : Option PyData := if SeqAt.shaped x = true ∧ SeqAt.shaped y = true then some (.bool (!PyData.eqv x y)) else none
def isNone : PyData → Bool
  | .none => true
  | _ => false
def gIsN (x y : PyData) : Option PyData := if isNone y = true then some (.bool (isNone x)) else none
def gNotN (x y : PyData) : Option PyData := if isNone y = true then some (.bool (!isNone x)) else none
section
variable {X : Cx} {K : PySem.W.Frag} {a b e : Expr} {pos : Pos} {fa fb : FE} {H : Hp}
theorem rd_int {C : Int → Int → Prop} {f : Int → Int → V} {i j : Int} {z : PyData} (hc : C i j) (hz : ∀ H, Dp K H (f i j) z) : RD K (rI C f) (.int i) (.int j) z := fun hs H v w _ h1 h2 Q q =>
  ⟨i, j, dp_int h1, dp_int h2, hc, q _ H (Step.refl H) (hz _)⟩
theorem rd_int0 {f : Int → Int → V} {i j : Int} {z : PyData} (hz : ∀ H, Dp K H (f i j) z) : RD K (rI0 f) (.int i) (.int j) z := fun hs H v w _ h1 h2 Q q =>
  ⟨i, j, dp_int h1, dp_int h2, q _ H (Step.refl H) (hz _)⟩
theorem dp_list {v : V} {ds : List PyData} (h : Dp K H v (.list ds)) : ∃ p xs, v = .ref p ∧ SqL K H p xs ∧ DpAll K H xs ds := by
  cases h with
  | lst a b => exact ⟨_, _, rfl, a, b⟩
theorem dp_tuple {v : V} {ds : List PyData} (h : Dp K H v (.tuple ds)) : ∃ p xs, v = .ref p ∧ SqT K H p xs ∧ DpAll K H xs ds := by
  cases h with
  | tup a b => exact ⟨_, _, rfl, a, b⟩
theorem dp_non {v : V} (h : Dp K H v .none) : v = .non := by cases h; rfl
theorem dp_str {v : V} {z : Str} (h : Dp K H v (.str z)) : v = .str z := by cases h; rfl
theorem lim_ok {n : Nat} (h : n ≤ LIM) : n ≤ sizeLine := Nat.le_trans h (by decide)
theorem re_add (ha : RE X a fa) (hb : RE X b fb) : RE X (.BinOp a .Add b pos) (fOp gAdd fa fb) := re_op op_add (fun x y z h => by
  unfold gAdd at h
  split at h <;> cases h
  exact rd_int0 fun _ => .int _) ha hb
theorem re_sub (ha : RE X a fa) (hb : RE X b fb) : RE X (.BinOp a .Sub b pos) (fOp gSub fa fb) := re_op op_sub (fun x y z h => by
  unfold gSub at h
  split at h <;> cases h
  exact rd_int0 fun _ => .int _) ha hb
theorem re_mul (ha : RE X a fa) (hb : RE X b fb) : RE X (.BinOp a .Mult b pos) (fOp gMul fa fb) := re_op op_mulW (fun x y z h => by
  unfold gMul at h
  split at h
  · split at h <;> cases h
    rename_i hm
    exact rd_int (by first | simpa [mulOk, CMulW] using hm | simpa [divOk, CDivW] using hm | simpa [powOk, CPow] using hm) fun _ => .int _
  · cases h) ha hb
theorem re_div (ha : RE X a fa) (hb : RE X b fb) : RE X (.BinOp a .FloorDiv b pos) (fOp gDiv fa fb) := re_op op_fdivW (fun x y z h => by
  unfold gDiv at h
  split at h
  · split at h <;> cases h
    rename_i hm
    exact rd_int (by first | simpa [mulOk, CMulW] using hm | simpa [divOk, CDivW] using hm | simpa [powOk, CPow] using hm) fun _ => .int _
  · cases h) ha hb
theorem re_mod (ha : RE X a fa) (hb : RE X b fb) : RE X (.BinOp a .Mod b pos) (fOp gMod fa fb) := re_op op_mod (fun x y z h => by
  unfold gMod at h
  split at h
  · split at h <;> cases h
    rename_i hm
    exact rd_int hm fun _ => .int _
  · cases h) ha hb
theorem re_pow (ha : RE X a fa) (hb : RE X b fb) : RE X (.BinOp a .Pow b pos) (fOp gPow fa fb) := re_op op_pow (fun x y z h => by
  unfold gPow at h
  split at h
  · split at h <;> cases h
    rename_i hm
    exact rd_int (by first | simpa [mulOk, CMulW] using hm | simpa [divOk, CDivW] using hm | simpa [powOk, CPow] using hm) fun _ => .int _
  · cases h) ha hb
theorem re_neg (ha : RE X a fa) : RE X (.UnaryOp .USub a pos) (fUn gNeg fa) := re_un un_neg (fun x z h => by
  unfold gNeg at h
  split at h <;> cases h
  exact fun hs H v _ h1 Q q => ⟨_, dp_int h1, q _ H (Step.refl H) (.int _)⟩) ha
theorem re_cat (ha : RE X a fa) (hb : RE X b fb) : RE X (.BinOp a .Add b pos) (fOp gCat fa fb) := re_op op_catS (fun x y z h => by
  unfold gCat at h
  split at h
  · split at h <;> cases h
    rename_i xs ys hl
    intro hs H v w ht h1 h2 Q q
    obtain ⟨p, vs, rfl, hp, da⟩ := dp_list h1
    obtain ⟨p2, ws, rfl, hp2, db⟩ := dp_list h2
    refine ⟨p, p2, vs, ws, rfl, rfl, sqL_mono hid_sub hp, sqL_mono hid_sub hp2, lim_ok (by rw [da.len, db.len]; exact hl), fun t ht' => ?_⟩
    have s3 : Step [] H (upd H t (.lst (vs ++ ws))) := Step.new ht'
    have hph : t ∉ hs := fun m => ht t m ht'
    exact q _ _ s3 (.lst (.inl (.inl (by rw [hid_out hph]; exact upd_same))) ((da.app db).up (s3.hd0 (by simp))))
  · cases h) ha hb
theorem rd_cmp {f : Int → Int → Bool} {x y z : PyData} (h : gCmp f x y = some z) : RD K (rI0 fun i j => .bl (f i j)) x y z := by
  unfold gCmp at h
  split at h <;> cases h
  exact rd_int0 fun _ => .bl _
theorem re_lt (ha : RE X a fa) (hb : RE X b fb) : RE X (.Compare a [.Lt] [b] pos) (fOp (gCmp fun i j => decide (i < j)) fa fb) := re_cmp op_lt (fun _ _ _ h => rd_cmp h) ha hb (nomark _)
theorem re_le (ha : RE X a fa) (hb : RE X b fb) : RE X (.Compare a [.LtE] [b] pos) (fOp (gCmp fun i j => decide (i ≤ j)) fa fb) := re_cmp op_le (fun _ _ _ h => rd_cmp h) ha hb (nomark _)
theorem re_gt (ha : RE X a fa) (hb : RE X b fb) : RE X (.Compare a [.Gt] [b] pos) (fOp (gCmp fun i j => decide (j < i)) fa fb) := re_cmp op_gt (fun _ _ _ h => rd_cmp h) ha hb (nomark _)
theorem re_ge (ha : RE X a fa) (hb : RE X b fb) : RE X (.Compare a [.GtE] [b] pos) (fOp (gCmp fun i j => decide (j ≤ i)) fa fb) := re_cmp op_ge (fun _ _ _ h => rd_cmp h) ha hb (nomark _)
theorem re_eq (hu : X.A.units + 64 < cLine) (ha : RE X a fa) (hb : RE X b fb) : RE X (.Compare a [.Eq] [b] pos) (fOp gEq fa fb) := re_cmp (op_eqD hu) (fun x y z h => by
  unfold gEq at h
  split at h <;> cases h
  rename_i hs
  exact fun _ H v w _ h1 h2 Q q => ⟨x, y, h1.up hid_sub, h2.up hid_sub, hs.1, hs.2, q _ H (Step.refl H) (.bl _)⟩) ha hb (nomark _)
theorem re_ne (hu : X.A.units + 64 < cLine) (ha : RE X a fa) (hb : RE X b fb) : RE X (.Compare a [.NotEq] [b] pos) (fOp gNe fa fb) := re_cmp (op_neD hu) (fun x y z h => by
  unfold gNe at h
  split at h <;> cases h
  rename_i hs
  exact fun _ H v w _ h1 h2 Q q => ⟨x, y, h1.up hid_sub, h2.up hid_sub, hs.1, hs.2, q _ H (Step.refl H) (.bl _)⟩) ha hb (nomark _)
theorem isNone_dp {v : V} {x : PyData} (h : Dp K H v x) : decide (v = .non) = isNone x := by cases h <;> rfl
theorem isNone_eq {y : PyData} (h : isNone y = true) : y = .none := by cases y <;> first | rfl | cases h
theorem re_isN (ha : RE X a fa) (hb : RE X b fb) (hm : behindInMarks .Is b = false := by exact nomark _) : RE X (.Compare a [.Is] [b] pos) (fOp gIsN fa fb) := re_cmp op_isN (fun x y z h => by
  unfold gIsN at h
  split at h <;> cases h
  rename_i hs
  cases isNone_eq hs
  exact fun _ H v w _ h1 h2 Q q => ⟨dp_non h2, q _ H (Step.refl H) (by rw [isNone_dp h1]; exact .bl _)⟩) ha hb hm
theorem re_notN (ha : RE X a fa) (hb : RE X b fb) (hm : behindInMarks .IsNot b = false := by exact nomark _) : RE X (.Compare a [.IsNot] [b] pos) (fOp gNotN fa fb) := re_cmp op_notN (fun x y z h => by
  unfold gNotN at h
  split at h <;> cases h
  rename_i hs
  cases isNone_eq hs
  exact fun _ H v w _ h1 h2 Q q => ⟨dp_non h2, q _ H (Step.refl H) (by rw [isNone_dp h1]; exact .bl _)⟩) ha hb hm

/-! ### subscripts -/
def gIx : PyData → PyData → Option PyData
  | .list xs, .int i => atI xs i
  | .tuple xs, .int i => atI xs i
  | _, _ => none
theorem atI_dp {vs : List V} {ds : List PyData} {i : Int} {d : PyData} (h : DpAll K H vs ds) (e : atI ds i = some d) : ∃ v, atI vs i = some v ∧ Dp K H v d := by
  unfold atI at e ⊢
  rw [h.len]
  obtain ⟨j, e1, e2⟩ := Option.bind_eq_some_iff.mp e
  obtain ⟨v, h1, h2⟩ := h.get e2
  exact ⟨v, by rw [e1]; exact h1, h2⟩
theorem rd_ix {x y z : PyData} (h3 : gIx x y = some z) : RD K (rIx K) x y z := by
  unfold gIx at h3
  split at h3
  · intro hs H v w _ d1 d2 Q q
    obtain ⟨p, vs, rfl, hp, da⟩ := dp_list d1
    cases dp_int d2
    obtain ⟨u, e1, e2⟩ := atI_dp da h3
    exact .inl ⟨p, vs, _, u, rfl, rfl, sqL_mono hid_sub hp, e1, q _ H (Step.refl H) e2⟩
  · intro hs H v w _ d1 d2 Q q
    obtain ⟨p, vs, rfl, hp, da⟩ := dp_tuple d1
    cases dp_int d2
    obtain ⟨u, e1, e2⟩ := atI_dp da h3
    exact .inr (.inl ⟨p, vs, _, u, rfl, rfl, sqT_mono hid_sub hp, e1, q _ H (Step.refl H) e2⟩)
  · cases h3
theorem re_ix (ha : RE X a fa) (hb : RE X b fb) (hs : PlainIx b := by exact fun _ _ => rfl) : RE X (.Subscript a b pos) (fOp gIx fa fb) := .mk fun st d c h => by
  obtain ⟨⟨x, c1⟩, h1, h⟩ := bind_some h
  obtain ⟨⟨y, c2⟩, h2, h⟩ := bind_some h
  obtain ⟨z, h3, e⟩ := map_some h
  cases e
  exact RE.of (pe_ix ix_seq (pwE a) (pwE b) hs) (ed_op (ha _ _ _ h1) (hb _ _ _ h2) (rd_ix h3))
/-- x[k], x a list of one's own -/
def fCix (i : Nat) (b : FE) : FE := fun st => (b st).bind fun q => match st.ds[i]? with
  | some (some (.cel k)) => match q.2[k]?, q.1 with
    | some xs, .int j => (atI xs j).map fun z => (z, q.2)
    | _, _ => none
  | _ => none
theorem re_cix {i : Nat} {x : Str} {p0 : Pos} (hN : X.N[i]? = some x) (hv : Vis X.env.scope x) (hb : RE X b fb) (hd : (x == ("__debug__" : Str)) = false := by decide) (hcd : (x == ("__classdict__" : Str)) = false := by decide)
    (hs : PlainIx b := by exact fun _ _ => rfl) : RE X (.Subscript (.Name x p0) b pos) (fCix i fb) := .mk fun st d c h => by
  obtain ⟨⟨y, c2⟩, h2, h⟩ := bind_some h
  simp only at h
  split at h
  · rename_i k e0
    split at h
    · rename_i xs j e1
      obtain ⟨z, e2, e3⟩ := map_some h
      cases e3
      refine RE.of (pe_ix ix_seq (pe_var hN hv hd hcd) (pwE b) hs) fun hs ps σ H R Q q => ?_
      obtain ⟨v, h1, p, hp, rfl⟩ := R.slot i _ e0
      refine ⟨_, h1, hb _ _ _ h2 hs ps σ H R _ fun w H2 s2 R2 d2 => ?_⟩
      cases dp_int d2
      obtain ⟨vs, q1, q2⟩ := R2.hr.cel k p xs hp e1
      obtain ⟨u, e4, e5⟩ := atI_dp q2 e2
      exact .inl ⟨p, vs, _, u, rfl, rfl, .inl (.inl q1), e4, q u H2 s2 R2 e5⟩
    · cases h
  · cases h
/-! slices -/
def fPart (a : FE) : Sta → Option (Option Int × Cs) := fun st => (a st).bind fun p => match p.1 with
  | .int i => some (some i, p.2)
  | _ => none
def fNoPart : Sta → Option (Option Int × Cs) := fun st => some (none, st.cs)
def EDO (K : PySem.W.Frag) (to : TO) (st : Sta) (o : Option Int) (cs' : Cs) : Prop :=
  ∀ hs ps σ H, Rel K hs ps σ H st → ∀ Q : Option Int → Hp → Prop, (∀ H2, Step ps H H2 → Rel K hs ps σ H2 ⟨st.ds, cs'⟩ → Q o H2) → to σ H Q
structure RO (X : Cx) (e : Option Expr) (f : Sta → Option (Option Int × Cs)) : Prop where
  h : ∃ to, PO X e to ∧ ∀ st o c, f st = some (o, c) → EDO X.K to st o c
theorem ro_none : RO X none fNoPart := ⟨_, po_none, fun st o c h => by
  cases h
  exact fun hs ps σ H R Q q => q H (Step.refl H) R⟩
theorem ro_some (ha : RE X a fa) : RO X (some a) (fPart fa) := ⟨_, po_some (pwE a), fun st o c h => by
  obtain ⟨⟨x, c1⟩, h1, h⟩ := bind_some h
  simp only at h
  split at h
  · cases h
    exact fun hs ps σ H R Q q => ha _ _ _ h1 hs ps σ H R _ fun v H2 s2 R2 d2 => ⟨_, dp_int d2, q H2 s2 R2⟩
  · cases h⟩
def cutD (xs : List PyData) (lo hi : Option Int) : List PyData := (xs.drop (HT.sIx xs.length 0 lo)).take (HT.sIx xs.length xs.length hi - HT.sIx xs.length 0 lo)
def fSlL (a : FE) (l u : Sta → Option (Option Int × Cs)) : FL := fun st => (a st).bind fun p => (l ⟨st.ds, p.2⟩).bind fun q => (u ⟨st.ds, q.2⟩).bind fun r => match p.1 with
  | .list xs => some (cutD xs q.1 r.1, r.2)
  | _ => none
theorem fresh_back {H H' : Hp} {p : Addr} {hs ps : List Addr} {cs : Cs} (s : Step ps H H') (R : HR K hs ps H' cs) (h : H' p = none) : H p = none := by
  cases hq : H p with
  | none => rfl
  | some o =>
    by_cases m : p ∈ ps
    · exact absurd h (R.trk p (R.sub p m))
    · rw [s p o m hq] at h; cases h
theorem fresh_hid {H : Hp} {p : Addr} {hs : List Addr} (hp : H p = none) : ∀ a ∈ p :: hs, a ∉ hs → H a = none := fun a m n => by
  rcases List.mem_cons.mp m with e | m
  · rw [e]; exact hp
  · exact absurd m n
/-- a list is laid -/
theorem lay_list {hs ps : List Addr} {σ : St} {H H2 : Hp} {st : Sta} {p : Addr} {vs : List V} {ds : List PyData} (s2 : Step ps H H2) (R2 : Rel K hs ps σ H2 st) (hp : H2 p = none) (dd : DpAll K (hid hs H2) vs ds) :
    H p = none ∧ Step ps H (upd H2 p (.lst vs)) ∧ Rel K (p :: hs) ps σ (upd H2 p (.lst vs)) st ∧ (upd H2 p (.lst vs)) p = some (.lst vs) ∧ DpAll K (hid (p :: hs) (upd H2 p (.lst vs))) vs ds := by
  have s3 : Step [] H2 (upd H2 p (.lst vs)) := Step.new hp
  exact ⟨fresh_back s2 R2.hr hp, s2.trans (s3.mono (by simp)), R2.more s3 hp (by rw [upd_same]; simp), upd_same, dd.up ((s3.mono (qs := []) (by simp)).hd (by simp) (fresh_hid hp))⟩
theorem rl_sl {lo hi : Option Expr} {fl fu : Sta → Option (Option Int × Cs)} {p2 : Pos} (ha : RE X a fa) (hl : RO X lo fl) (hu : RO X hi fu) : RL X (.Subscript a (.Slice lo hi none p2) pos) (fSlL fa fl fu) := .mk fun st d c h => by
  obtain ⟨⟨x, c1⟩, h1, h⟩ := bind_some h
  obtain ⟨⟨y, c2⟩, h2, h⟩ := bind_some h
  obtain ⟨⟨z, c3⟩, h3, h⟩ := bind_some h
  obtain ⟨tl, pl, kl⟩ := hl
  obtain ⟨tu, pu, ku⟩ := hu
  simp only at h
  split at h
  · cases h
    refine RL.of (pe_slice sl_list (pwE a) pl pu) fun hs ps σ H R Q q => ha _ _ _ h1 hs ps σ H R _ fun v H2 s2 R2 d2 => kl _ _ _ h2 hs ps σ H2 R2 _ fun H3 s3 R3 => ku _ _ _ h3 hs ps σ H3 R3 _ fun H4 s4 R4 => ?_
    obtain ⟨p, vs, rfl, hp, da⟩ := dp_list d2
    have sb := (s3.trans s4).hd0 R2.hr.sub
    refine ⟨p, vs, rfl, sqL_mono hid_sub (sqL_mono sb hp), fun t ht => ?_⟩
    have da4 := da.up sb
    obtain ⟨k1, k2, k3, k4, k5⟩ := lay_list (vs := cutV vs y z) (ds := cutD _ y z) ((s2.trans s3).trans s4) R4 ht (by
      unfold cutV cutD
      rw [da4.len]
      exact (da4.dr _).tk _)
    exact q t _ _ k1 k2 k3 k4 k5
  · cases h
end
end DL


set_option Elab.async false
set_option linter.all false
set_option maxRecDepth 100000
set_option maxHeartbeats 4000000
namespace DL
open PySem PySem.Spec L2
open PyProof.Rows hiding St

/-! ### built-ins -/
def RCD (K : PySem.W.Frag) (r : List V → Hp → VK → Prop) (xs : List PyData) (z : PyData) : Prop := ∀ (hs : List Addr) (H : Hp) (vs : List V), (∀ a ∈ hs, H a ≠ none) → DpAll K (hid hs H) vs xs →
  ∀ Q : VK, (∀ u H', Step [] H H' → Dp K (hid hs H') u z → Q u H') → r vs H Q
def fBi (g : List PyData → Option PyData) (a : FA) : FE := fun st => (a st).bind fun p => (datsOf p.1).bind fun ds => (g ds).map fun z => (z, p.2)
section
variable {X : Cx} {K : PySem.W.Frag} {a b e : Expr} {es : List Expr} {p pos : Pos} {fa : FA} {fe : FE} {r : List V → Hp → VK → Prop} {g : List PyData → Option PyData} {x : Str} {nm T : String}
theorem ed_bi {st : Sta} {z : PyData} {c : Cs} {ta : TA} (h : fBi g fa st = some (z, c)) (hr : ∀ xs z, g xs = some z → RCD K r xs z) (ha : ∀ st d c, fa st = some (d, c) → EDA K ta st d c) : ED K (tCB r ta) st z c := by
  obtain ⟨⟨xs, c1⟩, h1, h⟩ := bind_some h
  obtain ⟨ds, h2, h⟩ := bind_some h
  obtain ⟨y, h3, e⟩ := map_some h
  cases e
  refine fun hs ps σ H R Q q => ha _ _ _ h1 hs ps σ H R _ fun vs H2 s2 R2 p2 => ?_
  rw [datsOf_dat (show datsOf xs = some ds from h2)] at p2
  exact hr _ _ h3 hs H2 vs R2.hr.trk (paired_dat p2) Q fun u H3 s3 d3 => q u H3 (s2.trans (s3.mono (by simp))) (R2.step s3) d3
theorem re_bi (hc : CallR X (.builtin nm) r) (hr : ∀ xs z, g xs = some z → RCD X.K r xs z) (hg : Gl X x) (hm : X.mg x = none) (hv : bootBuiltins x = some (.builtin nm)) (ha : RA X (e :: es) fa) (hn : x ≠ "__name__" := by decide) (hdb : (x == ("__debug__" : Str)) = false := by decide)
    (he : starEach (e :: es) X.env = (false, eval e X.env) :: starEach es X.env := by with_reducible first | exact sn_name | exact sn_const | exact sn_tup | exact sn_list | exact sn_bin | exact sn_un | exact sn_bool | exact sn_cmp | exact sn_call | exact sn_sub | exact sn_if | exact sn_attr | exact sn_lc) (hpl : (backTo pos (starEach es X.env)).any (·.1) = false := by rfl) : RE X (.Call (.Name x p) (e :: es) [] pos) (fBi g fa) := .mk fun st d c h =>
  RE.of (pe_callB hc hg hm hv (pwA (e :: es)) hn hdb he hpl) (ed_bi h hr ha)
theorem re_biT (hc : CallR X (.type T) r) (hr : ∀ xs z, g xs = some z → RCD X.K r xs z) (hg : Gl X x) (hm : X.mg x = none) (hv : bootBuiltins x = some (.type T)) (ha : RA X (e :: es) fa) (hn : x ≠ "__name__" := by decide) (hdb : (x == ("__debug__" : Str)) = false := by decide)
    (he : starEach (e :: es) X.env = (false, eval e X.env) :: starEach es X.env := by with_reducible first | exact sn_name | exact sn_const | exact sn_tup | exact sn_list | exact sn_bin | exact sn_un | exact sn_bool | exact sn_cmp | exact sn_call | exact sn_sub | exact sn_if | exact sn_attr | exact sn_lc) (hpl : (backTo pos (starEach es X.env)).any (·.1) = false := by rfl) : RE X (.Call (.Name x p) (e :: es) [] pos) (fBi g fa) := .mk fun st d c h =>
  RE.of (pe_callTy hc hg hm hv (pwA (e :: es)) hn hdb he hpl) (ed_bi h hr ha)
theorem dpa1 {H : Hp} {vs : List V} {d : PyData} (h : DpAll K H vs [d]) : ∃ v, vs = [v] ∧ Dp K H v d := by
  cases h with
  | cons a t => cases t; exact ⟨_, rfl, a⟩
theorem dpa2 {H : Hp} {vs : List V} {d d' : PyData} (h : DpAll K H vs [d, d']) : ∃ v w, vs = [v, w] ∧ Dp K H v d ∧ Dp K H w d' := by
  cases h with
  | cons a t =>
    obtain ⟨w, rfl, h2⟩ := dpa1 t
    exact ⟨_, _, rfl, a, h2⟩
/-! len -/
def gLen : List PyData → Option PyData
  | [.list xs] => some (.int xs.length)
  | [.tuple xs] => some (.int xs.length)
  | _ => none
theorem re_len (hg : Gl X "len") (hm : X.mg "len" = none) (ha : RA X [a] fa) (he : starEach [a] X.env = (false, eval a X.env) :: starEach [] X.env := by with_reducible first | exact sn_name | exact sn_const | exact sn_tup | exact sn_list | exact sn_bin | exact sn_un | exact sn_bool | exact sn_cmp | exact sn_call | exact sn_sub | exact sn_if | exact sn_attr | exact sn_lc) : RE X (.Call (.Name "len" p) [a] [] pos) (fBi gLen fa) :=
  re_bi call_len (fun xs z h => by
    unfold gLen at h
    split at h <;> cases h
    · intro hs H vs _ d Q q
      obtain ⟨v, rfl, d1⟩ := dpa1 d
      obtain ⟨p, ws, rfl, hp, da⟩ := dp_list d1
      exact ⟨_, ws.length, rfl, .inl ⟨ws, sqL_mono hid_sub hp, rfl⟩, q _ H (Step.refl H) (by rw [da.len]; exact .int _)⟩
    · intro hs H vs _ d Q q
      obtain ⟨v, rfl, d1⟩ := dpa1 d
      obtain ⟨p, ws, rfl, hp, da⟩ := dp_tuple d1
      exact ⟨_, ws.length, rfl, .inr ⟨ws, sqT_mono hid_sub hp, rfl⟩, q _ H (Step.refl H) (by rw [da.len]; exact .int _)⟩) hg hm PySem.boot_len ha (he := he)
/-! all, any, sum -/
def boolsOf : List PyData → Option (List Bool)
  | [] => some []
  | .bool b :: r => (boolsOf r).map (b :: ·)
  | _ => none
theorem bools_dp {H : Hp} : ∀ {ds : List PyData} {bs : List Bool} {vs : List V}, boolsOf ds = some bs → DpAll K H vs ds → vs = bs.map V.bl
  | [], bs, vs, h, d => by
    cases d
    have h' := Option.some.inj h
    subst h'; rfl
  | d0 :: r, bs, vs, h, d => by
    cases d with
    | cons a t =>
      cases d0 <;> first | (exfalso; cases h; done) | skip
      rename_i b0
      obtain ⟨l, h1, rfl⟩ := map_some (show (boolsOf r).map (b0 :: ·) = some bs from h)
      rw [bools_dp h1 t, dp_bool a]; rfl
def intsOf : List PyData → Option (List Int)
  | [] => some []
  | .int b :: r => (intsOf r).map (b :: ·)
  | _ => none
theorem ints_dp {H : Hp} : ∀ {ds : List PyData} {bs : List Int} {vs : List V}, intsOf ds = some bs → DpAll K H vs ds → vs = bs.map V.int
  | [], bs, vs, h, d => by
    cases d
    have h' := Option.some.inj h
    subst h'; rfl
  | d0 :: r, bs, vs, h, d => by
    cases d with
    | cons a t =>
      cases d0 <;> first | (exfalso; cases h; done) | skip
      rename_i b0
      obtain ⟨l, h1, rfl⟩ := map_some (show (intsOf r).map (b0 :: ·) = some bs from h)
      rw [ints_dp h1 t, dp_int a]; rfl
def gAll : List PyData → Option PyData
  | [.list xs] => (boolsOf xs).map fun bs => .bool (bs.all id)
  | _ => none
def gAny : List PyData → Option PyData
  | [.list xs] => (boolsOf xs).map fun bs => .bool (bs.any id)
  | _ => none
theorem re_all (hc : X.calm = true) (hg : Gl X "all") (hm : X.mg "all" = none) (ha : RA X [a] fa) (he : starEach [a] X.env = (false, eval a X.env) :: starEach [] X.env := by with_reducible first | exact sn_name | exact sn_const | exact sn_tup | exact sn_list | exact sn_bin | exact sn_un | exact sn_bool | exact sn_cmp | exact sn_call | exact sn_sub | exact sn_if | exact sn_attr | exact sn_lc) : RE X (.Call (.Name "all" p) [a] [] pos) (fBi gAll fa) :=
  re_bi (cr_all hc) (fun xs z h => by
    unfold gAll at h
    split at h
    · obtain ⟨bs, h1, rfl⟩ := map_some h
      intro hs H vs _ d Q q
      obtain ⟨v, rfl, d1⟩ := dpa1 d
      obtain ⟨p, ws, rfl, hp, da⟩ := dp_list d1
      rw [bools_dp h1 da] at hp
      exact ⟨p, bs, rfl, sqL_mono hid_sub hp, q _ H (Step.refl H) (.bl _)⟩
    · cases h) hg hm (by decide +kernel) ha (he := he)
theorem re_any (hc : X.calm = true) (hg : Gl X "any") (hm : X.mg "any" = none) (ha : RA X [a] fa) (he : starEach [a] X.env = (false, eval a X.env) :: starEach [] X.env := by with_reducible first | exact sn_name | exact sn_const | exact sn_tup | exact sn_list | exact sn_bin | exact sn_un | exact sn_bool | exact sn_cmp | exact sn_call | exact sn_sub | exact sn_if | exact sn_attr | exact sn_lc) : RE X (.Call (.Name "any" p) [a] [] pos) (fBi gAny fa) :=
  re_bi (cr_any hc) (fun xs z h => by
    unfold gAny at h
    split at h
    · obtain ⟨bs, h1, rfl⟩ := map_some h
      intro hs H vs _ d Q q
      obtain ⟨v, rfl, d1⟩ := dpa1 d
      obtain ⟨p, ws, rfl, hp, da⟩ := dp_list d1
      rw [bools_dp h1 da] at hp
      exact ⟨p, bs, rfl, sqL_mono hid_sub hp, q _ H (Step.refl H) (.bl _)⟩
    · cases h) hg hm (by decide +kernel) ha (he := he)
/-! int, abs, max, min -/
def gInt : List PyData → Option PyData
  | [.int i] => some (.int i)
  | [.bool b] => some (.int (if b then 1 else 0))
  | _ => none
def gAbs : List PyData → Option PyData
  | [.int i] => some (.int (if i < 0 then -i else i))
  | _ => none
def gMax : List PyData → Option PyData
  | [.int i, .int j] => some (.int (if j > i then j else i))
  | _ => none
def gMin : List PyData → Option PyData
  | [.int i, .int j] => some (.int (if j < i then j else i))
  | _ => none
theorem re_intc (hg : Gl X "int") (hm : X.mg "int" = none) (ha : RA X [a] fa) (he : starEach [a] X.env = (false, eval a X.env) :: starEach [] X.env := by with_reducible first | exact sn_name | exact sn_const | exact sn_tup | exact sn_list | exact sn_bin | exact sn_un | exact sn_bool | exact sn_cmp | exact sn_call | exact sn_sub | exact sn_if | exact sn_attr | exact sn_lc) : RE X (.Call (.Name "int" p) [a] [] pos) (fBi gInt fa) :=
  re_biT call_int1 (fun xs z h => by
    unfold gInt at h
    split at h <;> cases h
    · intro hs H vs _ d Q q
      obtain ⟨v, rfl, d1⟩ := dpa1 d
      cases dp_int d1
      exact .inl ⟨_, rfl, q _ H (Step.refl H) (.int _)⟩
    · intro hs H vs _ d Q q
      obtain ⟨v, rfl, d1⟩ := dpa1 d
      cases dp_bool d1
      exact .inr ⟨_, rfl, q _ H (Step.refl H) (.int _)⟩) hg hm (by decide +kernel) ha (he := he)
theorem re_abs (hg : Gl X "abs") (hm : X.mg "abs" = none) (ha : RA X [a] fa) (he : starEach [a] X.env = (false, eval a X.env) :: starEach [] X.env := by with_reducible first | exact sn_name | exact sn_const | exact sn_tup | exact sn_list | exact sn_bin | exact sn_un | exact sn_bool | exact sn_cmp | exact sn_call | exact sn_sub | exact sn_if | exact sn_attr | exact sn_lc) : RE X (.Call (.Name "abs" p) [a] [] pos) (fBi gAbs fa) :=
  re_bi call_abs (fun xs z h => by
    unfold gAbs at h
    split at h <;> cases h
    intro hs H vs _ d Q q
    obtain ⟨v, rfl, d1⟩ := dpa1 d
    cases dp_int d1
    exact ⟨_, rfl, q _ H (Step.refl H) (.int _)⟩) hg hm (by decide +kernel) ha (he := he)
theorem re_max (hc : X.calm = true) (hg : Gl X "max") (hm : X.mg "max" = none) (ha : RA X [a, b] fa) (he : starEach [a, b] X.env = (false, eval a X.env) :: starEach [b] X.env := by with_reducible first | exact sn_name | exact sn_const | exact sn_tup | exact sn_list | exact sn_bin | exact sn_un | exact sn_bool | exact sn_cmp | exact sn_call | exact sn_sub | exact sn_if | exact sn_attr | exact sn_lc) (hpl : (backTo pos (starEach [b] X.env)).any (·.1) = false := by rfl) : RE X (.Call (.Name "max" p) [a, b] [] pos) (fBi gMax fa) :=
  re_bi (call_max2 hc) (fun xs z h => by
    unfold gMax at h
    split at h <;> cases h
    intro hs H vs _ d Q q
    obtain ⟨v, w, rfl, d1, d2⟩ := dpa2 d
    cases dp_int d1
    cases dp_int d2
    exact ⟨_, _, rfl, q _ H (Step.refl H) (.int _)⟩) hg hm (by decide +kernel) ha (he := he) (hpl := hpl)
theorem re_min (hc : X.calm = true) (hg : Gl X "min") (hm : X.mg "min" = none) (ha : RA X [a, b] fa) (he : starEach [a, b] X.env = (false, eval a X.env) :: starEach [b] X.env := by with_reducible first | exact sn_name | exact sn_const | exact sn_tup | exact sn_list | exact sn_bin | exact sn_un | exact sn_bool | exact sn_cmp | exact sn_call | exact sn_sub | exact sn_if | exact sn_attr | exact sn_lc) (hpl : (backTo pos (starEach [b] X.env)).any (·.1) = false := by rfl) : RE X (.Call (.Name "min" p) [a, b] [] pos) (fBi gMin fa) :=
  re_bi (call_min2 hc) (fun xs z h => by
    unfold gMin at h
    split at h <;> cases h
    intro hs H vs _ d Q q
    obtain ⟨v, w, rfl, d1, d2⟩ := dpa2 d
    cases dp_int d1
    cases dp_int d2
    exact ⟨_, _, rfl, q _ H (Step.refl H) (.int _)⟩) hg hm (by decide +kernel) ha (he := he) (hpl := hpl)
/-! gcd -/
def gGcd : List PyData → Option PyData
  | [.int i, .int j] => some (.int ((Nat.gcd i.natAbs j.natAbs : Nat) : Int))
  | _ => none
theorem re_gcd (hg : Gl X x) (hm : X.mg x = some (.builtin "math.gcd")) (ha : RA X [a, b] fa) (hdb : (x == ("__debug__" : Str)) = false := by decide) (he : starEach [a, b] X.env = (false, eval a X.env) :: starEach [b] X.env := by with_reducible first | exact sn_name | exact sn_const | exact sn_tup | exact sn_list | exact sn_bin | exact sn_un | exact sn_bool | exact sn_cmp | exact sn_call | exact sn_sub | exact sn_if | exact sn_attr | exact sn_lc) (hpl : (backTo pos (starEach [b] X.env)).any (·.1) = false := by rfl) : RE X (.Call (.Name x p) [a, b] [] pos) (fBi gGcd fa) := .mk fun st d c h =>
  RE.of (pe_callBfun cr_gcd hg hm (pwA [a, b]) hdb he hpl) (ed_bi h (fun xs z h => by
    unfold gGcd at h
    split at h <;> cases h
    intro hs H vs _ d Q q
    obtain ⟨v, w, rfl, d1, d2⟩ := dpa2 d
    cases dp_int d1
    cases dp_int d2
    exact ⟨_, _, rfl, q _ H (Step.refl H) (.int _)⟩) ha)
/-! divmod -/
def divmodOk (i j : Int) : Bool := decide (0 < j) && !Builtin.divisionGoesByPylong i j
def gDivmod : List PyData → Option PyData
  | [.int i, .int j] => if divmodOk i j = true then some (.tuple [.int (i / j), .int (i % j)]) else none
  | _ => none
theorem re_divmod (hg : Gl X "divmod") (hm : X.mg "divmod" = none) (ha : RA X [a, b] fa) (he : starEach [a, b] X.env = (false, eval a X.env) :: starEach [b] X.env := by with_reducible first | exact sn_name | exact sn_const | exact sn_tup | exact sn_list | exact sn_bin | exact sn_un | exact sn_bool | exact sn_cmp | exact sn_call | exact sn_sub | exact sn_if | exact sn_attr | exact sn_lc) (hpl : (backTo pos (starEach [b] X.env)).any (·.1) = false := by rfl) : RE X (.Call (.Name "divmod" p) [a, b] [] pos) (fBi gDivmod fa) :=
  re_bi call_divmodW (fun xs z h => by
    unfold gDivmod at h
    split at h
    · split at h <;> cases h
      rename_i hok
      intro hs H vs ht d Q q
      obtain ⟨v, w, rfl, d1, d2⟩ := dpa2 d
      cases dp_int d1
      cases dp_int d2
      unfold divmodOk at hok
      rw [Bool.and_eq_true] at hok
      refine ⟨_, _, rfl, ⟨of_decide_eq_true hok.1, by simpa using hok.2⟩, fun t ht' => ?_⟩
      have hph : t ∉ hs := fun m => ht t m ht'
      exact q _ _ (Step.new ht') (.tup (.inl (.inl (by rw [hid_out hph]; exact upd_same))) (.cons (.int _) (.cons (.int _) .nil)))
    · cases h) hg hm (by decide +kernel) ha (he := he) (hpl := hpl)
/-! tuple(..), list(..) -/
def gTuple : List PyData → Option PyData
  | [.list xs] => some (.tuple xs)
  | [.tuple xs] => some (.tuple xs)
  | _ => none
theorem re_tuple (hg : Gl X "tuple") (hm : X.mg "tuple" = none) (ha : RA X [a] fa) (he : starEach [a] X.env = (false, eval a X.env) :: starEach [] X.env := by with_reducible first | exact sn_name | exact sn_const | exact sn_tup | exact sn_list | exact sn_bin | exact sn_un | exact sn_bool | exact sn_cmp | exact sn_call | exact sn_sub | exact sn_if | exact sn_attr | exact sn_lc) : RE X (.Call (.Name "tuple" p) [a] [] pos) (fBi gTuple fa) :=
  re_biT call_tuple_of (fun xs z h => by
    unfold gTuple at h
    split at h <;> cases h
    · intro hs H vs ht d Q q
      obtain ⟨v, rfl, d1⟩ := dpa1 d
      obtain ⟨p, ws, rfl, hp, da⟩ := dp_list d1
      refine ⟨p, ws, rfl, .inl ⟨sqL_mono hid_sub hp, fun t ht' => ?_⟩⟩
      have hph : t ∉ hs := fun m => ht t m ht'
      have s3 : Step [] H (upd H t (.tup ws)) := Step.new ht'
      exact q _ _ s3 (.tup (.inl (.inl (by rw [hid_out hph]; exact upd_same))) (da.up (s3.hd0 (by simp))))
    · intro hs H vs _ d Q q
      obtain ⟨v, rfl, d1⟩ := dpa1 d
      obtain ⟨p, ws, rfl, hp, da⟩ := dp_tuple d1
      exact ⟨p, ws, rfl, .inr ⟨sqT_mono hid_sub hp, q _ H (Step.refl H) (.tup hp da)⟩⟩) hg hm (by decide +kernel) ha (he := he)
def fList (a : FE) : FL := fun st => (a st).bind fun p => match p.1 with
  | .list xs => some (xs, p.2)
  | .tuple xs => some (xs, p.2)
  | _ => none
theorem rl_list (hg : Gl X "list") (hm : X.mg "list" = none) (ha : RE X a fe) (he : starEach [a] X.env = (false, eval a X.env) :: starEach [] X.env := by with_reducible first | exact sn_name | exact sn_const | exact sn_tup | exact sn_list | exact sn_bin | exact sn_un | exact sn_bool | exact sn_cmp | exact sn_call | exact sn_sub | exact sn_if | exact sn_attr | exact sn_lc) : RL X (.Call (.Name "list" p) [a] [] pos) (fList fe) := .mk fun st d c h => by
  obtain ⟨⟨y, c1⟩, h1, h⟩ := bind_some h
  refine RL.of (pe_callTy call_list_of hg hm (by decide +kernel) (pa_cons (pwE a) pa_nil he) (he := he)) fun hs ps σ H R Q q => ha _ _ _ h1 hs ps σ H R _ fun v H2 s2 R2 d2 => ?_
  simp only at h
  split at h
  · cases h
    obtain ⟨p, ws, rfl, hp, da⟩ := dp_list d2
    refine ⟨p, ws, rfl, .inl (sqL_mono hid_sub hp), fun t ht => ?_⟩
    obtain ⟨k1, k2, k3, k4, k5⟩ := lay_list s2 R2 ht da
    exact q t _ _ k1 k2 k3 k4 k5
  · cases h
    obtain ⟨p, ws, rfl, hp, da⟩ := dp_tuple d2
    refine ⟨p, ws, rfl, .inr (sqT_mono hid_sub hp), fun t ht => ?_⟩
    obtain ⟨k1, k2, k3, k4, k5⟩ := lay_list s2 R2 ht da
    exact q t _ _ k1 k2 k3 k4 k5
  · cases h
/-! type(x) is T, isinstance(x, T) -/
def tyOf : PyData → String
  | .none => "NoneType"
  | .bool _ => "bool"
  | .int _ => "int"
  | .str _ => "str"
  | .list _ => "list"
  | .tuple _ => "tuple"
  | .dict _ => "dict"
theorem rl_typeD {pins : List (Addr × Obj)} {s : Shared} {σ : St} {H : Hp} {v : V} {u : Value} {d : PyData} {Q : VK} (I : L2.Inv X pins σ H s) (r : RelV v u) (hd : Dp X.K H v d) (q : Q (.ty (tyOf d)) H) :
    wpAny (model X.prog X.w) X.A (call (.type "type") [u]) (EP X pins σ Q) X.xe s := by
  have fin : EP X pins σ Q (.type (tyOf d)) s := ⟨.ty (tyOf d), H, I, rfl, q⟩
  cases hd with
  | non => cases (show u = Value.none from r); exact call_type_of (Tx := "NoneType") rfl (by decide +kernel) fin
  | bl y => cases (show u = Value.bool y from r); exact call_type_of (Tx := "bool") rfl (by decide +kernel) fin
  | int i => obtain ⟨t, rfl⟩ := (show ∃ t, u = Value.int i t from r); exact call_type_of (Tx := "int") rfl (by decide +kernel) fin
  | str y => obtain ⟨t, rfl⟩ := (show ∃ t, u = Value.str y t from r); exact call_type_of (Tx := "str") rfl (by decide +kernel) fin
  | lst a b =>
    cases (show u = Value.ref _ from r)
    obtain ⟨its, rv, ⟨o, n, e, c, _, _⟩, _⟩ := I.list a
    exact call_type_of (Tx := "list") ⟨o, e, c⟩ (by decide +kernel) fin
  | tup a b =>
    cases (show u = Value.ref _ from r)
    obtain ⟨its, rv, ⟨o, e, c, _⟩, _⟩ := I.tuple a
    exact call_type_of (Tx := "tuple") ⟨o, e, c⟩ (by decide +kernel) fin
def gTyIs (T : String) (x : PyData) : Option PyData := some (.bool (decide (tyOf x = T)))
def rTyD (K : PySem.W.Frag) : List V → Hp → VK → Prop := fun xs H Q => ∃ v d, xs = [v] ∧ Dp K H v d ∧ Q (.ty (tyOf d)) H
theorem call_typeD : CallR X (.type "type") (rTyD X.K) := by
  intro pins s σ H xs us Q I r h
  obtain ⟨v, d, rfl, hd, q⟩ := h
  obtain ⟨u, rfl, rx⟩ := vals1 r
  exact rl_typeD I rx hd q
theorem dp_ty {H : Hp} {v : V} {d : PyData} (h : Dp K H v d) {d' : PyData} (h' : Dp K H v d') : True := trivial
theorem re_tyIs {y : Str} {T : String} {p1 p2 p3 : Pos} (hg : Gl X "type") (hm : X.mg "type" = none) (hgT : Gl X y) (hmT : X.mg y = none) (hvT : bootBuiltins y = some (.type T)) (ha : RE X a fe) (he : starEach [a] X.env = (false, eval a X.env) :: starEach [] X.env := by with_reducible first | exact sn_name | exact sn_const | exact sn_tup | exact sn_list | exact sn_bin | exact sn_un | exact sn_bool | exact sn_cmp | exact sn_call | exact sn_sub | exact sn_if | exact sn_attr | exact sn_lc)
    (hnT : y ≠ "__name__" := by decide) (hdT : (y == ("__debug__" : Str)) = false := by decide) :
    RE X (.Compare (.Call (.Name "type" p1) [a] [] p2) [.Is] [.Name y p3] pos) (fUn (gTyIs T) fe) := .mk fun st d c h => by
  obtain ⟨⟨z, c1⟩, h1, h⟩ := bind_some h
  obtain ⟨w, h2, e⟩ := map_some h
  cases e
  cases h2
  refine RE.of (pe_cmpR op_isTyB (pe_callTy call_typeD hg hm (by decide +kernel) (pa_cons (pwE a) pa_nil he) (he := he)) (pe_bltn (v := .ty T) hgT hmT hvT rfl hnT hdT) (nomark _)) fun hs ps σ H R Q q => ha _ _ _ h1 hs ps σ H R _ fun v H2 s2 R2 d2 => ?_
  exact ⟨v, z, rfl, d2.up hid_sub, _, _, rfl, rfl, q _ H2 s2 R2 (.bl _)⟩
def gIsi (T : String) (x : PyData) : Option PyData := (kitB (tyOf x) T).map .bool
theorem dp_tyX {H : Hp} {v : V} {d : PyData} (h : Dp K H v d) : TyX K H v (.type (tyOf d)) := by
  cases h with
  | non => exact .base .non
  | bl y => exact .base (.bl y)
  | int i => exact .base (.int i)
  | str y => exact .base (.str y)
  | lst a b =>
    rcases a with (a | ⟨o, a⟩) | ⟨o, its, n, h1, h2, _⟩
    · exact .base (.lst a)
    · exact .base (.frz a)
    · exact .kList h1 h2
  | tup a b =>
    rcases a with (a | ⟨o, a⟩) | ⟨o, its, n, h1, h2, _⟩
    · exact .base (.tup a)
    · exact .fTuple a
    · exact .kTuple h1 h2
theorem re_isi {y : Str} {T : String} {p1 p3 : Pos} (hg : Gl X "isinstance") (hm : X.mg "isinstance" = none) (hgT : Gl X y) (hmT : X.mg y = none) (hvT : bootBuiltins y = some (.type T)) (ha : RE X a fe)
    (he : starEach [a, .Name y p3] X.env = (false, eval a X.env) :: starEach [.Name y p3] X.env := by with_reducible first | exact sn_name | exact sn_const | exact sn_tup | exact sn_list | exact sn_bin | exact sn_un | exact sn_bool | exact sn_cmp | exact sn_call | exact sn_sub | exact sn_if | exact sn_attr | exact sn_lc) (he2 : starEach [.Name y p3] X.env = (false, eval (.Name y p3) X.env) :: starEach [] X.env := by rfl) (hpl : (backTo pos (starEach [.Name y p3] X.env)).any (·.1) = false := by rfl) (hnT : y ≠ "__name__" := by decide) (hdT : (y == ("__debug__" : Str)) = false := by decide) :
    RE X (.Call (.Name "isinstance" p1) [a, .Name y p3] [] pos) (fUn (gIsi T) fe) := .mk fun st d c h => by
  obtain ⟨⟨z, c1⟩, h1, h⟩ := bind_some h
  obtain ⟨w, h2, e⟩ := map_some h
  cases e
  obtain ⟨b, h3, rfl⟩ := map_some h2
  refine RE.of (pe_callB call_isi hg hm (by decide +kernel) (pa_cons (pwE a) (pa_cons (pe_bltn (v := .ty T) hgT hmT hvT rfl hnT hdT) pa_nil he2) he) (he := he) (hpl := hpl)) fun hs ps σ H R Q q => ha _ _ _ h1 hs ps σ H R _ fun v H2 s2 R2 d2 => ?_
  exact ⟨v, .ty T, _, _, b, rfl, .ty T, dp_tyX (d2.up hid_sub), kit_ty h3, q _ H2 s2 R2 (.bl _)⟩
/-! repr -/
def shownOk (d : PyData) : Bool := d.showable && !d.hasDict && decide (d.shown.length ≤ sizeLine) && decide (d.depth ≤ 60)
def gRepr : List PyData → Option PyData
  | [d] => if shownOk d = true then some (.str d.shown) else none
  | _ => none
def rRepr (K : PySem.W.Frag) : List V → Hp → VK → Prop := fun xs H Q => ∃ v d, xs = [v] ∧ Dp K H v d ∧ shownOk d = true ∧ Q (.str d.shown) H
theorem call_reprD (hgd : X.A.guards = some []) (hu : X.A.units + 64 < cLine) : CallR X (.builtin "repr") (rRepr X.K) := by
  intro pins s σ H xs us Q I r h
  obtain ⟨v, d, rfl, hd, hok, q⟩ := h
  obtain ⟨u, rfl, rx⟩ := vals1 r
  unfold shownOk at hok
  simp only [Bool.and_eq_true, Bool.not_eq_true', decide_eq_true_eq] at hok
  obtain ⟨⟨⟨h1, h2⟩, h3⟩, h4⟩ := hok
  obtain ⟨as, hr⟩ := Dp.reads I d v u hd rx
  cases hd with
  | non => cases (show u = Value.none from rx); exact PySem.P.repr_of_none ⟨.str (PyData.shown .none), H, I.tok _, ⟨_, rfl⟩, q⟩
  | bl y => cases (show u = Value.bool y from rx); exact PySem.P.repr_of_bool ⟨.str (PyData.shown (.bool y)), H, I.tok _, ⟨_, rfl⟩, q⟩
  | int i => obtain ⟨t, rfl⟩ := (show ∃ t, u = Value.int i t from rx); exact PySem.P.repr_of_int (of_decide_eq_true h1) ⟨.str (PyData.shown (.int i)), H, I.tok _, ⟨_, rfl⟩, q⟩
  | str y => obtain ⟨t, rfl⟩ := (show ∃ t, u = Value.str y t from rx); exact PySem.P.repr_of_str ⟨.str (PyData.shown (.str y)), H, I.tok _, ⟨_, rfl⟩, q⟩ h3
  | lst a b =>
    cases (show u = Value.ref _ from rx)
    exact repr_of_reads' hr h1 (PyData.noDict_hsm h2) hgd (by omega) (fun _ _ e => e) (fun h' t tk hk => ⟨.str _, H, I.kept hk, ⟨_, rfl⟩, q⟩) h3
  | tup a b =>
    cases (show u = Value.ref _ from rx)
    exact repr_of_reads' hr h1 (PyData.noDict_hsm h2) hgd (by omega) (fun _ _ e => e) (fun h' t tk hk => ⟨.str _, H, I.kept hk, ⟨_, rfl⟩, q⟩) h3
theorem re_repr (hgd : X.A.guards = some []) (hu : X.A.units + 64 < cLine) (hg : Gl X "repr") (hm : X.mg "repr" = none) (ha : RA X [a] fa) (he : starEach [a] X.env = (false, eval a X.env) :: starEach [] X.env := by with_reducible first | exact sn_name | exact sn_const | exact sn_tup | exact sn_list | exact sn_bin | exact sn_un | exact sn_bool | exact sn_cmp | exact sn_call | exact sn_sub | exact sn_if | exact sn_attr | exact sn_lc) : RE X (.Call (.Name "repr" p) [a] [] pos) (fBi gRepr fa) :=
  re_bi (call_reprD hgd hu) (fun xs z h => by
    unfold gRepr at h
    split at h
    · split at h <;> cases h
      rename_i hok
      intro hs H vs _ d Q q
      obtain ⟨v, rfl, d1⟩ := dpa1 d
      exact ⟨v, _, rfl, d1.up hid_sub, hok, q _ H (Step.refl H) (.str _)⟩
    · cases h) hg hm (by decide +kernel) ha (he := he)
end
end DL


set_option Elab.async false
set_option linter.all false
set_option maxRecDepth 100000
set_option maxHeartbeats 4000000
namespace DL
open PySem PySem.Spec L2
open PyProof.Rows hiding St

/-! ### targets -/
def Only (js : List Nat) (σ σ' : St) : Prop := σ'.length = σ.length ∧ ∀ i, i ∉ js → σ'[i]? = σ[i]?
theorem Only.refl {js : List Nat} (σ : St) : Only js σ σ := ⟨rfl, fun _ _ => rfl⟩
theorem Only.trans {js : List Nat} {a b c : St} (h : Only js a b) (k : Only js b c) : Only js a c := ⟨k.1.trans h.1, fun i n => (k.2 i n).trans (h.2 i n)⟩
theorem Only.mono {js ks : List Nat} {a b : St} (h : Only js a b) (k : ∀ i ∈ js, i ∈ ks) : Only ks a b := ⟨h.1, fun i n => h.2 i fun m => n (k i m)⟩
abbrev FG := Sta → PyData → Option Sta
/-- a target that stores into slots js -/
def EG (K : PySem.W.Frag) (t : TG) (js : List Nat) (g : FG) : Prop := ∀ (hs ps : List Addr) (σ : St) (H : Hp) (st st' : Sta) (v : V) (x : PyData), Rel K hs ps σ H st → Dp K (hid hs H) v x → g st x = some st' →
  ∀ Q : St → Hp → Prop, (∀ σ', Rel K hs ps σ' H st' → Only js σ σ' → Q σ' H) → t v σ H Q
structure RG (X : Cx) (tg : Expr) (t : TG) (js : List Nat) (g : FG) : Prop where
  pg : PG X tg t
  eg : EG X.K t js g
def EGs (K : PySem.W.Frag) (t : TGs) (js : List Nat) (g : Sta → List PyData → Option Sta) : Prop := ∀ (hs ps : List Addr) (σ : St) (H : Hp) (st st' : Sta) (vs : List V) (xs : List PyData), Rel K hs ps σ H st → DpAll K (hid hs H) vs xs → g st xs = some st' →
  ∀ Q : St → Hp → Prop, (∀ σ', Rel K hs ps σ' H st' → Only js σ σ' → Q σ' H) → t vs σ H Q
structure RGs (X : Cx) (tg : List Expr) (t : TGs) (js : List Nat) (g : Sta → List PyData → Option Sta) : Prop where
  pg : PGs X tg t
  eg : EGs X.K t js g
def setD (st : Sta) (i : Nat) (x : SV) : Sta := ⟨st.ds.set i (some x), st.cs⟩
def aName (i : Nat) : FG := fun st x => some (setD st i (.dat x))
def aNil : Sta → List PyData → Option Sta
  | st, [] => some st
  | _, _ => none
def aCons (g : FG) (r : Sta → List PyData → Option Sta) : Sta → List PyData → Option Sta
  | st, x :: xs => (g st x).bind fun st1 => r st1 xs
  | _, [] => none
def aTup (n : Nat) (r : Sta → List PyData → Option Sta) : FG
  | st, .tuple xs => if xs.length = n then r st xs else none
  | _, _ => none
section
variable {K : PySem.W.Frag} {hs ps : List Addr} {σ : St} {H : Hp} {st : Sta}
theorem Rel.set (R : Rel K hs ps σ H st) (i : Nat) {v : V} {x : SV} (h : RelS K hs ps H v x) : Rel K hs ps (σ.set i (some v)) H (setD st i x) := by
  refine ⟨R.hr, by unfold setD; simp [R.len], fun j y e => ?_⟩
  unfold setD at e
  by_cases hj : i = j
  · subst hj
    have hl : i < st.ds.length := by
      by_cases hl : i < st.ds.length
      · exact hl
      · rw [List.getElem?_eq_none (by simpa using hl)] at e; cases e
    rw [List.getElem?_set_self hl] at e
    cases e
    exact ⟨v, by rw [List.getElem?_set_self (by rw [R.len]; exact hl)], h⟩
  · rw [List.getElem?_set_ne hj] at e
    obtain ⟨w, h1, h2⟩ := R.slot j y e
    exact ⟨w, by rw [List.getElem?_set_ne hj]; exact h1, h2⟩
theorem only_set (i : Nat) (v : V) {js : List Nat} (h : i ∈ js) : Only js σ (σ.set i (some v)) := ⟨by simp, fun j n => by
  rw [List.getElem?_set_ne (fun e : i = j => n (e ▸ h))]⟩
end
section
variable {X : Cx} {e : Expr} {es : List Expr} {pos : Pos}
theorem rg_name {i : Nat} {x : Str} (hN : X.N.Nodup) (hi : X.N[i]? = some x) (hx : Loc X.env.scope x) (hf : X.fn x = true ∨ X.env.scope.names.lookup x = some .local := by first | exact .inl rfl | exact .inr rfl | assumption) : RG X (.Name x pos) (gName i) [i] (aName i) :=
  ⟨pg_name hN hi hx hf, fun hs ps σ H st st' v x R d e Q q => by
    cases e
    exact q _ (R.set i (x := .dat x) d) (only_set i v (by simp))⟩
theorem rgs_nil : RGs X [] gNil [] aNil := ⟨pgs_nil, fun hs ps σ H st st' vs xs R d e Q q => by
  cases xs with
  | nil =>
    cases d
    cases e
    exact ⟨rfl, q _ R (Only.refl σ)⟩
  | cons _ _ => cases e⟩
theorem rgs_cons {t : TG} {u : TGs} {js ks : List Nat} {g : FG} {r : Sta → List PyData → Option Sta} (h1 : RG X e t js g) (h2 : RGs X es u ks r) (hs : (assignEach (e :: es) X.env).map (·.2) = assign e X.env :: (assignEach es X.env).map (·.2) := by rfl) : RGs X (e :: es) (gCons t u) (js ++ ks) (aCons g r) :=
  ⟨pgs_cons h1.pg h2.pg hs, fun hs ps σ H st st' vs xs R d e Q q => by
    cases xs with
    | nil => cases e
    | cons x xs =>
      cases d with
      | cons d1 d2 =>
        obtain ⟨st1, e1, e2⟩ := bind_some (show (g st x).bind (fun st1 => r st1 xs) = some st' from e)
        exact ⟨_, _, rfl, h1.eg hs ps σ H st st1 _ x R d1 e1 _ fun σ1 R1 o1 => h2.eg hs ps σ1 H st1 st' _ xs R1 d2 e2 _ fun σ2 R2 o2 => q σ2 R2 ((o1.mono (by simp; intro i h; exact .inl h)).trans (o2.mono (by simp; intro i h; exact .inr h)))⟩⟩
theorem rg_tup {k n : Nat} {t : TGs} {js : List Nat} {r : Sta → List PyData → Option Sta} (hc : X.calm = true) (h : RGs X es t js r) (hn : (assignEach es X.env).length = n := by rfl) (hst : (assignEach es X.env).findIdx? (·.1) = none := by rfl) : RG X (.Tuple es k pos) (gTup X.K n t) js (aTup n r) :=
  ⟨pg_tup hc h.pg hn hst, fun hs ps σ H st st' v x R d e Q q => by
    unfold aTup at e
    split at e
    · split at e
      · rename_i hl
        obtain ⟨p, ws, rfl, hp, da⟩ := dp_tuple d
        exact ⟨p, ws, rfl, sqT_mono hid_sub hp, by rw [da.len]; exact hl, h.eg hs ps σ H _ st' ws _ R da e Q q⟩
      · cases e
    · cases e⟩
end

/-! ### what is walked -/
/-- the items xs, at each turn -/
def YD (K : PySem.W.Frag) (hs : List Addr) (H2 : Hp) (xs : List PyData) : Nat → Hp → V → Hp → Prop := fun i H3 x H' => Step [] H3 H' ∧ ∃ d, xs[i]? = some d ∧ ∀ hs' : List Addr, (∀ a ∈ hs', a ∉ hs → H2 a = none) → (∀ a ∈ hs', H3 a ≠ none) → Dp K (hid hs' H') x d
def GD (hs : List Addr) (H2 : Hp) : Hp → Prop := fun H3 => ∀ a o, a ∉ hs → H2 a = some o → H3 a = some o
def EDI (K : PySem.W.Frag) (ti : TI) (st : Sta) (xs : List PyData) (cs' : Cs) : Prop :=
  ∀ hs ps σ H, Rel K hs ps σ H st → ∀ R : It → Hp → Prop, (∀ J H2, Step ps H H2 → Rel K hs ps σ H2 ⟨st.ds, cs'⟩ → Walk J xs.length (GD hs H2) (YD K hs H2 xs) → R J H2) → ti σ H R
structure RI (X : Cx) (tg iter : Expr) (f : FL) : Prop where
  h : ∀ st xs c, f st = some (xs, c) → EDI X.K (wI X tg iter) st xs c
instance (X : Cx) (tg iter : Expr) (f : FL) : CoeFun (RI X tg iter f) (fun _ => ∀ st xs c, f st = some (xs, c) → EDI X.K (wI X tg iter) st xs c) := ⟨fun r => r.h⟩
section
variable {X : Cx} {tg e a b : Expr} {st : Sta} {c : Cs} {fe : FE} {fl : FL} {fa : FA} {p pos : Pos}
theorem RI.of {t : TI} {xs : List PyData} (p : PI X tg e t) (k : EDI X.K t st xs c) : EDI X.K (wI X tg e) st xs c := fun hs ps σ H R Q q pins s I => p.run pins s σ H Q I (k hs ps σ H R Q q)
theorem GD.sub {hs hs' : List Addr} {H2 H3 : Hp} (g : GD hs H2 H3) (h : ∀ a ∈ hs', a ∉ hs → H2 a = none) : Sub (hid hs H2) (hid hs' H3) := fun a o e => by
  obtain ⟨n, q⟩ := hid_some e
  rw [hid_out fun m => by rw [h a m n] at q; cases q]
  exact g a o n q
theorem sqL_gd {K : PySem.W.Frag} {hs : List Addr} {H2 H3 : Hp} {p : Addr} {xs : List V} (g : GD hs H2 H3) (h : SqL K (hid hs H2) p xs) : SqL K H3 p xs := sqL_mono hid_sub (sqL_mono (g.sub (hs' := hs) fun _ m n => absurd m n) h)
theorem sqT_gd {K : PySem.W.Frag} {hs : List Addr} {H2 H3 : Hp} {p : Addr} {xs : List V} (g : GD hs H2 H3) (h : SqT K (hid hs H2) p xs) : SqT K H3 p xs := sqT_mono hid_sub (sqT_mono (g.sub (hs' := hs) fun _ m n => absurd m n) h)
theorem walk_dL {K : PySem.W.Frag} {hs : List Addr} {H2 : Hp} {p : Addr} {ws : List V} {ds : List PyData} (hp : SqL K (hid hs H2) p ws) (da : DpAll K (hid hs H2) ws ds) : Walk (Itl K p) ds.length (GD hs H2) (YD K hs H2 ds) := by
  rw [← da.len]
  refine (walk_list (K := K) (a := p) (xs := ws)).mono (fun H3 g => sqL_gd g hp) fun i H3 x H' _ g y => ?_
  obtain ⟨rfl, y⟩ := y
  obtain ⟨d, h1, h2⟩ := da.getV y
  exact ⟨Step.refl _, d, h1, fun hs' h3 _ => h2.up (g.sub h3)⟩
theorem walk_dT {K : PySem.W.Frag} {hs : List Addr} {H2 : Hp} {p : Addr} {ws : List V} {ds : List PyData} (hp : SqT K (hid hs H2) p ws) (da : DpAll K (hid hs H2) ws ds) : Walk (Itt K p) ds.length (GD hs H2) (YD K hs H2 ds) := by
  rw [← da.len]
  refine (walk_tup (K := K) (a := p) (xs := ws)).mono (fun H3 g => sqT_gd g hp) fun i H3 x H' _ g y => ?_
  obtain ⟨rfl, y⟩ := y
  obtain ⟨d, h1, h2⟩ := da.getV y
  exact ⟨Step.refl _, d, h1, fun hs' h3 _ => h2.up (g.sub h3)⟩
/-- over a list; over a tuple -/
def fItL (a : FE) : FL := fun st => (a st).bind fun q => match q.1 with
  | .list xs => some (xs, q.2)
  | _ => none
def fItT (a : FE) : FL := fun st => (a st).bind fun q => match q.1 with
  | .tuple xs => some (xs, q.2)
  | _ => none
theorem ri_list (ha : RE X a fe) : RI X tg a (fItL fe) := .mk fun st xs c h => by
  obtain ⟨⟨y, c1⟩, h1, h⟩ := bind_some h
  simp only at h
  split at h <;> cases h
  exact RI.of (pi_list (pwE a)) fun hs ps σ H R Q q => ha _ _ _ h1 hs ps σ H R _ fun v H2 s2 R2 d2 => by
    obtain ⟨p, ws, rfl, hp, da⟩ := dp_list d2
    exact ⟨p, rfl, ⟨ws, sqL_mono hid_sub hp⟩, q _ H2 s2 R2 (walk_dL hp da)⟩
theorem ri_tup (ha : RE X a fe) : RI X tg a (fItT fe) := .mk fun st xs c h => by
  obtain ⟨⟨y, c1⟩, h1, h⟩ := bind_some h
  simp only at h
  split at h <;> cases h
  exact RI.of (pi_tup (pwE a)) fun hs ps σ H R Q q => ha _ _ _ h1 hs ps σ H R _ fun v H2 s2 R2 d2 => by
    obtain ⟨p, ws, rfl, hp, da⟩ := dp_tuple d2
    exact ⟨p, rfl, ⟨ws, sqT_mono hid_sub hp⟩, q _ H2 s2 R2 (walk_dT hp da)⟩
/-- over either -/
def fIt (a : FE) : FL := fun st => (a st).bind fun q => match q.1 with
  | .list xs => some (xs, q.2)
  | .tuple xs => some (xs, q.2)
  | _ => none
theorem ri_seq (ha : RE X a fe) : RI X tg a (fIt fe) := .mk fun st xs c h => by
  obtain ⟨⟨y, c1⟩, h1, h2⟩ := bind_some h
  cases y with
  | list ys => exact ri_list ha st xs c (by unfold fItL; rw [h1]; exact h2)
  | tuple ys => exact ri_tup ha st xs c (by unfold fItT; rw [h1]; exact h2)
  | _ => cases h2
def rangeD (lo : Int) (n : Nat) : List PyData := (List.range n).map fun i => .int (lo + (i : Nat))
def rngOk (i : Int) : Bool := decide (-(2 ^ 62) ≤ i ∧ i < 2 ^ 62)
theorem walk_dR {K : PySem.W.Frag} {hs : List Addr} {H2 : Hp} {lo : Int} {n : Nat} : Walk (Itr lo n) (rangeD lo n).length (GD hs H2) (YD K hs H2 (rangeD lo n)) := by
  have e : (rangeD lo n).length = n := by simp [rangeD]
  rw [e]
  refine (walk_range (lo := lo) (n := n)).mono (fun _ _ => trivial) fun i H3 x H' hi g y => ?_
  obtain ⟨rfl, rfl⟩ := y
  exact ⟨Step.refl _, .int (lo + i), by simp [rangeD, List.getElem?_map, List.getElem?_range hi], fun _ _ _ => .int _⟩
def fRng1 (a : FA) : FL := fun st => (a st).bind fun q => match q.1 with
  | [.dat (.int j)] => if rngOk j = true then some (rangeD 0 j.toNat, q.2) else none
  | _ => none
theorem ri_range1 (hg : Gl X "range") (hm : X.mg "range" = none) (ha : RA X [a] fa) (hs : starEach [a] X.env = [(false, eval a X.env)] := by rfl) : RI X tg (.Call (.Name "range" p) [a] [] pos) (fRng1 fa) := .mk fun st xs c h => by
  obtain ⟨⟨y, c1⟩, h1, h⟩ := bind_some h
  simp only at h
  split at h
  · split at h <;> cases h
    rename_i hok
    have hk := of_decide_eq_true (show decide _ = true from hok)
    exact RI.of (pi_range1 hg hm (pwA [a]) hs) fun hs ps σ H R Q q => ha _ _ _ h1 hs ps σ H R _ fun vs H2 s2 R2 p2 => by
      obtain ⟨v, rfl, d⟩ := dpa1 (paired_dat (ds := [_]) p2)
      cases dp_int d
      exact ⟨_, rfl, hk.1, hk.2, q _ H2 s2 R2 walk_dR⟩
  · cases h
def fRng2 (a : FA) : FL := fun st => (a st).bind fun q => match q.1 with
  | [.dat (.int i), .dat (.int j)] => if rngOk i = true ∧ rngOk j = true then some (rangeD i (j - i).toNat, q.2) else none
  | _ => none
theorem ri_range2 (hg : Gl X "range") (hm : X.mg "range" = none) (ha : RA X [a, b] fa) (hs : starEach [a, b] X.env = [(false, eval a X.env), (false, eval b X.env)] := by rfl) (hs2 : starEach [b] X.env = [(false, eval b X.env)] := by rfl) : RI X tg (.Call (.Name "range" p) [a, b] [] pos) (fRng2 fa) := .mk fun st xs c h => by
  obtain ⟨⟨y, c1⟩, h1, h⟩ := bind_some h
  simp only at h
  split at h
  · split at h <;> cases h
    rename_i hok
    have hk := of_decide_eq_true (show decide _ = true from hok.1)
    have hk2 := of_decide_eq_true (show decide _ = true from hok.2)
    exact RI.of (pi_range2 hg hm (pwA [a, b]) hs hs2) fun hs ps σ H R Q q => ha _ _ _ h1 hs ps σ H R _ fun vs H2 s2 R2 p2 => by
      obtain ⟨v, w, rfl, d, d2⟩ := dpa2 (paired_dat (ds := [_, _]) p2)
      cases dp_int d
      cases dp_int d2
      exact ⟨_, _, rfl, ⟨hk.1, hk.2, hk2.1, hk2.2⟩, q _ H2 s2 R2 walk_dR⟩
  · cases h
end

/-! ### list comprehensions -/
theorem wipe_get {σ : St} {i : Nat} {vs : List Nat} (h : i ∉ vs) : (wipe σ vs)[i]? = σ[i]? := by
  induction vs with
  | nil => rfl
  | cons v vs ih =>
    unfold wipe
    rw [List.getElem?_set_ne (fun e => h (by rw [e]; exact List.mem_cons_self)), ih fun m => h (List.mem_cons_of_mem _ m)]
theorem wipe_in {σ : St} {i : Nat} {vs : List Nat} (h : i ∈ vs) (hl : i < σ.length) : (wipe σ vs)[i]? = some none := by
  induction vs with
  | nil => cases h
  | cons v vs ih =>
    unfold wipe
    by_cases e : v = i
    · subst e
      rw [List.getElem?_set_self (by rw [wipe_length]; exact hl)]
    · rw [List.getElem?_set_ne e]
      exact ih (by rcases List.mem_cons.mp h with q | q; exact absurd q.symm e; exact q)
theorem wipe_only {σ σ2 : St} {vs js : List Nat} (o : Only js (wipe σ vs) σ2) (h : ∀ j ∈ js, j ∈ vs) : wipe σ2 vs = wipe σ vs := by
  apply List.ext_getElem?
  intro i
  have hl : σ2.length = σ.length := by rw [o.1, wipe_length]
  by_cases m : i ∈ vs
  · by_cases hi : i < σ.length
    · rw [wipe_in m hi, wipe_in m (by rw [hl]; exact hi)]
    · rw [List.getElem?_eq_none (by rw [wipe_length, hl]; omega), List.getElem?_eq_none (by rw [wipe_length]; omega)]
  · rw [wipe_get m, o.2 i fun z => m (h i z), wipe_get m]
def wipeD (ds : Slots) : List Nat → Slots
  | [] => ds
  | v :: vs => (wipeD ds vs).set v none
theorem wipeD_length (ds : Slots) : ∀ vs : List Nat, (wipeD ds vs).length = ds.length
  | [] => rfl
  | v :: vs => by unfold wipeD; rw [List.length_set, wipeD_length ds vs]
theorem wipeD_some {ds : Slots} {i : Nat} {x : SV} : ∀ {vs : List Nat}, (wipeD ds vs)[i]? = some (some x) → ds[i]? = some (some x) ∧ i ∉ vs
  | [], h => ⟨h, by simp⟩
  | v :: vs, h => by
    unfold wipeD at h
    by_cases hi : v = i
    · subst hi
      by_cases hv : v < (wipeD ds vs).length
      · rw [List.getElem?_set_self hv] at h; cases h
      · rw [List.getElem?_eq_none (by simpa using hv)] at h; cases h
    · rw [List.getElem?_set_ne hi] at h
      obtain ⟨h1, h2⟩ := wipeD_some h
      exact ⟨h1, by simp only [List.mem_cons, not_or]; exact ⟨fun e => hi e.symm, h2⟩⟩
theorem Rel.wipe {K : PySem.W.Frag} {hs ps : List Addr} {σ : St} {H : Hp} {st : Sta} (R : Rel K hs ps σ H st) (vs : List Nat) : Rel K hs ps (wipe σ vs) H ⟨wipeD st.ds vs, st.cs⟩ :=
  ⟨R.hr, by rw [wipe_length, R.len]; exact (wipeD_length _ _).symm, fun i x e => by
    obtain ⟨h1, h2⟩ := wipeD_some e
    obtain ⟨v, h3, h4⟩ := R.slot i x h1
    exact ⟨v, by rw [wipe_get h2]; exact h3, h4⟩⟩
/-- the turns: what is made so far, the cells -/
def lcGo (g : FG) (t : FT) (el : FE) (ds : Slots) : List PyData → Cs → Option (List PyData × Cs)
  | [], c => some ([], c)
  | x :: xs, c => (g ⟨ds, c⟩ x).bind fun st1 => (t st1).bind fun q => if q.1 = true then (el ⟨st1.ds, q.2⟩).bind fun y => (lcGo g t el ds xs y.2).map fun r => (y.1 :: r.1, r.2) else lcGo g t el ds xs q.2
def fLc (it : FL) (g : FG) (t : FT) (el : FE) (vs : List Nat) : FL := fun st => (it st).bind fun p => if p.1.length ≤ LIM then lcGo g t el (wipeD st.ds vs) p.1 p.2 else none
def fYes : FT := fun st => some (true, st.cs)
def lE (X : Cx) (scope : Scope) (e : Expr) : TE := fun σ H Q => ∀ (s : Shared) (H0 : Hp) (C : Addr) (cl : List (Str × Addr)) (fp : List Addr), wE (X.blk s H0 scope (compEnvC scope cl C X.env) fp) e σ H Q
def lT (X : Cx) (scope : Scope) (ifs : List Expr) : TT := fun σ H Q => ∀ (s : Shared) (H0 : Hp) (C : Addr) (cl : List (Str × Addr)) (fp : List Addr) (pins : List (Addr × Obj)) (s1 : Shared), L2.Inv (X.blk s H0 scope (compEnvC scope cl C X.env) fp) pins σ H s1 →
  wpAny (model X.prog X.w) X.A (forIn ifs true fun c r => if r = true then do let ok ← PySem.isTrue c (compEnvC scope cl C X.env) (eval c (compEnvC scope cl C X.env)); pure (ForInStep.yield ok) else pure (ForInStep.yield r)) (TP (X.blk s H0 scope (compEnvC scope cl C X.env) fp) pins σ Q) (fun _ _ => False) s1
/-- the tests of a clause -/
structure RTs (X : Cx) (ifs : List Expr) (f : FT) : Prop where
  h : ∃ t, PTs X ifs t ∧ ∀ st d c, f st = some (d, c) → EDT X.K t st d c
theorem rts_nil {X : Cx} : RTs X [] fYes := ⟨_, pts_nil, fun st d c h => by
  cases h
  exact fun hs ps σ H R Q q => q H (Step.refl H) R⟩
theorem rts_one {X : Cx} {e : Expr} {f : FT} (h : RT X e f) : RTs X [e] f := ⟨_, pts_one (pwT e), h⟩
section
variable {X : Cx} {elt tg iter : Expr} {ifs : List Expr} {scope : Scope} {own : List (Str × Nat)} {pos : Pos} {g : TG} {it : FL} {fg : FG} {ft : FT} {fe : FE} {js : List Nat}
theorem ptL (ht : ∀ (s : Shared) (H : Hp) (C : Addr) (cl : List (Str × Addr)) (fp : List Addr), RTs (X.blk s H scope (compEnvC scope cl C X.env) fp) ifs ft) : ∀ (s : Shared) (H : Hp) (C : Addr) (cl : List (Str × Addr)) (fp : List Addr), PTs (X.blk s H scope (compEnvC scope cl C X.env) fp) ifs (lT X scope ifs) := fun s H C cl fp => ⟨fun pins s1 σ H1 Q I k => k s H C cl fp pins s1 I⟩
theorem peL : ∀ (s : Shared) (H : Hp) (C : Addr) (cl : List (Str × Addr)) (fp : List Addr), PE (X.blk s H scope (compEnvC scope cl C X.env) fp) elt (lE X scope elt) := fun s H C cl fp => ⟨fun pins s1 σ H1 Q I k => k s H C cl fp pins s1 I⟩
theorem edl_lc (s0 : Shared) (hi : RI X tg iter it)
    (hg : ∀ (s : Shared) (H : Hp) (C : Addr) (cl : List (Str × Addr)) (fp : List Addr), RG (X.blk s H scope (compEnvC scope cl C X.env) fp) tg g js fg) (ht : ∀ (s : Shared) (H : Hp) (C : Addr) (cl : List (Str × Addr)) (fp : List Addr), RTs (X.blk s H scope (compEnvC scope cl C X.env) fp) ifs ft)
    (he : ∀ (s : Shared) (H : Hp) (C : Addr) (cl : List (Str × Addr)) (fp : List Addr), RE (X.blk s H scope (compEnvC scope cl C X.env) fp) elt fe) (hj : ∀ j ∈ js, j ∈ own.map (·.2)) {st : Sta} {d : List PyData} {c : Cs} (h : fLc it fg ft fe (own.map (·.2)) st = some (d, c)) :
    EDL X.K (tLc (wI X tg iter) g (lT X scope ifs) (lE X scope elt) (own.map (·.2))) st d c := by
  obtain ⟨⟨xs, c1⟩, h1, h⟩ := bind_some h
  simp only at h
  split at h
  · rename_i hlim
    have kt : ∀ st d c, ft st = some (d, c) → EDT X.K (lT X scope ifs) st d c := fun st d c e hs ps σ H R Q q s H0 C cl fp pins s1 I => by
      obtain ⟨t, k1, k2⟩ := ht s H0 C cl fp
      exact k1.run pins s1 σ H Q I (k2 _ _ _ e hs ps σ H R Q q)
    have ke : ∀ st d c, fe st = some (d, c) → ED X.K (lE X scope elt) st d c := fun st d c e hs ps σ H R Q q s H0 C cl fp => he s H0 C cl fp _ _ _ e hs ps σ H R Q q
    have kg : EG X.K g js fg := (hg s0 (fun _ => none) 0 [] []).eg
    refine fun hs ps σ H R Q q => hi _ _ _ h1 hs ps σ H R _ fun J H2 s2 R2 W => fun D hD => ?_
    -- one turn after another: what is still to come gives the rest of d
    have sD : Step [] H2 (upd H2 D (.lst [])) := Step.new hD
    have nD : D ∉ hs := fun m => R2.hr.trk D m hD
    have fr : ∀ a ∈ D :: hs, a ∉ hs → H2 a = none := fresh_hid hD
    have hD0 : H D = none := DL.fresh_back s2 R2.hr hD
    refine lc_it W (fun i H3 => ∃ (acc : List V) (d1 d2 : List PyData) (ci : Cs), i ≤ xs.length ∧ H3 D = some (.lst acc) ∧ DpAll X.K (hid (D :: hs) H3) acc d1 ∧ d1.length ≤ i ∧ d = d1 ++ d2 ∧ lcGo fg ft fe (wipeD st.ds (own.map (·.2))) (xs.drop i) ci = some (d2, c) ∧ GD (D :: ps) H2 H3 ∧ Rel X.K (D :: hs) ps σ H3 ⟨st.ds, ci⟩) ?_ ?_ ?_ ?_
    · exact ⟨[], [], d, c1, Nat.zero_le _, upd_same, .nil, Nat.zero_le _, rfl, h, fun a o n e => by rw [upd_ne (fun z => n (by simp [z]))]; exact e, R2.more sD hD (by rw [upd_same]; simp)⟩
    · rintro i H3 _ ⟨acc, d1, d2, ci, _, _, _, _, _, _, g3, R3⟩
      exact fun a o n e => g3 a o (fun z => by
        rcases List.mem_cons.mp z with z | z
        · rw [z, hD] at e; cases e
        · exact n (R2.hr.sub a z)) e
    · rintro i x H3 H4 hi' ⟨acc, d1, d2, ci, hile, e3, da, hl, ed, go, g3, R3⟩ ⟨s4, dx, ex, kx⟩
      have edr : xs.drop i = dx :: xs.drop (i + 1) := by
        have hlt : i < xs.length := hi'
        rw [List.drop_eq_getElem_cons hlt]
        rw [List.getElem?_eq_getElem hlt] at ex
        cases ex; rfl
      rw [edr] at go
      obtain ⟨st1, go1, go⟩ := bind_some go
      obtain ⟨⟨b, c2⟩, go2, go⟩ := bind_some go
      have R4 : Rel X.K (D :: hs) ps σ H4 ⟨st.ds, ci⟩ := R3.step s4
      have dx' : Dp X.K (hid (D :: hs) H4) x dx := kx _ fr R3.hr.trk
      refine kg (D :: hs) ps _ H4 ⟨wipeD st.ds (own.map (·.2)), ci⟩ st1 x dx (R4.wipe _) dx' go1 _ (fun σ2 R5 o5 => ?_)
      refine ⟨wipe_only o5 hj, ?_⟩
      refine kt _ _ _ go2 (D :: hs) ps σ2 H4 R5 _ fun H5 s5 R6 => ?_
      -- the cells may have changed; the new list has not
      have nps : D ∉ ps := fun m => nD (R.hr.sub D m)
      have e5 : H5 D = some (.lst acc) := s5 D _ nps (s4 D _ (by simp) e3)
      have da5 : DpAll X.K (hid (D :: hs) H5) acc d1 := da.up (((s4.mono (qs := ps) (by simp)).trans s5).hd0 R3.hr.sub)
      have g5 : GD (D :: ps) H2 H5 := fun a o n e => s5 a o (fun z => n (List.mem_cons_of_mem _ z)) (s4 a o (by simp) (g3 a o n e))
      have R5' : Rel X.K (D :: hs) ps σ H5 ⟨st.ds, c2⟩ := R4.slots (s5.hd0 R3.hr.sub) R6.hr
      cases b with
      | false =>
        rw [if_neg (by simp)] at go ⊢
        exact ⟨acc, d1, d2, c2, hi', e5, da5, by omega, ed, go, g5, R5'⟩
      | true =>
        rw [if_pos rfl] at go ⊢
        obtain ⟨⟨y, c3⟩, go3, go⟩ := bind_some go
        obtain ⟨⟨r, c4⟩, go4, er⟩ := map_some go
        cases er
        refine ke _ _ _ go3 (D :: hs) ps σ2 H5 R6 _ fun v H6 s6 R7 d7 => ?_
        have e6 : H6 D = some (.lst acc) := s6 D _ nps e5
        have hal : acc.length ≤ i := by rw [da.len]; exact hl
        refine ⟨acc, e6, Nat.lt_of_lt_of_le (Nat.lt_of_le_of_lt hal (Nat.lt_of_lt_of_le hi' hlim)) (by decide), ?_⟩
        have sB : Sub (hid (D :: hs) H6) (hid (D :: hs) (upd H6 D (.lst (acc ++ [v])))) := fun a o e => by
          obtain ⟨n, k⟩ := hid_some e
          rw [hid_out n, upd_ne (fun z => n (by simp [z]))]; exact k
        have R6' : Rel X.K (D :: hs) ps σ H6 ⟨st.ds, c3⟩ := R5'.slots (s6.hd0 R3.hr.sub) R7.hr
        refine ⟨acc ++ [v], d1 ++ [y], r, c3, hi', upd_same, ((da5.up (s6.hd0 R3.hr.sub)).app (.cons d7 .nil)).up sB, by simp; exact hl, by rw [ed]; simp, go4, fun a o n e => ?_, R6'.slots sB ⟨R6'.hr.sub, R6'.hr.nd, R6'.hr.len, fun a m => ?_, fun j p zs k1 k2 => ?_⟩⟩
        · rw [upd_ne (fun z => n (by simp [z]))]
          exact s6 a o (fun z => n (List.mem_cons_of_mem _ z)) (g5 a o n e)
        · by_cases ha : a = D
          · rw [ha, upd_same]; simp
          · rw [upd_ne ha]; exact R6'.hr.trk a m
        · obtain ⟨vs, q1, q2⟩ := R6'.hr.cel j p zs k1 k2
          have hpD : p ≠ D := fun z => nps (z ▸ List.mem_of_getElem? k1)
          exact ⟨vs, by rw [upd_ne hpD]; exact q1, q2.up sB⟩
    · rintro H3 ⟨acc, d1, d2, ci, _, e3, da, _, ed, go, g3, R3⟩
      rw [List.drop_eq_nil_of_le (Nat.le_refl _)] at go
      cases go
      rw [List.append_nil] at ed
      subst ed
      exact q D acc H3 hD0 (fun a o n e => g3 a o (fun z => by
        rcases List.mem_cons.mp z with z | z
        · rw [z, hD0] at e; cases e
        · exact n z) (s2 a o n e)) R3 e3 da
  · cases h
theorem rl_lc (hc : X.calm = true) (hN : X.N.Nodup) (hi : RI X tg iter it) (ok : BlkOk X.N X.env.scope scope own)
    (hg : ∀ (s : Shared) (H : Hp) (C : Addr) (cl : List (Str × Addr)) (fp : List Addr), RG (X.blk s H scope (compEnvC scope cl C X.env) fp) tg g js fg) (ht : ∀ (s : Shared) (H : Hp) (C : Addr) (cl : List (Str × Addr)) (fp : List Addr), RTs (X.blk s H scope (compEnvC scope cl C X.env) fp) ifs ft)
    (he : ∀ (s : Shared) (H : Hp) (C : Addr) (cl : List (Str × Addr)) (fp : List Addr), RE (X.blk s H scope (compEnvC scope cl C X.env) fp) elt fe) (hj : ∀ j ∈ js, j ∈ own.map (·.2)) (hs : ∀ x, foldedSetIterable iter X.env x = pure x := by intro _; rfl) :
    RL X (.ListComp elt [⟨tg, iter, ifs, 0⟩] scope pos) (fLc it fg ft fe (own.map (·.2))) := .mk fun st d c h =>
  fun hs' ps σ H R Q q pins s I => RL.of (pe_lc hc hN (pwI tg iter) ok (fun s H C cl fp => (hg s H C cl fp).pg) (ptL ht) peL hs) (edl_lc s hi hg ht he hj h) hs' ps σ H R Q q pins s I
end
end DL


set_option Elab.async false
set_option linter.all false
set_option maxRecDepth 100000
set_option maxHeartbeats 4000000
namespace DL
open PySem PySem.Spec L2
open PyProof.Rows hiding St

/-! ### statements -/
inductive RV where
  | dat (d : PyData) | new (xs : List PyData)
inductive Out where
  | nx (st : Sta) | rt (r : RV) (cs : Cs) | bk (st : Sta) | ct (st : Sta)
abbrev FS := Sta → Option Out
/-- since the entry of the def -/
structure Lv (hs0 ps0 : List Addr) (H0 : Hp) (hs ps : List Addr) (H : Hp) : Prop where
  pre : ∃ l, ps = ps0 ++ l
  nps : ∀ a ∈ ps, a ∉ ps0 → H0 a = none
  nhs : ∀ a ∈ hs, a ∉ hs0 → H0 a = none
  hss : ∀ a ∈ hs0, a ∈ hs
  stp : Step ps0 H0 H
theorem Lv.step {hs0 ps0 hs ps : List Addr} {H0 H H' : Hp} (L : Lv hs0 ps0 H0 hs ps H) (s : Step ps H H') : Lv hs0 ps0 H0 hs ps H' :=
  ⟨L.pre, L.nps, L.nhs, L.hss, fun a o n e => s a o (fun m => by rw [L.nps a m n] at e; cases e) (L.stp a o n e)⟩
section
variable (K : PySem.W.Frag) (n0 : Nat)
def Post (hs0 ps0 : List Addr) (H0 : Hp) (D : Ends) : Out → Prop
  | .nx st => ∀ hs ps σ H, Lv hs0 ps0 H0 hs ps H → Rel K hs ps σ H st → D.nx σ H
  | .bk st => ∀ hs ps σ H, Lv hs0 ps0 H0 hs ps H → Rel K hs ps σ H st → D.bk σ H
  | .ct st => ∀ hs ps σ H, Lv hs0 ps0 H0 hs ps H → Rel K hs ps σ H st → D.ct σ H
  | .rt (.dat d) cs => ∀ hs ps v H, Lv hs0 ps0 H0 hs ps H → HR K hs ps H cs → Dp K (hid hs H) v d → D.rt v H
  | .rt (.new xs) cs => ∀ hs ps p vs H, Lv hs0 ps0 H0 hs ps H → p ∈ hs → H0 p = none → HR K hs ps H cs → H p = some (.lst vs) → DpAll K (hid hs H) vs xs → D.rt (.ref p) H
def SD (ts : TS) (st : Sta) (o : Out) : Prop := ∀ hs0 ps0 H0, ps0.length ≤ n0 → (∀ p ∈ hs0, H0 p ≠ none) → ∀ hs ps σ H, Lv hs0 ps0 H0 hs ps H → Rel K hs ps σ H st → ∀ D : Ends, Post K hs0 ps0 H0 D o → ts D σ H
end
structure RS (X : Cx) (n0 : Nat) (s : Stmt) (f : FS) : Prop where
  h : ∀ st o, f st = some o → SD X.K n0 (wS X s) st o
instance (X : Cx) (n0 : Nat) (s : Stmt) (f : FS) : CoeFun (RS X n0 s f) (fun _ => ∀ st o, f st = some o → SD X.K n0 (wS X s) st o) := ⟨fun r => r.h⟩
structure RSs (X : Cx) (n0 : Nat) (ss : List Stmt) (f : FS) : Prop where
  h : ∀ st o, f st = some o → SD X.K n0 (wSs X ss) st o
instance (X : Cx) (n0 : Nat) (ss : List Stmt) (f : FS) : CoeFun (RSs X n0 ss f) (fun _ => ∀ st o, f st = some o → SD X.K n0 (wSs X ss) st o) := ⟨fun r => r.h⟩
section
variable {X : Cx} {n0 : Nat} {s : Stmt} {ss : List Stmt} {st : Sta} {o : Out}
theorem RS.of {t : TS} (p : PS X s t) (k : SD X.K n0 t st o) : SD X.K n0 (wS X s) st o := fun hs0 ps0 H0 h1 h2 hs ps σ H L R D q pins s I => p.run pins s σ H D I (k hs0 ps0 H0 h1 h2 hs ps σ H L R D q)
theorem RSs.of {t : TS} (p : PSs X ss t) (k : SD X.K n0 t st o) : SD X.K n0 (wSs X ss) st o := fun hs0 ps0 H0 h1 h2 hs ps σ H L R D q pins s I => p.run pins s σ H D I (k hs0 ps0 H0 h1 h2 hs ps σ H L R D q)
end
def fSkip : FS := fun st => some (.nx st)
def fSeq (a b : FS) : FS := fun st => (a st).bind fun
  | .nx st1 => b st1
  | o => some o
def fNever : FS := fun _ => none
def fRet (e : FE) : FS := fun st => (e st).map fun p => .rt (.dat p.1) p.2
def fRetL (e : FL) : FS := fun st => (e st).map fun p => .rt (.new p.1) p.2
def fRetN : FS := fun st => some (.rt (.dat .none) st.cs)
def fSet (i : Nat) (e : FE) : FS := fun st => (e st).map fun p => .nx ⟨st.ds.set i (some (.dat p.1)), p.2⟩
def fAsg (g : FG) (e : FE) : FS := fun st => (e st).bind fun p => (g ⟨st.ds, p.2⟩ p.1).map .nx
def fNew (i : Nat) (e : FL) : FS := fun st => (e st).map fun p => .nx ⟨st.ds.set i (some (.cel p.2.length)), p.2 ++ [p.1]⟩
def noCel (k : Nat) : Slots → Bool
  | [] => true
  | some (.cel j) :: r => decide (j ≠ k) && noCel k r
  | _ :: r => noCel k r
def fFrz (n0 i : Nat) (b : FS) : FS := fun st => match st.ds[i]? with
  | some (some (.cel k)) => if n0 ≤ k ∧ k + 1 = st.cs.length then (st.cs[k]?).bind fun xs => if noCel k (st.ds.set i (some (.dat (.list xs)))) = true then b ⟨st.ds.set i (some (.dat (.list xs))), st.cs.dropLast⟩ else none else none
  | _ => none
theorem take_some {α : Type} {l : List α} {n i : Nat} {x : α} (h : (l.take n)[i]? = some x) : l[i]? = some x := by
  rw [List.getElem?_take] at h
  split at h
  · exact h
  · cases h
theorem noCel_ok {k : Nat} : ∀ {ds : Slots} {i j : Nat}, noCel k ds = true → ds[i]? = some (some (.cel j)) → j ≠ k
  | [], _, _, _, e => by cases e
  | some (.cel a) :: r, 0, j, h, e => by
    have h' : (decide (a ≠ k) && noCel k r) = true := h
    rw [Bool.and_eq_true] at h'
    have e' : a = j := by simpa using e
    rw [← e']; exact of_decide_eq_true h'.1
  | some (.cel a) :: r, i + 1, j, h, e => by
    have h' : (decide (a ≠ k) && noCel k r) = true := h
    rw [Bool.and_eq_true] at h'
    exact noCel_ok (i := i) h'.2 (by simpa using e)
  | some (.dat _) :: r, 0, j, h, e => by simp at e
  | none :: r, 0, j, h, e => by simp at e
  | some (.dat _) :: r, i + 1, j, h, e => noCel_ok (ds := r) (i := i) h (by simpa using e)
  | none :: r, i + 1, j, h, e => noCel_ok (ds := r) (i := i) h (by simpa using e)
def fIfS (t : FT) (a b : FS) : FS := fun st => (t st).bind fun p => if p.1 = true then a ⟨st.ds, p.2⟩ else b ⟨st.ds, p.2⟩
def fDrop (e : FE) : FS := fun st => (e st).map fun p => .nx ⟨st.ds, p.2⟩
def fPar (i j : Nat) (a : FA) : FS := fun st => (a st).bind fun p => match p.1 with
  | [.dat x, .dat y] => some (.nx ⟨(st.ds.set i (some (.dat x))).set j (some (.dat y)), p.2⟩)
  | _ => none
/-- x[k] = e, x a list of one's own: e, then k -/
def fSetc (i : Nat) (k e : FE) : FS := fun st => (e st).bind fun p => (k ⟨st.ds, p.2⟩).bind fun q => match st.ds[i]?, q.1 with
  | some (some (.cel c)), .int j => (q.2[c]?).bind fun xs => (ixN xs.length j).map fun m => .nx ⟨st.ds, q.2.set c (xs.set m p.1)⟩
  | _, _ => none
/-- x[k], y = e -/
def fSetc2 (i : Nat) (k : FE) (j : Nat) (e : FE) : FS := fun st => (e st).bind fun p => match p.1 with
  | .tuple [a, b] => (k ⟨st.ds, p.2⟩).bind fun q => match st.ds[i]?, q.1 with
    | some (some (.cel c)), .int m => (q.2[c]?).bind fun xs => (ixN xs.length m).map fun m => .nx ⟨st.ds.set j (some (.dat b)), q.2.set c (xs.set m a)⟩
    | _, _ => none
  | _ => none
def forGo (g : FG) (b : FS) : List PyData → Sta → Option Out
  | [], st => some (.nx st)
  | x :: xs, st => (g st x).bind fun st1 => (b st1).bind fun
    | .nx st2 => forGo g b xs st2
    | .ct st2 => forGo g b xs st2
    | .bk st2 => some (.nx st2)
    | .rt r c => some (.rt r c)
def fFor (it : FL) (g : FG) (b : FS) : FS := fun st => (it st).bind fun p => forGo g b p.1 ⟨st.ds, p.2⟩
def whileGo (t : FT) (b : FS) : Nat → Sta → Option Out
  | 0, _ => none
  | n + 1, st => (t st).bind fun p => if p.1 = true then (b ⟨st.ds, p.2⟩).bind fun
      | .nx st2 => whileGo t b n st2
      | .ct st2 => whileGo t b n st2
      | .bk st2 => some (.nx st2)
      | .rt r c => some (.rt r c)
    else some (.nx ⟨st.ds, p.2⟩)
def FUEL : Nat := 2 ^ 10000
def fWhile (t : FT) (b : FS) : FS := whileGo t b FUEL
section
variable {K : PySem.W.Frag} {hs ps hs0 ps0 : List Addr} {σ : St} {H H0 H2 : Hp} {st : Sta} {cs : Cs}
/-- a list of one's own is stored into -/
theorem Rel.put (R : Rel K hs ps σ H st) {c m : Nat} {p : Addr} {xs : List PyData} {vs : List V} {v : V} {d : PyData} (hp : ps[c]? = some p) (hx : st.cs[c]? = some xs) (hv : H p = some (.lst vs)) (da : DpAll K (hid hs H) vs xs) (dv : Dp K (hid hs H) v d) :
    Step ps H (upd H p (.lst (vs.set m v))) ∧ Rel K hs ps σ (upd H p (.lst (vs.set m v))) ⟨st.ds, st.cs.set c (xs.set m d)⟩ := by
  have hin := R.hr.sub p (List.mem_of_getElem? hp)
  have sb : Sub (hid hs H) (hid hs (upd H p (.lst (vs.set m v)))) := fun a o e => by
    obtain ⟨n, k⟩ := hid_some e
    rw [hid_out n, upd_ne (fun z => n (by rw [z]; exact hin))]; exact k
  refine ⟨fun a o n e => by rw [upd_ne (fun z => n (by rw [z]; exact List.mem_of_getElem? hp))]; exact e, R.slots sb ⟨R.hr.sub, R.hr.nd, by simp [R.hr.len], fun a ma => ?_, fun i q ys k1 k2 => ?_⟩⟩
  · by_cases e : a = p
    · rw [e, upd_same]; simp
    · rw [upd_ne e]; exact R.hr.trk a ma
  · by_cases e : c = i
    · subst e
      rw [hp] at k1
      cases k1
      have hl : c < st.cs.length := by
        by_cases hl : c < st.cs.length
        · exact hl
        · rw [List.getElem?_eq_none (by omega)] at hx; cases hx
      rw [List.getElem?_set_self hl] at k2
      cases k2
      exact ⟨_, upd_same, (da.set' m dv).up sb⟩
    · rw [List.getElem?_set_ne e] at k2
      obtain ⟨ws, q1, q2⟩ := R.hr.cel i q ys k1 k2
      have hne : q ≠ p := fun z => by
        subst z
        have h1 : c < ps.length := by
          by_cases hl : c < ps.length
          · exact hl
          · rw [List.getElem?_eq_none (by omega)] at hp; cases hp
        have h2 : i < ps.length := by
          by_cases hl : i < ps.length
          · exact hl
          · rw [List.getElem?_eq_none (by omega)] at k1; cases k1
        exact e ((List.getElem_inj R.hr.nd).mp (by
          rw [List.getElem?_eq_getElem h1] at hp
          rw [List.getElem?_eq_getElem h2] at k1
          rw [Option.some.inj hp, Option.some.inj k1]))
      exact ⟨ws, by rw [upd_ne hne]; exact q1, q2.up sb⟩
/-- a new list of one's own -/
theorem Rel.own (L : Lv hs0 ps0 H0 hs ps H) {p : Addr} {vs : List V} {xs : List PyData} (i : Nat) (hp : H p = none) (s : Step ps H H2) (R2 : Rel K (p :: hs) ps σ H2 ⟨st.ds, cs⟩) (e : H2 p = some (.lst vs)) (da : DpAll K (hid (p :: hs) H2) vs xs) (R : Rel K hs ps σ H st) :
    Lv hs0 ps0 H0 (p :: hs) (ps ++ [p]) H2 ∧ Rel K (p :: hs) (ps ++ [p]) (σ.set i (some (.ref p))) H2 ⟨st.ds.set i (some (.cel cs.length)), cs ++ [xs]⟩ := by
  have hp0 : H0 p = none := by
    cases q : H0 p with
    | none => rfl
    | some o =>
      by_cases m : p ∈ ps0
      · obtain ⟨l, el⟩ := L.pre
        exact absurd hp (R.hr.trk p (R.hr.sub p (by rw [el]; exact List.mem_append_left _ m)))
      · rw [L.stp p o m q] at hp; cases hp
  have npp : p ∉ ps := fun m => R.hr.trk p (R.hr.sub p m) hp
  obtain ⟨l, el⟩ := L.pre
  have L2 := L.step s
  refine ⟨⟨⟨l ++ [p], by rw [el]; simp⟩, fun a m n => ?_, fun a m n => ?_, fun a m => List.mem_cons_of_mem _ (L.hss a m), L2.stp⟩, ?_⟩
  · rcases List.mem_append.mp m with m | m
    · exact L.nps a m n
    · rw [List.mem_singleton.mp m]; exact hp0
  · rcases List.mem_cons.mp m with m | m
    · rw [m]; exact hp0
    · exact L.nhs a m n
  · have HR2 : HR K (p :: hs) (ps ++ [p]) H2 (cs ++ [xs]) := by
      refine ⟨fun a m => ?_, ?_, by simp [R2.hr.len], R2.hr.trk, fun j q ys k1 k2 => ?_⟩
      · rcases List.mem_append.mp m with m | m
        · exact R2.hr.sub a m
        · rw [List.mem_singleton.mp m]; exact List.mem_cons_self
      · rw [List.nodup_append]
        exact ⟨R2.hr.nd, by simp, fun a ma b mb => by rw [List.mem_singleton.mp mb]; exact fun z => npp (z ▸ ma)⟩
      · by_cases hj : j < ps.length
        · rw [List.getElem?_append_left hj] at k1
          rw [List.getElem?_append_left (by rw [← R2.hr.len]; exact hj)] at k2
          exact R2.hr.cel j q ys k1 k2
        · rw [List.getElem?_append_right (by omega)] at k1
          rw [List.getElem?_append_right (by rw [← R2.hr.len]; omega)] at k2
          have hj2 : j = ps.length := by
            by_cases z : j - ps.length = 0
            · omega
            · rw [List.getElem?_eq_none (by simp; omega)] at k1; cases k1
          subst hj2
          rw [Nat.sub_self] at k1
          rw [← R2.hr.len, Nat.sub_self] at k2
          cases k1
          cases k2
          exact ⟨vs, e, da⟩
    have R3 : Rel K (p :: hs) (ps ++ [p]) σ H2 ⟨st.ds, cs ++ [xs]⟩ := ⟨HR2, R2.len, fun j x ex => by
      obtain ⟨v, h1, h2⟩ := R2.slot j x ex
      refine ⟨v, h1, ?_⟩
      cases x with
      | dat d => exact h2
      | cel c =>
        obtain ⟨q, h3, h4⟩ := h2
        refine ⟨q, ?_, h4⟩
        rw [List.getElem?_append_left (by
          by_cases hl : c < ps.length
          · exact hl
          · rw [List.getElem?_eq_none (by omega)] at h3; cases h3)]
        exact h3⟩
    exact R3.set i (x := .cel cs.length) ⟨p, by rw [← R2.hr.len]; simp, rfl⟩
end
section
variable {X : Cx} {n0 : Nat} {s : Stmt} {ss : List Stmt} {e a b : Expr} {pos : Pos} {f g : FS} {fe fk : FE} {fl : FL} {ft : FT} {fa : FA}
theorem rss_nil : RSs X n0 [] fSkip := .mk fun st o h => by
  cases h
  exact RSs.of pss_nil fun hs0 ps0 H0 _ _ hs ps σ H L R D q => q hs ps σ H L R
theorem rss_cons (h1 : RS X n0 s f) (h2 : RSs X n0 ss g) : RSs X n0 (s :: ss) (fSeq f g) := .mk fun st o h => by
  obtain ⟨o1, e1, h⟩ := bind_some h
  refine RSs.of (pss_cons (pwS s) (pwSs ss)) fun hs0 ps0 H0 i1 i2 hs ps σ H L R D q => h1 _ _ e1 hs0 ps0 H0 i1 i2 hs ps σ H L R _ ?_
  cases o1 with
  | nx st1 => exact fun hs' ps' σ' H' L' R' => h2 _ _ h hs0 ps0 H0 i1 i2 hs' ps' σ' H' L' R' D q
  | bk st1 => cases h; exact q
  | ct st1 => cases h; exact q
  | rt r c =>
    cases h
    cases r <;> exact q
theorem rss_one (h1 : RS X n0 s f) : RSs X n0 [s] f := .mk fun st o h => RSs.of (pss_one (pwS s)) (h1 st o h)
/-- from here on a list of one's own is plain data -/
theorem rss_frz {i : Nat} (h1 : RSs X n0 ss f) : RSs X n0 ss (fFrz n0 i f) := .mk fun st o h => by
  unfold fFrz at h
  split at h
  · rename_i k e0
    split at h
    · rename_i hk
      obtain ⟨xs, ex, h⟩ := bind_some h
      split at h
      case isFalse => cases h
      rename_i hno
      intro hs0 ps0 H0 i1 i2 hs ps σ H L R D q
      obtain ⟨v, hv, p, hp, rfl⟩ := R.slot i _ e0
      obtain ⟨vs, q1, q2⟩ := R.hr.cel k p xs hp ex
      obtain ⟨l, el⟩ := L.pre
      have hlen := R.hr.len
      have hpl : ps = ps.dropLast ++ [p] := by
        have hne : ps ≠ [] := fun z => by rw [z] at hp; simp at hp
        have hlast : ps.getLast hne = p := by
          rw [List.getLast_eq_getElem]
          have hk2 : k < ps.length := by omega
          rw [List.getElem?_eq_getElem hk2] at hp
          have ek : ps.length - 1 = k := by omega
          simp only [ek]
          exact Option.some.inj hp
        rw [← hlast]
        exact (List.dropLast_concat_getLast hne).symm
      have npd : p ∉ ps.dropLast := fun m => by
        have nd := R.hr.nd
        rw [hpl, List.nodup_append] at nd
        exact nd.2.2 p m p (by simp) rfl
      have hp0 : p ∉ ps0 := fun m => by
        have hl0 : ps0.length ≤ ps.dropLast.length := by rw [List.length_dropLast]; omega
        have e2 : ps0 = ps.dropLast.take ps0.length := by
          have : ps.dropLast.take ps0.length = ps.take ps0.length := by
            rw [List.dropLast_eq_take, List.take_take, Nat.min_eq_left (by rw [List.length_dropLast] at hl0; exact hl0)]
          rw [this, el, List.take_left]
        rw [e2] at m
        exact npd (List.mem_of_mem_take m)
      let hs' := hs.filter (fun a => decide (a ≠ p))
      have hsub : ∀ a ∈ hs', a ∈ hs := fun a m => (List.mem_filter.mp m).1
      have hnp : p ∉ hs' := fun m => by simpa using (List.mem_filter.mp m).2
      have sb : Sub (hid hs H) (hid hs' H) := fun a o e => by
        obtain ⟨n, k⟩ := hid_some e
        rw [hid_out fun m => n (hsub a m)]; exact k
      have hps : ∀ a ∈ ps.dropLast, a ∈ hs' := fun a m => List.mem_filter.mpr ⟨R.hr.sub a (List.dropLast_subset _ m), by simpa using fun z : a = p => npd (z ▸ m)⟩
      have L' : Lv hs0 ps0 H0 hs' ps.dropLast H := by
        refine ⟨⟨l.dropLast, ?_⟩, fun a m n => L.nps a (List.dropLast_subset _ m) n, fun a m n => L.nhs a (hsub a m) n, fun a m => List.mem_filter.mpr ⟨L.hss a m, ?_⟩, L.stp⟩
        · have hl : l ≠ [] := fun z => by
            rw [z, List.append_nil] at el
            exact hp0 (by rw [← el]; exact List.mem_of_getElem? hp)
          rw [el, List.dropLast_append_of_ne_nil hl]
        · have h0 : H0 p = none := L.nps p (List.mem_of_getElem? hp) hp0
          simpa using fun z : a = p => i2 a m (by rw [z]; exact h0)
      have ndl : ps.dropLast.Nodup := R.hr.nd.sublist (List.dropLast_sublist _)
      have getd : ∀ {c : Nat} {q : Addr}, c ≠ k → ps[c]? = some q → ps.dropLast[c]? = some q := fun {c q} hc e => by
        have hl : c < ps.length := by
          by_cases hl : c < ps.length
          · exact hl
          · rw [List.getElem?_eq_none (by omega)] at e; cases e
        rw [List.dropLast_eq_take, List.getElem?_take_of_lt (by omega)]
        exact e
      have R' : Rel X.K hs' ps.dropLast σ H ⟨st.ds.set i (some (.dat (.list xs))), st.cs.dropLast⟩ := by
        refine ⟨⟨hps, ndl, by simp [hlen], fun a m => R.hr.trk a (hsub a m), fun j q ys k1 k2 => ?_⟩, by simp [R.len], fun j x ej => ?_⟩
        · have k1' : ps[j]? = some q := by
            rw [List.dropLast_eq_take] at k1
            exact take_some k1
          have k2' : st.cs[j]? = some ys := by
            rw [List.dropLast_eq_take] at k2
            exact take_some k2
          obtain ⟨ws, q3, q4⟩ := R.hr.cel j q ys k1' k2'
          exact ⟨ws, q3, q4.up sb⟩
        · by_cases hj : i = j
          · subst hj
            have hl : i < st.ds.length := by
              by_cases hl : i < st.ds.length
              · exact hl
              · rw [List.getElem?_eq_none (by omega)] at e0; cases e0
            rw [List.getElem?_set_self hl] at ej
            cases ej
            exact ⟨_, hv, .lst (.inl (.inl (by rw [hid_out hnp]; exact q1))) (q2.up sb)⟩
          · have ej' := ej
            rw [List.getElem?_set_ne hj] at ej
            obtain ⟨w, w1, w2⟩ := R.slot j x ej
            refine ⟨w, w1, ?_⟩
            cases x with
            | dat d => exact Dp.up w2 sb
            | cel c =>
              obtain ⟨q, w3, w4⟩ := w2
              exact ⟨q, getd (noCel_ok hno ej') w3, w4⟩
      exact h1 _ _ h hs0 ps0 H0 i1 i2 hs' ps.dropLast σ H L' R' D q
    · cases h
  · cases h
theorem rs_never : RS X n0 s fNever := .mk fun st o h => by cases h
theorem rss_never : RSs X n0 ss fNever := .mk fun st o h => by cases h
theorem rs_pass : RS X n0 (.Pass pos) fSkip := .mk fun st o h => by
  cases h
  exact RS.of ps_pass fun hs0 ps0 H0 _ _ hs ps σ H L R D q => q hs ps σ H L R
theorem rs_break : RS X n0 (.Break pos) (fun st => some (.bk st)) := .mk fun st o h => by
  cases h
  exact RS.of ps_break fun hs0 ps0 H0 _ _ hs ps σ H L R D q => q hs ps σ H L R
theorem rs_cont : RS X n0 (.Continue pos) (fun st => some (.ct st)) := .mk fun st o h => by
  cases h
  exact RS.of ps_continue fun hs0 ps0 H0 _ _ hs ps σ H L R D q => q hs ps σ H L R
theorem rs_ret (h : RE X e fe) : RS X n0 (.Return (some e) pos) (fRet fe) := .mk fun st o hq => by
  obtain ⟨⟨d, c⟩, h1, rfl⟩ := map_some hq
  exact RS.of (ps_ret (pwE e)) fun hs0 ps0 H0 _ _ hs ps σ H L R D q => h _ _ _ h1 hs ps σ H R _ fun v H2 s2 R2 d2 => q hs ps v H2 (L.step s2) R2.hr d2
theorem rs_retN : RS X n0 (.Return none pos) fRetN := .mk fun st o h => by
  cases h
  exact RS.of ps_retN fun hs0 ps0 H0 _ _ hs ps σ H L R D q => q hs ps _ H L R.hr .non
theorem rs_retL (h : RL X e fl) : RS X n0 (.Return (some e) pos) (fRetL fl) := .mk fun st o hq => by
  obtain ⟨⟨d, c⟩, h1, rfl⟩ := map_some hq
  exact RS.of (ps_ret (pwE e)) fun hs0 ps0 H0 i1 i2 hs ps σ H L R D q => h _ _ _ h1 hs ps σ H R _ fun p vs H2 hp s2 R2 e2 d2 => by
    obtain ⟨L2, R3⟩ := Rel.own L 0 hp s2 R2 e2 d2 R
    exact q (p :: hs) ps p vs H2 ⟨L.pre, L.nps, L2.nhs, L2.hss, L2.stp⟩ List.mem_cons_self (L2.nhs p List.mem_cons_self fun m => R.hr.trk p (L.hss p m) hp) R2.hr e2 d2
theorem rs_asg {tg : Expr} {t : TG} {js : List Nat} {fg : FG} (h : RE X e fe) (hg : RG X tg t js fg) (hs : swapsWithSole [tg] e pos.line X.env = pure false := by rfl) (hw : swappedStores [tg] e X.env = pure none := by rfl)
    (h1 : (assignEach [tg] X.env).map (·.2) = [assign tg X.env] := by rfl) : RS X n0 (.Assign [tg] e pos) (fAsg fg fe) := .mk fun st o hq => by
  obtain ⟨⟨d, c⟩, e1, hq⟩ := bind_some hq
  obtain ⟨st1, e2, rfl⟩ := map_some hq
  exact RS.of (ps_asg (pwE e) hg.pg hs hw h1) fun hs0 ps0 H0 i1 i2 hs ps σ H L R D q => h _ _ _ e1 hs ps σ H R _ fun v H2 s2 R2 d2 => hg.eg hs ps σ H2 _ _ v d R2 d2 e2 _ fun σ' R3 _ => q hs ps σ' H2 (L.step s2) R3
theorem rs_set {i : Nat} {x : Str} {pos' : Pos} (hN : X.N.Nodup) (hi : X.N[i]? = some x) (hx : Loc X.env.scope x) (h : RE X e fe) (hs : swapsWith e (some (.Name x pos')) pos.line X.env = pure false := by rfl) (hf : X.fn x = true ∨ X.env.scope.names.lookup x = some .local := by first | exact .inl rfl | exact .inr rfl | assumption) :
    RS X n0 (.Assign [.Name x pos'] e pos) (fSet i fe) := .mk fun st o hq => by
  obtain ⟨⟨d, c⟩, e1, rfl⟩ := map_some hq
  exact RS.of (ps_set hN hi hx (pwE e) hs hf) fun hs0 ps0 H0 i1 i2 hs ps σ H L R D q => h _ _ _ e1 hs ps σ H R _ fun v H2 s2 R2 d2 => q hs ps _ H2 (L.step s2) (R2.set i (x := .dat d) d2)
/-- x = a new list, a list of one's own -/
theorem rs_new {i : Nat} {x : Str} {pos' : Pos} (hN : X.N.Nodup) (hi : X.N[i]? = some x) (hx : Loc X.env.scope x) (h : RL X e fl) (hs : swapsWith e (some (.Name x pos')) pos.line X.env = pure false := by rfl) (hf : X.fn x = true ∨ X.env.scope.names.lookup x = some .local := by first | exact .inl rfl | exact .inr rfl | assumption) :
    RS X n0 (.Assign [.Name x pos'] e pos) (fNew i fl) := .mk fun st o hq => by
  obtain ⟨⟨d, c⟩, e1, rfl⟩ := map_some hq
  exact RS.of (ps_set hN hi hx (pwE e) hs hf) fun hs0 ps0 H0 i1 i2 hs ps σ H L R D q => h _ _ _ e1 hs ps σ H R _ fun p vs H2 hp s2 R2 e2 d2 => by
    obtain ⟨L2, R3⟩ := Rel.own L i hp s2 R2 e2 d2 R
    exact q _ _ _ H2 L2 R3
theorem rs_if {cc : Expr} {u v : List Stmt} (hc : RT X cc ft) (h1 : RSs X n0 u f) (h2 : RSs X n0 v g) : RS X n0 (.If cc u v pos) (fIfS ft f g) := .mk fun st o hq => by
  obtain ⟨⟨b, c⟩, e1, hq⟩ := bind_some hq
  refine RS.of (ps_if (pwT cc) (pwSs u) (pwSs v)) fun hs0 ps0 H0 i1 i2 hs ps σ H L R D q => hc _ _ _ e1 hs ps σ H R _ fun H2 s2 R2 => ?_
  cases b with
  | true =>
    rw [if_pos rfl] at hq ⊢
    exact h1 _ _ hq hs0 ps0 H0 i1 i2 hs ps σ H2 (L.step s2) R2 D q
  | false =>
    rw [if_neg (by simp)] at hq ⊢
    exact h2 _ _ hq hs0 ps0 H0 i1 i2 hs ps σ H2 (L.step s2) R2 D q
theorem rs_drop (h : RE X e fe) (hs : swapsWith e none pos.line X.env = pure false := by rfl) : RS X n0 (.Expr e pos) (fDrop fe) := .mk fun st o hq => by
  obtain ⟨⟨d, c⟩, e1, rfl⟩ := map_some hq
  exact RS.of (ps_expr (pwE e) hs) fun hs0 ps0 H0 i1 i2 hs ps σ H L R D q => h _ _ _ e1 hs ps σ H R _ fun v H2 s2 R2 d2 => q hs ps σ H2 (L.step s2) R2
theorem rs_par {i j : Nat} {x y : Str} {px py pt : Pos} {kt k2 pt2} (hc : X.calm = true) (hN : X.N.Nodup) (hi : X.N[i]? = some x) (hj : X.N[j]? = some y) (hij : i ≠ j) (hx : X.env.scope.names.lookup x = some .local) (hy : X.env.scope.names.lookup y = some .local) (ha : RA X [a, b] fa)
    {P : PS X (.Assign [.Tuple [.Name x px, .Name y py] kt pt] (.Tuple [a, b] k2 pt2) pos) (tPar i j (wA X [a, b]))} : RS X n0 (.Assign [.Tuple [.Name x px, .Name y py] kt pt] (.Tuple [a, b] k2 pt2) pos) (fPar i j fa) := .mk fun st o hq => by
  obtain ⟨⟨xs, c⟩, e1, hq⟩ := bind_some hq
  simp only at hq
  split at hq
  · cases hq
    refine RS.of P fun hs0 ps0 H0 i1 i2 hs ps σ H L R D q => ha _ _ _ e1 hs ps σ H R _ fun vs H2 s2 R2 p2 => ?_
    obtain ⟨v, w, rfl, d1, d2⟩ := dpa2 (paired_dat (ds := [_, _]) p2)
    exact ⟨v, w, rfl, q hs ps _ H2 (L.step s2) ((R2.set i (x := .dat _) d1).set j (x := .dat _) d2)⟩
  · cases hq
theorem rs_setc {i : Nat} {x : Str} {k : Expr} {p1 p2 : Pos} (hN : X.N[i]? = some x) (hv : Vis X.env.scope x) (hk : RE X k fk) (h : RE X e fe) (hd : (x == ("__debug__" : Str)) = false := by decide) (hcd : (x == ("__classdict__" : Str)) = false := by decide)
    (ha : ∀ v, assign (.Subscript (.Name x p1) k p2) X.env v = (do
      let ov ← holding [v] (eval (.Name x p1) X.env)
      let iv ← holding [v, ov] (eval k X.env)
      standAt p2
      holding [v, ov, iv] (setItem ov iv v)
      release [v, ov, iv] []) := by intro _; rfl) (hs : swapsWithSole [.Subscript (.Name x p1) k p2] e pos.line X.env = pure false := by rfl) (hw : swappedStores [.Subscript (.Name x p1) k p2] e X.env = pure none := by rfl)
    (h1 : (assignEach [.Subscript (.Name x p1) k p2] X.env).map (·.2) = [assign (.Subscript (.Name x p1) k p2) X.env] := by rfl) : RS X n0 (.Assign [.Subscript (.Name x p1) k p2] e pos) (fSetc i fk fe) := .mk fun st o hq => by
  obtain ⟨⟨d, c⟩, e1, hq⟩ := bind_some hq
  obtain ⟨⟨m, c2⟩, e2, hq⟩ := bind_some hq
  simp only at hq
  split at hq
  · rename_i c0 j es
    obtain ⟨xs, ex, hq⟩ := bind_some hq
    obtain ⟨m, em, rfl⟩ := map_some hq
    refine RS.of (ps_asg (pwE e) (pg_sub (pe_var hN hv hd hcd) (pwE k) set_list ha) hs hw h1) fun hs0 ps0 H0 i1 i2 hs ps σ H L R D q => h _ _ _ e1 hs ps σ H R _ fun v H2 s2 R2 d2 => ?_
    obtain ⟨w, w1, p, w2, rfl⟩ := R2.slot i _ es
    refine ⟨_, w1, hk _ _ _ e2 hs ps σ H2 R2 _ fun u H3 s3 R3 d3 => ?_⟩
    cases dp_int d3
    obtain ⟨vs, q1, q2⟩ := R3.hr.cel c0 p xs w2 ex
    have dv := d2.up (s3.hd0 R2.hr.sub)
    obtain ⟨s4, R4⟩ := R3.put (m := m) w2 ex q1 q2 dv
    exact ⟨p, vs, j, m, rfl, rfl, q1, by rw [q2.len]; exact em, q hs ps σ _ (((L.step s2).step s3).step s4) R4⟩
  · cases hq
theorem rs_setc2 {i j : Nat} {x y : Str} {k : Expr} {p1 p2 p3 p4 : Pos} {kt} (hc : X.calm = true) (hNd : X.N.Nodup) (hN : X.N[i]? = some x) (hv : Vis X.env.scope x) (hj : X.N[j]? = some y) (hy : Loc X.env.scope y) (hij : i ≠ j) (hk : RE X k fk) (h : RE X e fe) (hd : (x == ("__debug__" : Str)) = false := by decide) (hcd : (x == ("__classdict__" : Str)) = false := by decide)
    (ha : ∀ v, assign (.Subscript (.Name x p1) k p2) X.env v = (do
      let ov ← holding [v] (eval (.Name x p1) X.env)
      let iv ← holding [v, ov] (eval k X.env)
      standAt p2
      holding [v, ov, iv] (setItem ov iv v)
      release [v, ov, iv] []) := by intro _; rfl) (hf : X.fn y = true ∨ X.env.scope.names.lookup y = some .local := by first | exact .inl rfl | exact .inr rfl | assumption)
    {P : ∀ t : TE, PE X e t → PS X (.Assign [.Tuple [.Subscript (.Name x p1) k p2, .Name y p3] kt p4] e pos) (tAsg t (gTup X.K 2 (gCons (L2.gSub (tVar i) (wE X k) rSetL) (gCons (gName j) gNil))))} :
    RS X n0 (.Assign [.Tuple [.Subscript (.Name x p1) k p2, .Name y p3] kt p4] e pos) (fSetc2 i fk j fe) := .mk fun st o hq => by
  obtain ⟨⟨d, c⟩, e1, hq⟩ := bind_some hq
  simp only at hq
  split at hq
  · rename_i a0 b0
    obtain ⟨⟨m, c2⟩, e2, hq⟩ := bind_some hq
    simp only at hq
    split at hq
    · rename_i c0 m0 es
      obtain ⟨xs, ex, hq⟩ := bind_some hq
      obtain ⟨m, em, rfl⟩ := map_some hq
      refine RS.of (P _ (pwE e)) fun hs0 ps0 H0 i1 i2 hs ps σ H L R D q => h _ _ _ e1 hs ps σ H R _ fun v H2 s2 R2 d2 => ?_
      obtain ⟨tp, ws, rfl, ht, da⟩ := dp_tuple d2
      obtain ⟨va, vb, rfl, da1, da2⟩ := dpa2 da
      refine ⟨tp, _, rfl, sqT_mono hid_sub ht, rfl, va, [vb], rfl, ?_⟩
      obtain ⟨w, w1, p, w2, rfl⟩ := R2.slot i _ es
      refine ⟨_, w1, hk _ _ _ e2 hs ps σ H2 R2 _ fun u H3 s3 R3 d3 => ?_⟩
      cases dp_int d3
      obtain ⟨vs, q1, q2⟩ := R3.hr.cel c0 p xs w2 ex
      have sb := s3.hd0 R2.hr.sub
      obtain ⟨s4, R4⟩ := R3.put (m := m) w2 ex q1 q2 (da1.up sb)
      refine ⟨p, vs, m0, m, rfl, rfl, q1, by rw [q2.len]; exact em, vb, [], rfl, rfl, ?_⟩
      exact q hs ps _ _ (((L.step s2).step s3).step s4) (R4.set j (x := .dat b0) ((da2.up sb).up (s4.hd0 R3.hr.sub)))
    · cases hq
  · cases hq
/-! loops -/
theorem lv_trans {hs0 ps0 hs ps hs' ps' : List Addr} {H0 H2 H' : Hp} (L : Lv hs0 ps0 H0 hs ps H2) (M : Lv hs ps H2 hs' ps' H') (sub : ∀ p ∈ ps, p ∈ hs) : Lv hs0 ps0 H0 hs' ps' H' := by
  have back : ∀ a, a ∉ ps0 → H2 a = none → H0 a = none := fun a n e => by
    cases q : H0 a with
    | none => rfl
    | some o => rw [L.stp a o n q] at e; cases e
  obtain ⟨l, el⟩ := L.pre
  obtain ⟨l', el'⟩ := M.pre
  refine ⟨⟨l ++ l', by rw [el', el]; simp⟩, fun a m n => ?_, fun a m n => ?_, fun a m => M.hss a (L.hss a m), fun a o n e => ?_⟩
  · by_cases h : a ∈ ps
    · exact L.nps a h n
    · exact back a n (M.nps a m h)
  · by_cases h : a ∈ hs
    · exact L.nhs a h n
    · exact back a (fun h0 => h (sub a (by rw [el]; exact List.mem_append_left _ h0))) (M.nhs a m h)
  · refine M.stp a o (fun m => ?_) (L.stp a o n e)
    rw [L.nps a m n] at e; cases e
theorem lv_refl {hs ps : List Addr} {H : Hp} : Lv hs ps H hs ps H := ⟨⟨[], by simp⟩, fun _ m n => absurd m n, fun _ m n => absurd m n, fun _ m => m, Step.refl _⟩
/-- what is wanted, from a later base -/
theorem post_back {K : PySem.W.Frag} {hs0 ps0 hs ps : List Addr} {H0 H2 : Hp} {D : Ends} {r : RV} {c : Cs} (L : Lv hs0 ps0 H0 hs ps H2) (sub : ∀ p ∈ ps, p ∈ hs) (trk : ∀ a ∈ hs, H2 a ≠ none) (q : Post K hs0 ps0 H0 D (.rt r c)) (D' : Ends) (e : D'.rt = D.rt) : Post K hs ps H2 D' (.rt r c) := by
  cases r with
  | dat d => exact fun hs' ps' v H M R d => by rw [e]; exact q hs' ps' v H (lv_trans L M sub) R d
  | new xs =>
    exact fun hs' ps' p vs H M m n R e' d => by
      rw [e]
      refine q hs' ps' p vs H (lv_trans L M sub) m ?_ R e' d
      cases h : H0 p with
      | none => rfl
      | some o =>
        by_cases h2 : p ∈ ps0
        · obtain ⟨l, el⟩ := L.pre
          exact absurd n (trk p (sub p (by rw [el]; exact List.mem_append_left _ h2)))
        · rw [L.stp p o h2 h] at n; cases n
theorem lv_gd {hs ps hs' ps' : List Addr} {H2 H' : Hp} (M : Lv hs ps H2 hs' ps' H') (sub : ∀ p ∈ ps, p ∈ hs) : GD hs H2 H' := fun a o n e => M.stp a o (fun m => n (sub a m)) e
theorem rs_for {tg iter : Expr} {body : List Stmt} {t : TG} {js : List Nat} {fg : FG} {it : FL} (hp : PassesOwn (model X.prog X.w) X.A X.env X.xe) (hc : X.calm = true) (hi : RI X tg iter it) (hg : RG X tg t js fg) (hb : ∀ n, RSs X n body f)
    (hs : ∀ x, foldedSetIterable iter X.env x = pure x := by intro _; rfl) : RS X n0 (.For tg iter body [] pos) (fFor it fg f) := .mk fun st o hq => by
  obtain ⟨⟨xs, c⟩, e1, hq⟩ := bind_some hq
  refine RS.of (ps_for hp hc (pwI tg iter) hg.pg (pwSs body) hs) fun hs0 ps0 H0 i1 i2 hs ps σ H L R D q => hi _ _ _ e1 hs ps σ H R _ fun J H2 s2 R2 W => ?_
  have L2 := L.step s2
  have sub := R2.hr.sub
  have trk := R2.hr.trk
  refine ⟨fun i m σ3 H3 => m = xs.length - i ∧ i ≤ xs.length ∧ ∃ hs3 ps3 st3, Lv hs ps H2 hs3 ps3 H3 ∧ Rel X.K hs3 ps3 σ3 H3 st3 ∧ forGo fg f (xs.drop i) st3 = some o, ⟨xs.length, by simp, Nat.zero_le _, hs, ps, _, lv_refl, R2, hq⟩, ?_⟩
  rintro i m σ3 H3 ⟨rfl, hi', hs3, ps3, st3, M3, R3, go⟩
  have g3 := lv_gd M3 sub
  by_cases hlt : i < xs.length
  · refine .inr ⟨W.goes i H3 hlt g3, fun σ4 H4 => ∃ hs3 ps3 st3, Lv hs ps H2 hs3 ps3 H4 ∧ Rel X.K hs3 ps3 σ4 H4 st3 ∧ forGo fg f (xs.drop (i + 1)) st3 = some o, fun σ4 H4 h4 => ⟨xs.length - (i + 1), by omega, rfl, hlt, h4⟩, fun x H4 y4 => ?_⟩
    obtain ⟨s4, dx, ex, kx⟩ := W.yields i H3 x H4 hlt g3 y4
    have edr : xs.drop i = dx :: xs.drop (i + 1) := by
      rw [List.drop_eq_getElem_cons hlt]
      rw [List.getElem?_eq_getElem hlt] at ex
      cases ex; rfl
    rw [edr] at go
    obtain ⟨st1, go1, go⟩ := bind_some go
    obtain ⟨o1, go2, go⟩ := bind_some go
    have R4 := R3.step s4
    have M4 := M3.step (s4.mono (qs := ps3) (by simp))
    refine hg.eg hs3 ps3 σ3 H4 st3 st1 x dx R4 (kx hs3 M3.nhs R3.hr.trk) go1 _ fun σ5 R5 _ => ?_
    refine hb ps.length _ _ go2 hs ps H2 (Nat.le_refl _) trk hs3 ps3 σ5 H4 M4 R5 _ ?_
    cases o1 with
    | nx st2 => exact fun hs' ps' σ' H' M' R' => ⟨hs', ps', st2, M', R', go⟩
    | ct st2 => exact fun hs' ps' σ' H' M' R' => ⟨hs', ps', st2, M', R', go⟩
    | bk st2 =>
      cases go
      exact fun hs' ps' σ' H' M' R' => q hs' ps' σ' H' (lv_trans L2 M' sub) R'
    | rt r c =>
      cases go
      exact post_back L2 sub trk q _ rfl
  · have ei : i = xs.length := by omega
    subst ei
    rw [List.drop_eq_nil_of_le (Nat.le_refl _)] at go
    cases go
    exact .inl ⟨W.stops H3 g3, q hs3 ps3 σ3 H3 (lv_trans L2 M3 sub) R3⟩
theorem rs_while {cc : Expr} {body : List Stmt} (hp : PassesOwn (model X.prog X.w) X.A X.env X.xe) (hc : RT X cc ft) (hb : ∀ n, RSs X n body f) : RS X n0 (.While cc body [] pos) (fWhile ft f) := .mk fun st o hq => by
  refine RS.of (ps_while hp (pwT cc) (pwSs body)) fun hs0 ps0 H0 i1 i2 hs ps σ H L R D q => ?_
  have sub := R.hr.sub
  have trk := R.hr.trk
  refine ⟨fun m σ3 H3 => ∃ hs3 ps3 st3, Lv hs ps H hs3 ps3 H3 ∧ Rel X.K hs3 ps3 σ3 H3 st3 ∧ whileGo ft f m st3 = some o, ⟨FUEL, hs, ps, st, lv_refl, R, hq⟩, ?_⟩
  rintro m σ3 H3 ⟨hs3, ps3, st3, M3, R3, go⟩
  cases m with
  | zero => cases go
  | succ n =>
    obtain ⟨⟨b, c⟩, go1, go⟩ := bind_some (show (ft st3).bind _ = some o from go)
    refine hc _ _ _ go1 hs3 ps3 σ3 H3 R3 _ fun H4 s4 R4 => ?_
    have M4 := M3.step s4
    cases b with
    | false =>
      rw [if_neg (by simp)] at go ⊢
      cases go
      exact q hs3 ps3 σ3 H4 (lv_trans L M4 sub) R4
    | true =>
      rw [if_pos rfl] at go ⊢
      obtain ⟨o1, go2, go⟩ := bind_some go
      refine ⟨fun σ4 H4 => ∃ hs3 ps3 st3, Lv hs ps H hs3 ps3 H4 ∧ Rel X.K hs3 ps3 σ4 H4 st3 ∧ whileGo ft f n st3 = some o, fun σ4 H4 h4 => ⟨n, Nat.lt_succ_self n, h4⟩, ?_⟩
      refine hb ps.length _ _ go2 hs ps H (Nat.le_refl _) trk hs3 ps3 σ3 H4 M4 R4 _ ?_
      cases o1 with
      | nx st2 => exact fun hs' ps' σ' H' M' R' => ⟨hs', ps', st2, M', R', go⟩
      | ct st2 => exact fun hs' ps' σ' H' M' R' => ⟨hs', ps', st2, M', R', go⟩
      | bk st2 =>
        cases go
        exact fun hs' ps' σ' H' M' R' => q hs' ps' σ' H' (lv_trans L M' sub) R'
      | rt r c =>
        cases go
        exact post_back L sub trk q _ rfl
/-! x = [..] on one line -/
section
variable {elt tg iter : Expr} {ifs : List Expr} {scope : Scope} {own : List (Str × Nat)} {spos : Pos} {t : TG} {it : FL} {fg : FG} {js : List Nat}
theorem rs_setLc {i : Nat} {y : Str} {py : Pos} (hc : X.calm = true) (hN : X.N.Nodup) (hy : X.N[i]? = some y) (hyl : X.env.scope.names.lookup y = some .local)
    (hsw : swapsWith (.ListComp elt [⟨tg, iter, ifs, 0⟩] scope pos) (some (.Name y py)) spos.line X.env = pure true) (hi : RI X tg iter it) (ok : BlkOk X.N X.env.scope scope own)
    (hg : ∀ (s : Shared) (H : Hp) (C : Addr) (cl : List (Str × Addr)) (fp : List Addr), RG (X.blk s H scope (compEnvC scope cl C X.env) fp) tg t js fg) (ht : ∀ (s : Shared) (H : Hp) (C : Addr) (cl : List (Str × Addr)) (fp : List Addr), RTs (X.blk s H scope (compEnvC scope cl C X.env) fp) ifs ft)
    (he : ∀ (s : Shared) (H : Hp) (C : Addr) (cl : List (Str × Addr)) (fp : List Addr), RE (X.blk s H scope (compEnvC scope cl C X.env) fp) elt fe) (hj : ∀ j ∈ js, j ∈ own.map (·.2)) (hs : ∀ x, foldedSetIterable iter X.env x = pure x := by intro _; rfl) :
    RS X n0 (.Assign [.Name y py] (.ListComp elt [⟨tg, iter, ifs, 0⟩] scope pos) spos) (fSet i (fOfL (fLc it fg ft fe (own.map (·.2))))) := .mk fun st o hq => by
  obtain ⟨⟨d, c⟩, e1, rfl⟩ := map_some hq
  obtain ⟨⟨xs, c1⟩, e2, e3⟩ := map_some e1
  cases e3
  intro hs0 ps0 H0 i1 i2 hs' ps σ H L R D q pins s I
  exact RS.of (o := .nx ⟨st.ds.set i (some (.dat (.list xs))), _⟩) (ps_setLc hc hN hy hyl hsw (pwI tg iter) ok (fun s H C cl fp => (hg s H C cl fp).pg) (ptL ht) peL hs) (fun hs0 ps0 H0 i1 i2 hs ps σ H L R D q => (edl_lc s hi hg ht he hj e2).ed hs ps σ H R _ fun v H2 s2 R2 d2 => q hs ps _ H2 (L.step s2) (R2.set i (x := .dat (.list xs)) d2)) hs0 ps0 H0 i1 i2 hs' ps σ H L R D q pins s I
theorem rs_newLc {i : Nat} {y : Str} {py : Pos} (hc : X.calm = true) (hN : X.N.Nodup) (hy : X.N[i]? = some y) (hyl : X.env.scope.names.lookup y = some .local)
    (hsw : swapsWith (.ListComp elt [⟨tg, iter, ifs, 0⟩] scope pos) (some (.Name y py)) spos.line X.env = pure true) (hi : RI X tg iter it) (ok : BlkOk X.N X.env.scope scope own)
    (hg : ∀ (s : Shared) (H : Hp) (C : Addr) (cl : List (Str × Addr)) (fp : List Addr), RG (X.blk s H scope (compEnvC scope cl C X.env) fp) tg t js fg) (ht : ∀ (s : Shared) (H : Hp) (C : Addr) (cl : List (Str × Addr)) (fp : List Addr), RTs (X.blk s H scope (compEnvC scope cl C X.env) fp) ifs ft)
    (he : ∀ (s : Shared) (H : Hp) (C : Addr) (cl : List (Str × Addr)) (fp : List Addr), RE (X.blk s H scope (compEnvC scope cl C X.env) fp) elt fe) (hj : ∀ j ∈ js, j ∈ own.map (·.2)) (hs : ∀ x, foldedSetIterable iter X.env x = pure x := by intro _; rfl) :
    RS X n0 (.Assign [.Name y py] (.ListComp elt [⟨tg, iter, ifs, 0⟩] scope pos) spos) (fNew i (fLc it fg ft fe (own.map (·.2)))) := .mk fun st o hq => by
  obtain ⟨⟨d, c⟩, e1, rfl⟩ := map_some hq
  intro hs0 ps0 H0 i1 i2 hs' ps σ H L R D q pins s I
  exact RS.of (o := .nx ⟨st.ds.set i (some (.cel c.length)), c ++ [d]⟩) (ps_setLc hc hN hy hyl hsw (pwI tg iter) ok (fun s H C cl fp => (hg s H C cl fp).pg) (ptL ht) peL hs) (fun hs0 ps0 H0 i1 i2 hs ps σ H L R D q => (edl_lc s hi hg ht he hj e1) hs ps σ H R _ fun p vs H2 hp s2 R2 e2 d2 => by
    obtain ⟨L2, R3⟩ := Rel.own L i hp s2 R2 e2 d2 R
    exact q _ _ _ H2 L2 R3) hs0 ps0 H0 i1 i2 hs' ps σ H L R D q pins s I
end
end
end DL


set_option Elab.async false
set_option linter.all false
set_option maxRecDepth 100000
set_option maxHeartbeats 4000000
namespace DL
open PySem PySem.Spec L2
open PyProof.Rows hiding St

/-! ### defs -/
abbrev FnS := List SV → Cs → Option (RV × Cs)
def RetOk (K : PySem.W.Frag) (hs ps : List Addr) (H : Hp) (c : Cs) (r : RV) (Q : VK) : Prop :=
  match r with
  | .dat d => ∀ v H2, Step ps H H2 → HR K hs ps H2 c → Dp K (hid hs H2) v d → Q v H2
  | .new l => ∀ p vs H2, H p = none → Step ps H H2 → HR K (p :: hs) ps H2 c → H2 p = some (.lst vs) → DpAll K (hid (p :: hs) H2) vs l → Q (.ref p) H2
/-- the def at f computes F, by at most level k -/
structure FnG (P : Program) (w : World) (K : PySem.W.Frag) (mg : Str → Option Value) (base : Heap) (k : Nat) (f : Addr) (fd : FuncData) (ns : List Str) (F : FnS) : Prop where
  len : ∀ xs cs r c, F xs cs = some (r, c) → xs.length = ns.length
  run : ∀ (A : Around) (outer : List Env) (s : Shared) (H : Hp) (args : Args) (us : List Value) (vs : List V) (hs ps : List Addr) (cs c : Cs) (xs : List SV) (r : RV) (Q : VK), A.guards = some [] → Room k A → Env0 P w K mg base A outer s H → BindsTo s fd args (ns.zip us) → Vals vs us →
    HR K hs ps H cs → Paired (RelS K hs ps H) vs xs → F xs cs = some (r, c) → RetOk K hs ps H c r Q → codeAny (model P w) A (.call (.ref f) args) (CR CX0 outer P w H s Q E0) s
theorem FnG.mono {P : Program} {w : World} {K : PySem.W.Frag} {mg : Str → Option Value} {base : Heap} {j k : Nat} {f : Addr} {fd : FuncData} {ns : List Str} {F : FnS} (h : FnG P w K mg base j f fd ns F) (hj : j ≤ k) : FnG P w K mg base k f fd ns F :=
  ⟨h.len, fun A outer s H args us vs hs ps cs c xs r Q g hr => h.run A outer s H args us vs hs ps cs c xs r Q g (hr.mono hj)⟩
/-- what a body computes -/
def mkF (np N n0 : Nat) (body : FS) : FnS := fun xs cs => if xs.length = np ∧ cs.length = n0 then
    match body ⟨xs.map some ++ List.replicate (N - np) none, cs⟩ with
    | some (.rt r c) => some (r, c.take n0)
    | some (.nx st) => some (.dat .none, st.cs.take n0)
    | _ => none
  else none
theorem HR.take {K : PySem.W.Frag} {hs hs' ps l : List Addr} {H : Hp} {c : Cs} (R : HR K hs' (ps ++ l) H c) (h : ∀ a ∈ hs, a ∈ hs') (hp : ∀ p ∈ ps, p ∈ hs) : HR K hs ps H (c.take ps.length) := by
  have sb : Sub (hid hs' H) (hid hs H) := fun a o e => by
    obtain ⟨n, k⟩ := hid_some e
    rw [hid_out fun m => n (h a m)]; exact k
  have hl := R.len
  rw [List.length_append] at hl
  refine ⟨hp, (List.nodup_append.mp R.nd).1, by rw [List.length_take]; omega, fun a m => R.trk a (h a m), fun i p xs h1 h2 => ?_⟩
  have hi : i < ps.length := by
    by_cases hi : i < ps.length
    · exact hi
    · rw [List.getElem?_eq_none (by omega)] at h1; cases h1
  obtain ⟨vs, q1, q2⟩ := R.cel i p xs (by rw [List.getElem?_append_left hi]; exact h1) (take_some h2)
  exact ⟨vs, q1, q2.up sb⟩
theorem rel_start {K : PySem.W.Frag} {hs ps : List Addr} {H : Hp} {cs : Cs} {N : List Str} : ∀ {vs : List V} {xs : List SV}, HR K hs ps H cs → Paired (RelS K hs ps H) vs xs → Rel K hs ps (L2.start N vs) H ⟨xs.map some ++ List.replicate (N.length - xs.length) none, cs⟩ := fun {vs xs} h p => by
  have hl : vs.length = xs.length := Paired.length p
  refine ⟨h, ?_, fun i x e => ?_⟩
  · unfold L2.start
    simp [hl]
  · by_cases hi : i < xs.length
    · rw [List.getElem?_append_left (by simpa using hi), List.getElem?_map] at e
      obtain ⟨y, e1, e2⟩ := Option.map_eq_some_iff.mp e
      cases e2
      have go : ∀ {vs : List V} {xs : List SV} {i : Nat}, Paired (RelS K hs ps H) vs xs → xs[i]? = some x → ∃ v, vs[i]? = some v ∧ RelS K hs ps H v x := by
        intro vs xs i p
        induction p generalizing i with
        | nil => intro e; cases e
        | cons a t ih =>
          intro e
          cases i with
          | zero => cases e; exact ⟨_, rfl, a⟩
          | succ n => exact ih e
      obtain ⟨v, h1, h2⟩ := go p e1
      refine ⟨v, ?_, h2⟩
      unfold L2.start
      rw [List.getElem?_append_left (by simp [hl]; exact hi), List.getElem?_map, h1]; rfl
    · rw [List.getElem?_append_right (by simpa using hi), List.getElem?_replicate] at e
      split at e <;> cases e
section
variable {P : Program} {w : World} {K : PySem.W.Frag} {mg : Str → Option Value} {base : Heap} {n0 : Nat}
theorem fng_of {x : Str} {st : Stmt} {f : Addr} {fd : FuncData} {N ns : List Str} {k : Nat} {body : FS} (F : Fun K x x st f fd) (S : FnScope N ns (defScope st))
    (hb : ∀ (cdv : Value) (A : Around) (outer : List Env) (s : Shared) (H : Hp) (E : XK), A.guards = some [] → Room k (A.deeper (envOfC x (defScope st) s.heap.objs.size f cdv)) → RSs (cxOf CX0 P w K mg base N x (defScope st) f cdv A outer s H E).nox n0 (defBody st) body) :
    FnG P w K mg base (k + 1) f fd ns (mkF ns.length N.length n0 body) := by
  obtain ⟨oc, od, kV, doc, pm, an, cdv, ct, osl, rfl, lk, hcd⟩ := F.ex
  refine ⟨fun xs cs r c h => ?_, fun A outer s H args us vs hs ps cs c xs r Q hg hr e0 hbind hv hR hP hF hQ => ?_⟩
  · unfold mkF at h
    split at h
    · rename_i hl; exact hl.1
    · cases h
  unfold mkF at hF
  split at hF
  case isFalse => cases hF
  rename_i hl
  have hvl : vs.length = ns.length := by rw [Paired.length hP]; exact hl.1
  have hpl : ps.length = n0 := by rw [hR.len]; exact hl.2
  have kx : K.In s.heap :=
    e0.mod.kin.keeps fun b o e => (e0.bs b o e).1
  have lim : s.heap.NoLimit :=
    e0.mod.nolimit.keeps fun b o e => (e0.bs b o e).1
  refine codeAny_call_function hr.depth (kx _ _ lk)
    rfl S.co S.gen rfl (PySem.W.codeRec_of kx hcd) (hbind _ _ _ _ ?_)
  refine wpAny_newFunctionEnv_cells S.kind (fun y hy => ?_) fun env he s1 inC => ?_
  · rcases S.par y.1 (List.of_mem_zip (a := y.1) (b := y.2) hy).1 with q | q
    · exact .inl q
    · exact .inr ⟨q, PySem.W.cellsFrom_some _ _ _ (.inl q)⟩
  subst he
  refine ⟨lim.keeps inC.toInCall.keep, codeAny_func ?_⟩
  have I := inv_start (CX := CX0) (mg := mg) (base := base) (E := E0) S hr.hd e0 hvl hv inC
  -- the body, then the way out
  have fin : ∀ {σ' : St} {H' : Hp} {v : V} {u : Value} {s' : Shared}, L2.Inv (cxOf CX0 P w K mg base N x (defScope st) f cdv A outer s H E0) [] σ' H' s' → RelV v u → Q v H' → CE outer P w H s Q u s' :=
    fun {σ' H' v u s'} J rv q => ⟨v, H', J.os, J.bare, J.base, J.hok, rv, q⟩
  have R0 : Rel K hs ps (L2.start N vs) H ⟨xs.map some ++ List.replicate (N.length - ns.length) none, cs⟩ := by
    have := rel_start (N := N) hR hP
    rw [hl.1] at this
    exact this
  have go : ∃ o, body ⟨xs.map some ++ List.replicate (N.length - ns.length) none, cs⟩ = some o ∧ Post K hs ps H { nx := fun _ H' => Q .non H', rt := Q } o := by
    split at hF
    · rename_i r' c' eb
      cases hF
      refine ⟨_, eb, ?_⟩
      cases r with
      | dat d =>
        intro hs' ps' v H' L R d'
        obtain ⟨l, el⟩ := L.pre
        subst el
        rw [← hpl] at hQ
        exact hQ v H' L.stp (R.take L.hss hR.sub) (d'.up (fun a o e => by
          obtain ⟨n, q⟩ := hid_some e
          rw [hid_out fun m => n (L.hss a m)]; exact q))
      | new l0 =>
        intro hs' ps' p vs' H' L m n R e' d'
        obtain ⟨l, el⟩ := L.pre
        subst el
        rw [← hpl] at hQ
        have hsub : ∀ a ∈ p :: hs, a ∈ hs' := fun a ma => by
          rcases List.mem_cons.mp ma with z | z
          · rw [z]; exact m
          · exact L.hss a z
        exact hQ p vs' H' n L.stp (R.take hsub fun q mq => List.mem_cons_of_mem _ (hR.sub q mq)) e' (d'.up (fun a o e => by
          obtain ⟨n, q⟩ := hid_some e
          rw [hid_out fun m => n (hsub a m)]; exact q))
    · rename_i st' eb
      cases hF
      refine ⟨_, eb, fun hs' ps' σ' H' L R => ?_⟩
      obtain ⟨l, el⟩ := L.pre
      subst el
      rw [← hpl] at hQ
      exact hQ .non H' L.stp (R.hr.take L.hss hR.sub) .non
    · cases hF
  obtain ⟨o, eb, po⟩ := go
  have wb := hb cdv A outer s H E0 hg (hr.deeper _) _ o eb hs ps H (Nat.le_of_eq hpl) hR.trk hs ps (L2.start N vs) H lv_refl R0 _ po
  refine wpAny_mono (wb [] s1 (I.wish _)) (fun fl s' hq => ?_) fun e s' z => False.elim z
  have hq := hq.unwish
  cases fl with
  | ret u =>
    obtain ⟨v, σ', H', J, rv, q⟩ := hq
    exact fin J rv q
  | next =>
    obtain ⟨σ', H', J, q⟩ := hq
    exact fin (v := V.non) (u := Value.none) J rfl q
  | brk => exact hq.elim fun _ z => z.elim fun _ z => False.elim z.2
  | cont => exact hq.elim fun _ z => z.elim fun _ z => False.elim z.2
end

/-! ### calls -/
/-- a def that stands under the name x; its parameters may be given by position or, behind these, by name -/
structure At (P : Program) (w : World) (K : PySem.W.Frag) (mg : Str → Option Value) (base : Heap) (k : Nat) (x : Str) (ns : List Str) (F : FnS) : Prop where
  ex : ∃ (f : Addr) (fd : FuncData), mg x = some (.ref f) ∧ PySem.W.keepIn K (.ref f) = true ∧ FnG P w K mg base k f fd ns F ∧
    ∀ (s : Shared) (us : List Value), us.length = ns.length → ∀ (i : Nat), i ≤ ns.length → BindsTo s fd ⟨us.take i, (ns.drop i).zip (us.drop i)⟩ (ns.zip us)
theorem at_mk {P : Program} {w : World} {K : PySem.W.Frag} {mg : Str → Option Value} {base : Heap} {k : Nat} {x : Str} {st : Stmt} {f : Addr} {fd : FuncData} {ns : List Str} {F : FnS} (U : Fun K x x st f fd) (hm : mg x = some (.ref f)) (G : FnG P w K mg base k f fd ns F)
    (hb : ∀ (kV doc pm : Value) (an : Option Addr) (cdv ct : Value) (us : List Value), us.length = ns.length → ∀ (i : Nat), i ≤ ns.length → bindArgs (PySem.W.fnOf x x (defArgs st) (defBody st) (defScope st) .none kV doc pm an cdv ct) ⟨us.take i, (ns.drop i).zip (us.drop i)⟩ = pure (ns.zip us)) : At P w K mg base k x ns F := by
  obtain ⟨oc, od, kV, doc, pm, an, cdv, ct, osl, e, lk, hcd⟩ := U.ex
  refine ⟨f, fd, hm, U.kp, G, fun s us hl i hi => ?_⟩
  subst e
  exact .of_eq (hb kV doc pm an cdv ct us hl i hi)
def celsOk (k : Nat) : List SV → Bool
  | [] => true
  | .cel j :: r => decide (j = k) && celsOk k r
  | .dat _ :: r => celsOk k r
def celOf : List SV → Option Nat
  | [] => none
  | .cel k :: _ => some k
  | .dat _ :: r => celOf r
def norm : SV → SV
  | .cel _ => .cel 0
  | .dat d => .dat d
/-- the result, and the caller's lists behind it -/
def callF (F : FnS) (xs : List SV) (c : Cs) : Option (RV × Cs) := match celOf xs with
  | none => (F xs []).map fun p => (p.1, c)
  | some k => if celsOk k xs = true then (c[k]?).bind fun l => (F (xs.map norm) [l]).bind fun p => match p.2 with
      | [l'] => some (p.1, c.set k l')
      | _ => none
    else none
def fCall (F : FnS) (a : FA) : FE := fun st => (a st).bind fun p => (callF F p.1 p.2).bind fun q => match q.1 with
  | .dat d => some (d, q.2)
  | .new _ => none
def fCallL (F : FnS) (a : FA) : FL := fun st => (a st).bind fun p => (callF F p.1 p.2).bind fun q => match q.1 with
  | .new d => some (d, q.2)
  | .dat _ => none
/-- what the callee asks of its caller -/
def tG (K : PySem.W.Frag) (F : FnS) (ta : TA) : TE := fun σ H Q => ta σ H fun vs H1 => ∃ (hs ps : List Addr) (cs c : Cs) (xs : List SV) (r : RV), HR K hs ps H1 cs ∧ Paired (RelS K hs ps H1) vs xs ∧ F xs cs = some (r, c) ∧ RetOk K hs ps H1 c r Q
section
variable {X : Cx} {k : Nat} {x : Str} {ns : List Str} {F : FnS} {e : Expr} {es : List Expr} {p pos : Pos} {fa : FA}
theorem run_g {f : Addr} {fd : FuncData} {pins : List (Addr × Obj)} {σ : St} {H : Hp} {s : Shared} {Q : VK} {us : List Value} {vs : List V} {args : Args} {hs ps : List Addr} {cs c : Cs} {xs : List SV} {r : RV} (G : FnG X.prog X.w X.K X.mg X.base k f fd ns F) (hg : X.A.guards = some []) (hr : Room k X.A)
    (I : L2.Inv X pins σ H s) (hb : BindsTo s fd args (ns.zip us)) (hv : Vals vs us) (h1 : HR X.K hs ps H cs) (h2 : Paired (RelS X.K hs ps H) vs xs) (h3 : F xs cs = some (r, c)) (h4 : RetOk X.K hs ps H c r Q) : wpAny (model X.prog X.w) X.A (call (.ref f) args.pos args.kw) (EP X pins σ Q) X.xe s := by
  refine wpAny_call (codeAny_mono (G.run X.A X.stack s H args us vs hs ps cs c xs r Q hg hr I.env0 hb hv h1 h2 h3 h4) fun r s' hq => ?_)
  cases r with
  | error e => exact False.elim hq
  | ok fl =>
    cases fl with
    | ret u => exact I.after hq
    | _ => exact False.elim hq
theorem paired_none {K : PySem.W.Frag} {hs ps qs : List Addr} {H : Hp} : ∀ {vs : List V} {xs : List SV}, celOf xs = none → Paired (RelS K hs ps H) vs xs → Paired (RelS K hs qs H) vs xs
  | _, _, _, .nil => .nil
  | _, .dat d :: r, h, .cons a t => .cons a (paired_none (xs := r) h t)
  | _, .cel _ :: _, h, .cons _ _ => by cases h
theorem paired_norm {K : PySem.W.Frag} {hs ps : List Addr} {H : Hp} {k : Nat} {q : Addr} (hq : ps[k]? = some q) : ∀ {vs : List V} {xs : List SV}, celsOk k xs = true → Paired (RelS K hs ps H) vs xs → Paired (RelS K hs [q] H) vs (xs.map norm)
  | _, _, _, .nil => .nil
  | _, .dat d :: r, h, .cons a t => .cons a (paired_norm hq (xs := r) h t)
  | _, .cel j :: r, h, .cons a t => by
    have h' : (decide (j = k) && celsOk k r) = true := h
    rw [Bool.and_eq_true] at h'
    have e := of_decide_eq_true h'.1
    obtain ⟨p, h1, h2⟩ := a
    rw [e, hq] at h1
    cases h1
    exact .cons ⟨q, rfl, h2⟩ (paired_norm hq h'.2 t)
theorem paired_cel {K : PySem.W.Frag} {hs ps : List Addr} {H : Hp} {k : Nat} : ∀ {vs : List V} {xs : List SV}, celOf xs = some k → Paired (RelS K hs ps H) vs xs → ∃ q, ps[k]? = some q
  | _, _, h, .nil => by cases h
  | _, .dat d :: r, h, .cons a t => paired_cel (xs := r) h t
  | _, .cel j :: r, h, .cons a t => by
    cases h
    obtain ⟨p, h1, h2⟩ := a
    exact ⟨p, h1⟩
theorem HR.none0 {K : PySem.W.Frag} {hs ps : List Addr} {H : Hp} {c : Cs} (R : HR K hs ps H c) : HR K hs [] H [] :=
  ⟨fun p m => by simp at m, .nil, rfl, R.trk, fun i p xs h => by simp at h⟩
theorem HR.one {K : PySem.W.Frag} {hs ps : List Addr} {H : Hp} {c : Cs} {k : Nat} {q : Addr} {l : List PyData} (R : HR K hs ps H c) (hq : ps[k]? = some q) (hl : c[k]? = some l) : HR K hs [q] H [l] := by
  refine ⟨fun p m => by rw [List.mem_singleton.mp m]; exact R.sub q (List.mem_of_getElem? hq), by simp, rfl, R.trk, fun i p xs h1 h2 => ?_⟩
  cases i with
  | zero =>
    cases h1
    cases h2
    exact R.cel k q l hq hl
  | succ n => simp at h1
theorem HR.back {K : PySem.W.Frag} {hs hs' ps : List Addr} {H H' : Hp} {c : Cs} {k : Nat} {q : Addr} {l' : List PyData} (R : HR K hs ps H c) (hq : ps[k]? = some q) (s : Step [q] H H') (M : HR K hs' [q] H' [l']) (hh : ∀ a ∈ hs', a ∉ hs → H a = none) (hh2 : ∀ a ∈ hs, a ∈ hs') : HR K hs' ps H' (c.set k l') := by
  have hin : q ∈ hs := R.sub q (List.mem_of_getElem? hq)
  have sb : Sub (hid hs H) (hid hs' H') := s.hd (fun p m => by rw [List.mem_singleton.mp m]; exact hin) hh
  refine ⟨fun p m => hh2 p (R.sub p m), R.nd, by rw [List.length_set]; exact R.len, M.trk, fun i p xs h1 h2 => ?_⟩
  by_cases e : k = i
  · subst e
    rw [hq] at h1
    cases h1
    have hlc : k < c.length := by
      by_cases hl : k < c.length
      · exact hl
      · rw [List.getElem?_eq_none (by rw [List.length_set]; omega)] at h2; cases h2
    rw [List.getElem?_set_self hlc] at h2
    cases h2
    exact M.cel 0 q l' rfl rfl
  · rw [List.getElem?_set_ne e] at h2
    obtain ⟨vs, q1, q2⟩ := R.cel i p xs h1 h2
    have hne : p ≠ q := fun z => by
      subst z
      have a1 : k < ps.length := by
        by_cases hl : k < ps.length
        · exact hl
        · rw [List.getElem?_eq_none (by omega)] at hq; cases hq
      have a2 : i < ps.length := by
        by_cases hl : i < ps.length
        · exact hl
        · rw [List.getElem?_eq_none (by omega)] at h1; cases h1
      rw [List.getElem?_eq_getElem a1] at hq
      rw [List.getElem?_eq_getElem a2] at h1
      exact e ((List.getElem_inj R.nd).mp (by rw [Option.some.inj hq, Option.some.inj h1]))
    exact ⟨vs, s p _ (by simpa using hne) q1, q2.up sb⟩
theorem ed_G {K : PySem.W.Frag} {ta : TA} {st : Sta} {d : PyData} {c : Cs} (h : fCall F fa st = some (d, c)) (ha : ∀ st d c, fa st = some (d, c) → EDA K ta st d c) : ED K (tG K F ta) st d c := by
  obtain ⟨⟨xs, c1⟩, h1, h⟩ := bind_some h
  obtain ⟨⟨r, c2⟩, h2, h⟩ := bind_some h
  simp only at h
  split at h <;> cases h
  refine fun hs ps σ H R Q q => ha _ _ _ h1 hs ps σ H R _ fun vs H2 s2 R2 p2 => ?_
  unfold callF at h2
  split at h2
  · rename_i e0
    obtain ⟨⟨r3, c3⟩, h3, e3⟩ := map_some h2
    cases e3
    exact ⟨hs, [], [], c3, xs, _, R2.hr.none0, paired_none e0 p2, h3, fun v H3 s3 _ d3 => q v H3 (s2.trans (s3.mono (by simp))) (R2.step s3) d3⟩
  · rename_i k0 e0
    split at h2
    · rename_i ok
      obtain ⟨l, hl, h2⟩ := bind_some h2
      obtain ⟨⟨r3, c3⟩, h3, h2⟩ := bind_some h2
      simp only at h2
      split at h2 <;> cases h2
      rename_i l'
      obtain ⟨p, hp⟩ := paired_cel e0 p2
      refine ⟨hs, [p], [l], _, xs.map norm, _, R2.hr.one hp hl, paired_norm hp ok p2, h3, fun v H3 s3 M3 d3 => ?_⟩
      have hin : p ∈ hs := R2.hr.sub p (List.mem_of_getElem? hp)
      have s3' : Step ps H2 H3 := s3.mono fun a m => by rw [List.mem_singleton.mp m]; exact List.mem_of_getElem? hp
      exact q v H3 (s2.trans s3') (R2.slots (s3'.hd0 R2.hr.sub) (R2.hr.back hp s3 M3 (fun _ m n => absurd m n) fun _ m => m)) d3
    · cases h2
theorem edl_G {K : PySem.W.Frag} {ta : TA} {st : Sta} {d : List PyData} {c : Cs} (h : fCallL F fa st = some (d, c)) (ha : ∀ st d c, fa st = some (d, c) → EDA K ta st d c) : EDL K (tG K F ta) st d c := by
  obtain ⟨⟨xs, c1⟩, h1, h⟩ := bind_some h
  obtain ⟨⟨r, c2⟩, h2, h⟩ := bind_some h
  simp only at h
  split at h <;> cases h
  refine fun hs ps σ H R Q q => ha _ _ _ h1 hs ps σ H R _ fun vs H2 s2 R2 p2 => ?_
  unfold callF at h2
  split at h2
  · rename_i e0
    obtain ⟨⟨r3, c3⟩, h3, e3⟩ := map_some h2
    cases e3
    refine ⟨hs, [], [], c3, xs, _, R2.hr.none0, paired_none e0 p2, h3, fun p vs' H3 hp s3 M3 e3 d3 => ?_⟩
    have tr := M3.trk p List.mem_cons_self
    exact q p vs' H3 (DL.fresh_back s2 R2.hr hp) (s2.trans (s3.mono (by simp))) (R2.more s3 hp tr) e3 d3
  · rename_i k0 e0
    split at h2
    · rename_i ok
      obtain ⟨l, hl, h2⟩ := bind_some h2
      obtain ⟨⟨r3, c3⟩, h3, h2⟩ := bind_some h2
      simp only at h2
      split at h2 <;> cases h2
      rename_i l'
      obtain ⟨p, hp⟩ := paired_cel e0 p2
      refine ⟨hs, [p], [l], _, xs.map norm, _, R2.hr.one hp hl, paired_norm hp ok p2, h3, fun t vs' H3 ht s3 M3 e3 d3 => ?_⟩
      have s3' : Step ps H2 H3 := s3.mono fun a m => by rw [List.mem_singleton.mp m]; exact List.mem_of_getElem? hp
      exact q t vs' H3 (DL.fresh_back s2 R2.hr ht) (s2.trans s3') (R2.slots (s3'.hd R2.hr.sub (fresh_hid ht)) (R2.hr.back hp s3 M3 (fresh_hid ht) fun _ m => List.mem_cons_of_mem _ m)) e3 d3
    · cases h2
/-- the one argument a new list, which is the callee's own -/
def fCallFr (F : FnS) (l : FL) : FE := fun st => (l st).bind fun p => (F [.cel 0] [p.1]).bind fun q => match q.1 with
  | .dat d => some (d, p.2)
  | .new _ => none
theorem ed_Fr {K : PySem.W.Frag} {te : TE} {st : Sta} {d : PyData} {c : Cs} {fl : FL} (h : fCallFr F fl st = some (d, c)) (hl : ∀ st d c, fl st = some (d, c) → EDL K te st d c) : ED K (tG K F (tCons te tNil)) st d c := by
  obtain ⟨⟨xs, c1⟩, h1, h⟩ := bind_some h
  obtain ⟨⟨r, c2⟩, h2, h⟩ := bind_some h
  simp only at h
  split at h <;> cases h
  refine fun hs ps σ H R Q q => hl _ _ _ h1 hs ps σ H R _ fun p vs H2 hp s2 R2 e2 d2 => ?_
  have np : p ∉ ps := fun m => R.hr.trk p (R.hr.sub p m) hp
  refine ⟨p :: hs, [p], [xs], c2, [.cel 0], _, ⟨fun a m => by rw [List.mem_singleton.mp m]; exact List.mem_cons_self, by simp, rfl, R2.hr.trk, fun i a ys k1 k2 => ?_⟩, .cons ⟨p, rfl, rfl⟩ .nil, h2, fun v H3 s3 M3 d3 => ?_⟩
  · cases i with
    | zero =>
      cases k1
      cases k2
      exact ⟨vs, e2, d2⟩
    | succ n => simp at k1
  · have sb : Sub (hid (p :: hs) H2) (hid (p :: hs) H3) := s3.hd0 fun a m => by rw [List.mem_singleton.mp m]; exact List.mem_cons_self
    have R3 : Rel K (p :: hs) ps σ H3 ⟨st.ds, c⟩ := R2.slots sb ⟨R2.hr.sub, R2.hr.nd, R2.hr.len, M3.trk, fun i a ys k1 k2 => by
      obtain ⟨ws, q1, q2⟩ := R2.hr.cel i a ys k1 k2
      have hne : a ≠ p := fun z => np (z ▸ List.mem_of_getElem? k1)
      exact ⟨ws, s3 a _ (by simpa using hne) q1, q2.up sb⟩⟩
    refine q v H3 (fun a o n e => ?_) (R3.less (fun a m => List.mem_cons_of_mem _ m) R.hr.sub) (d3.up hid_cons_sub)
    have e4 := s2 a o n e
    exact s3 a o (fun m => by rw [List.mem_singleton.mp m] at e; rw [hp] at e; cases e) e4
theorem pe_callGA {t : TA} (C : At X.prog X.w X.K X.mg X.base k x ns F) (hgd : X.A.guards = some []) (hr : Room k X.A) (hg : Gl X x) (ha : PA X (e :: es) t) (hdb : (x == ("__debug__" : Str)) = false := by decide) (he : starEach (e :: es) X.env = (false, eval e X.env) :: starEach es X.env := by with_reducible first | exact sn_name | exact sn_const | exact sn_tup | exact sn_list | exact sn_bin | exact sn_un | exact sn_bool | exact sn_cmp | exact sn_call | exact sn_sub | exact sn_if | exact sn_attr | exact sn_lc) (hpl : (backTo pos (starEach es X.env)).any (·.1) = false := by rfl) :
    PE X (.Call (.Name x p) (e :: es) [] pos) (tG X.K F t) := by
  obtain ⟨f, fd, hm, hk, G, hb⟩ := C.ex
  refine ⟨fun pins s σ H Q I h => ?_⟩
  refine wpAny_Call_Name_kw (ld_glob I hg hm ?_ hdb)
  refine PySem.W.callWith_K (h₀ := X.base) I.ok.mod.kin hk (thn (ha.run pos pins s σ H _ I h) fun us s1 ⟨vs, H1, I1, r, hs, ps, cs, c, xs, r2, a1, a2, a3, a4⟩ => ⟨I1.kIn, ?_⟩) he hpl
  have hl : us.length = ns.length := by rw [← r.length, Paired.length a2]; exact G.len _ _ _ _ a3
  have b := hb s1 us hl ns.length (Nat.le_refl _)
  rw [← hl, List.take_length, List.drop_length, hl, List.drop_length, List.zip_nil_left] at b
  exact run_g (args := ⟨us, []⟩) G hgd hr I1 b r a1 a2 a3 a4
theorem re_callFr {fl : FL} (C : At X.prog X.w X.K X.mg X.base k x ns F) (hgd : X.A.guards = some []) (hr : Room k X.A) (hg : Gl X x) (hl : RL X e fl) (hdb : (x == ("__debug__" : Str)) = false := by decide) (he : starEach [e] X.env = (false, eval e X.env) :: starEach [] X.env := by with_reducible first | exact sn_name | exact sn_const | exact sn_tup | exact sn_list | exact sn_bin | exact sn_un | exact sn_bool | exact sn_cmp | exact sn_call | exact sn_sub | exact sn_if | exact sn_attr | exact sn_lc) (hpl : (backTo pos (starEach [] X.env)).any (·.1) = false := by rfl) :
    RE X (.Call (.Name x p) [e] [] pos) (fCallFr F fl) := .mk fun st d c h => RE.of (pe_callGA C hgd hr hg (pa_cons (pwE e) pa_nil he) hdb he hpl) (ed_Fr h hl)
theorem pe_callG (C : At X.prog X.w X.K X.mg X.base k x ns F) (hgd : X.A.guards = some []) (hr : Room k X.A) (hg : Gl X x) (hdb : (x == ("__debug__" : Str)) = false := by decide) (he : starEach (e :: es) X.env = (false, eval e X.env) :: starEach es X.env := by with_reducible first | exact sn_name | exact sn_const | exact sn_tup | exact sn_list | exact sn_bin | exact sn_un | exact sn_bool | exact sn_cmp | exact sn_call | exact sn_sub | exact sn_if | exact sn_attr | exact sn_lc) (hpl : (backTo pos (starEach es X.env)).any (·.1) = false := by rfl) :
    PE X (.Call (.Name x p) (e :: es) [] pos) (tG X.K F (wA X (e :: es))) := by
  obtain ⟨f, fd, hm, hk, G, hb⟩ := C.ex
  refine ⟨fun pins s σ H Q I h => ?_⟩
  refine wpAny_Call_Name_kw (ld_glob I hg hm ?_ hdb)
  refine PySem.W.callWith_K (h₀ := X.base) I.ok.mod.kin hk (thn ((pwA (e :: es)).run pos pins s σ H _ I h) fun us s1 ⟨vs, H1, I1, r, hs, ps, cs, c, xs, r2, a1, a2, a3, a4⟩ => ⟨I1.kIn, ?_⟩) he hpl
  have hl : us.length = ns.length := by rw [← r.length, Paired.length a2]; exact G.len _ _ _ _ a3
  have b := hb s1 us hl ns.length (Nat.le_refl _)
  rw [← hl, List.take_length, List.drop_length, hl, List.drop_length, List.zip_nil_left] at b
  exact run_g (args := ⟨us, []⟩) G hgd hr I1 b r a1 a2 a3 a4
theorem pe_callG0 (C : At X.prog X.w X.K X.mg X.base k x ns F) (hgd : X.A.guards = some []) (hr : Room k X.A) (hg : Gl X x) (hdb : (x == ("__debug__" : Str)) = false := by decide) : PE X (.Call (.Name x p) [] [] pos) (tG X.K F tNil) := by
  obtain ⟨f, fd, hm, hk, G, hb⟩ := C.ex
  refine ⟨fun pins s σ H Q I h => ?_⟩
  refine wpAny_Call_Name_kw (ld_glob I hg hm ?_ hdb)
  obtain ⟨hs, ps, cs, c, xs, r2, a1, a2, a3, a4⟩ := h
  have hl : ([] : List Value).length = ns.length := by rw [← G.len _ _ _ _ a3, ← Paired.length a2]; rfl
  have b := hb s [] hl ns.length (Nat.le_refl _)
  rw [List.take_nil, List.drop_nil, List.zip_nil_right, List.zip_nil_right] at b
  refine PySem.W.callWith_K0 I.kIn hk (run_g (args := ⟨[], []⟩) G hgd hr I ?_ .nil a1 a2 a3 a4)
  rw [List.zip_nil_right]
  exact b
theorem re_call (C : At X.prog X.w X.K X.mg X.base k x ns F) (hgd : X.A.guards = some []) (hr : Room k X.A) (hg : Gl X x) (ha : RA X (e :: es) fa) (hdb : (x == ("__debug__" : Str)) = false := by decide) (he : starEach (e :: es) X.env = (false, eval e X.env) :: starEach es X.env := by with_reducible first | exact sn_name | exact sn_const | exact sn_tup | exact sn_list | exact sn_bin | exact sn_un | exact sn_bool | exact sn_cmp | exact sn_call | exact sn_sub | exact sn_if | exact sn_attr | exact sn_lc) (hpl : (backTo pos (starEach es X.env)).any (·.1) = false := by rfl) :
    RE X (.Call (.Name x p) (e :: es) [] pos) (fCall F fa) := .mk fun st d c h => RE.of (pe_callG C hgd hr hg hdb he hpl) (ed_G h ha)
theorem rl_call (C : At X.prog X.w X.K X.mg X.base k x ns F) (hgd : X.A.guards = some []) (hr : Room k X.A) (hg : Gl X x) (ha : RA X (e :: es) fa) (hdb : (x == ("__debug__" : Str)) = false := by decide) (he : starEach (e :: es) X.env = (false, eval e X.env) :: starEach es X.env := by with_reducible first | exact sn_name | exact sn_const | exact sn_tup | exact sn_list | exact sn_bin | exact sn_un | exact sn_bool | exact sn_cmp | exact sn_call | exact sn_sub | exact sn_if | exact sn_attr | exact sn_lc) (hpl : (backTo pos (starEach es X.env)).any (·.1) = false := by rfl) :
    RL X (.Call (.Name x p) (e :: es) [] pos) (fCallL F fa) := .mk fun st d c h => RL.of (pe_callG C hgd hr hg hdb he hpl) (edl_G h ha)
theorem re_call0 (C : At X.prog X.w X.K X.mg X.base k x ns F) (hgd : X.A.guards = some []) (hr : Room k X.A) (hg : Gl X x) (hdb : (x == ("__debug__" : Str)) = false := by decide) : RE X (.Call (.Name x p) [] [] pos) (fCall F fNilA) := .mk fun st d c h =>
  RE.of (pe_callG0 C hgd hr hg hdb) (ed_G h fun st d c h => by cases h; exact eda_nil)
end
end DL


set_option Elab.async false
set_option linter.all false
set_option maxRecDepth 100000
set_option maxHeartbeats 4000000
namespace DL
open PySem PySem.Spec L2
open PyProof.Rows hiding St

/-! ### calls by name alone, the names in the parameters' order -/
def wK (X : Cx) (kws : List Keyword) : TA := fun σ H Q => ∀ pos pins s, L2.Inv X pins σ H s → wpAny (model X.prog X.w) X.A (evalAll ((backToKw pos (keywordEach kws X.env)).map (·.2))) (AP X pins σ Q) X.xe s
theorem pwK {X : Cx} (kws : List Keyword) : PK X kws (wK X kws) := ⟨fun pos pins s _ _ _ I h => h pos pins s I⟩
structure RK (X : Cx) (kws : List Keyword) (f : FA) : Prop where
  h : ∀ st d c, f st = some (d, c) → EDA X.K (wK X kws) st d c
instance (X : Cx) (kws : List Keyword) (f : FA) : CoeFun (RK X kws f) (fun _ => ∀ st d c, f st = some (d, c) → EDA X.K (wK X kws) st d c) := ⟨fun r => r.h⟩
section
variable {X : Cx} {k i : Nat} {x : Str} {ns : List Str} {F : FnS} {e : Expr} {es : List Expr} {p pos kpos : Pos} {fa fk : FA} {fe : FE} {kws : List Keyword} {nm : Option Str}
theorem RK.of {t : TA} {st : Sta} {d : List SV} {c : Cs} (p : PK X kws t) (k : EDA X.K t st d c) : EDA X.K (wK X kws) st d c := fun hs ps σ H R Q q pos pins s I => p.run pos pins s σ H Q I (k hs ps σ H R Q q)
theorem rk_nil : RK X [] fNilA := .mk fun st d c h => by
  cases h; exact RK.of pk_nil eda_nil
theorem rk_cons (ha : RE X e fe) (hr : RK X kws fa) : RK X (⟨nm, e, kpos⟩ :: kws) (fConsA fe fa) := .mk fun st d c h => by
  obtain ⟨⟨x, c1⟩, h1, h⟩ := bind_some h
  obtain ⟨⟨xs, c2⟩, h2, e⟩ := map_some h
  cases e
  exact RK.of (pk_cons (pwE _) (pwK kws)) (eda_cons (ha _ _ _ h1) (hr _ _ _ h2))
theorem pe_callGk (C : At X.prog X.w X.K X.mg X.base k x ns F) (hgd : X.A.guards = some []) (hr : Room k X.A) (hg : Gl X x) (hall : (backToKw pos (keywordEach kws X.env)).all (·.1.isSome) = true := by rfl) (hks : (backToKw pos (keywordEach kws X.env)).filterMap (·.1) = ns := by rfl) (hdb : (x == ("__debug__" : Str)) = false := by decide)
    (hpl : ((backTo pos (starEach [] X.env)).any (·.1) || (backToKw pos (keywordEach kws X.env)).any (·.1.isNone)) = false := by rfl) : PE X (.Call (.Name x p) [] kws pos) (tG X.K F (wK X kws)) := by
  obtain ⟨f, fd, hm, hk, G, hb⟩ := C.ex
  refine ⟨fun pins s σ H Q I h => ?_⟩
  refine wpAny_Call_Name_kw (ld_glob I hg hm ?_ hdb)
  refine PySem.W.callWith_KW0 (h₀ := X.base) I.ok.mod.kin hk hall (thn ((pwK kws).run pos pins s σ H _ I h) fun us s1 ⟨vs, H1, I1, r, hs, ps, cs, c, xs, r2, a1, a2, a3, a4⟩ => ⟨I1.kIn, ?_⟩) hpl
  have hl : us.length = ns.length := by rw [← r.length, Paired.length a2]; exact G.len _ _ _ _ a3
  have b := hb s1 us hl 0 (Nat.zero_le _)
  rw [List.take_zero, List.drop_zero, List.drop_zero] at b
  rw [hks]
  exact run_g (args := ⟨[], ns.zip us⟩) G hgd hr I1 b r a1 a2 a3 a4
theorem re_callk (C : At X.prog X.w X.K X.mg X.base k x ns F) (hgd : X.A.guards = some []) (hr : Room k X.A) (hg : Gl X x) (ha : RK X kws fa) (hall : (backToKw pos (keywordEach kws X.env)).all (·.1.isSome) = true := by rfl) (hks : (backToKw pos (keywordEach kws X.env)).filterMap (·.1) = ns := by rfl) (hdb : (x == ("__debug__" : Str)) = false := by decide)
    (hpl : ((backTo pos (starEach [] X.env)).any (·.1) || (backToKw pos (keywordEach kws X.env)).any (·.1.isNone)) = false := by rfl) : RE X (.Call (.Name x p) [] kws pos) (fCall F fa) := .mk fun st d c h => RE.of (pe_callGk C hgd hr hg hall hks hdb hpl) (ed_G h ha)
end

/-! ### the law -/
def Wants (s₁ : Shared) : Result → Shared → Prop := fun r s' => r = .ok (.ret (.bool true)) ∧ OldK s₁.heap s'.heap ∧ s'.os = s₁.os ∧ AllBare s'.gens
theorem law_G {P : Program} {w : World} {K : PySem.W.Frag} {mg mb : Str → Option Value} {k : Nat} {fa a : Addr} {fd : FuncData} {x : Str} {F : FnS} {s₁ : Shared} {vs : List Value} {ns : List Int}
    (KX : K.In s₁.heap) (g1 : s₁.heap.Ns mainGlobals mg) (g2 : s₁.heap.Ns builtinsNs mb) (g3 : ∀ x : Str, x ≠ "__name__" → mb x = bootBuiltins x) (lim : s₁.heap.NoLimit) (gens : s₁.gens = #[])
    (ho : s₁.heap.get? a = some { cls := .type "list", data := .seq vs.toArray }) (hi : IntsAre vs ns) (hl : ns.length ≤ sizeLine) (hr : Room k callerA)
    (G : ∀ base : Heap, K.In base → base.Ns mainGlobals mg → FnG P w K mg base k fa fd [x] F) (bind : ∀ (s : Shared) (u : Value), BindsTo s fd ⟨[u], []⟩ [(x, u)])
    (T : ∃ c, F [.dat (.list (ns.map PyData.int))] [] = some (.dat (.bool true), c)) : codeAny (model P w) callerA (.call (.ref fa) ⟨[.ref a], []⟩) (Wants s₁) s₁ := by
  have rv := vals_ints hi
  have one : ∀ H : Hp, L2.Only H → SqL K H a (ns.map V.int) → HOk P w H s₁.heap → (∀ b, H b ≠ none → b = a) → (∀ o, K.lookup a = some o → H a = none) → codeAny (model P w) callerA (.call (.ref fa) ⟨[.ref a], []⟩) (Wants s₁) s₁ := by
    intro H only sq ok hA hK
    have free : ∀ {b : Addr} {o : Obj} {es : Array DictEntry} {ep : Nat}, s₁.heap.get? b = some o → o.data = .dict es ep → H b = none := by
      intro b o es ep e d
      cases q : H b with
      | none => rfl
      | some u =>
        have z := hA b (by rw [q]; simp)
        subst z
        rw [ho] at e
        cases e
        cases (show Data.seq vs.toArray _ = Data.dict es ep from d)
    have ns' : ∀ {b : Addr} {m : Str → Option Value}, s₁.heap.Ns b m → (hidT s₁.heap H).Ns b m := by
      rintro b m ⟨o, es, ep, e, d, r⟩
      exact ⟨o, es, ep, hidT_get e (free e d), d, r⟩
    have kb : K.In (hidT s₁.heap H) := by
      intro b o e
      refine hidT_get (KX b o e) ?_
      cases q : H b with
      | none => rfl
      | some u =>
        have z := hA b (by rw [q]; simp)
        subst z
        rw [hK o e] at q; cases q
    obtain ⟨mc, l1, l2⟩ := lim
    have e0 : Env0 P w K mg (hidT s₁.heap H) callerA [] s₁ H :=
      ⟨rfl, ⟨kb, ns' g1, ⟨mb, ns' g2, g3⟩, ⟨mc, ns' l1, l2⟩⟩, fun b o e => of_hidT e,
        Nat.le_of_eq (hidT_size _ _), trivial, fun b hb => (by cases hb), ok, .of_eq gens⟩
    obtain ⟨c, T⟩ := T
    have R0 : HR K [] [] H [] := ⟨fun p m => (by cases m), .nil, rfl, fun a m => (by cases m), fun i p xs h => (by simp at h)⟩
    have d0 : Paired (RelS K [] [] H) [.ref a] [.dat (.list (ns.map PyData.int))] :=
      .cons (.lst (sqL_mono (fun b o e => by rw [hid_out (by simp)]; exact e) sq) (DpAll.ints ns)) .nil
    refine codeAny_mono ((G _ kb (ns' g1)).run callerA [] s₁ H ⟨[.ref a], []⟩ [.ref a] [.ref a] [] [] [] c _ _ (fun v _ => v = .bl true) rfl hr e0 (bind s₁ (.ref a)) (.cons rfl .nil) R0 d0 T fun v H2 _ _ d => dp_bool d) fun r s' h => ?_
    cases r with
    | error e => exact False.elim h
    | ok fl =>
      cases fl with
      | ret u =>
        obtain ⟨v, H', os, bare, un, ok', rr, q⟩ := h
        have q' : v = .bl true := q
        subst q'
        cases (show u = Value.bool true from rr)
        refine ⟨rfl, OldK.of_keep fun b o e => ?_, os, bare⟩
        cases q : H b with
        | none => exact un.keep b o e q (fun z => by cases z) (fun z => by cases z)
        | some u =>
          rcases only b with z | ⟨ob, xs, z⟩
          · rw [q] at z; cases z
          · obtain ⟨e1, _⟩ := ok b _ z
            obtain ⟨e2, _⟩ := ok' b _ (un.frzs b ob _ z)
            rw [e] at e1
            cases e1
            exact e2
      | _ => exact False.elim h
  cases hk : K.lookup a with
  | some o =>
    have e := KX a o hk
    rw [ho] at e
    cases e
    refine one (fun _ => none) (fun _ => .inl rfl) (.inr ⟨_, vs.toArray, _, hk, rfl, rfl, rfl, ?_, by simpa using rv⟩) (fun b u z => by cases z) (fun b z => absurd rfl z) fun _ _ => rfl
    rw [List.size_toArray, hi.length]; exact hl
  | none =>
    let Hs : Hp := fun b => if b = a then some (.frz { cls := .type "list", data := .seq vs.toArray } (.lst (ns.map V.int))) else none
    have at_a : Hs a = some (.frz { cls := .type "list", data := .seq vs.toArray } (.lst (ns.map V.int))) := if_pos rfl
    have off : ∀ b, b ≠ a → Hs b = none := fun b n => if_neg n
    refine one Hs (fun b => ?_) (.inl (.inr ⟨_, at_a⟩)) (fun b u z => ?_) (fun b z => ?_) fun o e => by rw [hk] at e; cases e
    · by_cases n : b = a
      · subst n; exact .inr ⟨_, _, at_a⟩
      · exact .inl (off b n)
    · by_cases n : b = a
      · subst n
        rw [at_a] at z
        cases z
        exact ⟨ho, by rw [List.length_map]; exact hl, vs, _, rv, ho⟩
      · rw [off b n] at z; cases z
    · by_cases n : b = a
      · exact n
      · exact absurd (off b n) z
/-- the goal that the head leaves -/
theorem walk_G {l : PySem.W.OpenLaw} {n k : Nat} {q : Program} {loose : List Str} {XP : (Str → Option Value) → Heap → Prop} {YP : World → Heap → Prop} {d : DefRec} {K : Params → PySem.W.Frag} {F : FnS} {x : Str}
    (hn : l.most = some n) (hn2 : n ≤ sizeLine) (hdf : d.params.defaults = []) (hr : Room k callerA) (hY : ∀ (w : World) (h : Heap), YP w h → (K w.params).In h)
    (G : ∀ (w : World) (mg : Str → Option Value) (fa : Addr) (h : Heap), (K w.params).In h → h.Ns mainGlobals mg → mg d.name = some (.ref fa) →
      ∃ fd : FuncData, (∀ (s : Shared) (u : Value), BindsTo s fd ⟨[u], []⟩ [(x, u)]) ∧ ∀ base : Heap, (K w.params).In base → base.Ns mainGlobals mg → FnG l.prog w (K w.params) mg base k fa fd [x] F)
    (T : ∀ ns : List Int, ns.length ≤ n → ∃ c, F [.dat (.list (ns.map PyData.int))] [] = some (.dat (.bool true), c)) : PySem.W.WalkO q loose XP YP l.row.toRowW d [] (fun f vs => PySem.call f vs) := by
  refine Att.attach_call hn hdf fun w s₀ s₁ mg mb fa o pm cd doc a vs ns Gr Y _ _ _ hmg hobj hints hlen gens => ?_
  have KX := hY w _ Y
  obtain ⟨fd, hb, hF⟩ := G w mg fa _ KX Gr.T.g hmg
  exact law_G KX Gr.T.g Gr.T.b Gr.T.builtins Gr.T.nolimit gens hobj hints (Nat.le_trans hlen hn2) hr hF hb (T ns hlen)
end DL


set_option Elab.async false
set_option linter.all false
set_option maxRecDepth 100000
set_option maxHeartbeats 4000000
namespace DL
open PySem PySem.Spec L2
open PyProof.Rows hiding St

theorem hu64 {k : Nat} {A : Around} (hr : Room k A) : A.units + 64 < cLine := by have := hr.un; omega
section
variable {X : Cx} {a b : Expr} {pos : Pos} {fa fb : FE}
theorem v (i : Nat) {x : Str} (hN : X.N[i]? = some x := by rfl) (hv : Vis X.env.scope x := by first | exact Or.inl rfl | exact Or.inr (Or.inl rfl) | exact Or.inr (Or.inr rfl)) (hd : (x == ("__debug__" : Str)) = false := by decide) (hcd : (x == ("__classdict__" : Str)) = false := by decide) : RE X (.Name x pos) (fVar i) := re_var hN hv hd hcd
/-- + of ints, lists, tuples -/
def gPlus : PyData → PyData → Option PyData
  | .int i, .int j => some (.int (i + j))
  | .list xs, .list ys => if xs.length + ys.length ≤ LIM then some (.list (xs ++ ys)) else none
  | .tuple xs, .tuple ys => if xs.length + ys.length ≤ LIM then some (.tuple (xs ++ ys)) else none
  | _, _ => none
theorem re_plus (ha : RE X a fa) (hb : RE X b fb) : RE X (.BinOp a .Add b pos) (fOp gPlus fa fb) := re_op (OpR.or (OpR.or op_add op_catS) op_catA) (fun x y z h => by
  cases x <;> cases y <;> first | (cases h; done) | skip
  · cases h
    exact fun hs H v w t d1 d2 Q q => .inl (.inl (rd_int0 (fun _ => .int _) hs H v w t d1 d2 Q q))
  · rename_i xs ys
    unfold gPlus at h
    simp only at h
    split at h <;> cases h
    rename_i hl
    intro hs H v w ht h1 h2 Q q
    obtain ⟨p, vs, rfl, hp, da⟩ := dp_list h1
    obtain ⟨p2, ws, rfl, hp2, db⟩ := dp_list h2
    refine .inl (.inr ⟨p, p2, vs, ws, rfl, rfl, sqL_mono hid_sub hp, sqL_mono hid_sub hp2, lim_ok (by rw [da.len, db.len]; exact hl), fun t ht' => ?_⟩)
    have s3 : Step [] H (upd H t (.lst (vs ++ ws))) := Step.new ht'
    have hph : t ∉ hs := fun m => ht t m ht'
    exact q _ _ s3 (.lst (.inl (.inl (by rw [hid_out hph]; exact upd_same))) ((da.app db).up (s3.hd0 (by simp))))
  · rename_i xs ys
    unfold gPlus at h
    simp only at h
    split at h <;> cases h
    rename_i hl
    intro hs H v w ht h1 h2 Q q
    obtain ⟨p, vs, rfl, hp, da⟩ := dp_tuple h1
    obtain ⟨p2, ws, rfl, hp2, db⟩ := dp_tuple h2
    refine .inr ⟨p, p2, vs, ws, rfl, rfl, sqT_mono hid_sub hp, sqT_mono hid_sub hp2, lim_ok (by rw [da.len, db.len]; exact hl), fun e => ?_, fun _ e => ?_, fun _ _ t ht' => ?_⟩
    · subst e
      cases da
      exact q _ H (Step.refl H) h2
    · subst e
      cases db
      rw [List.append_nil] at q
      exact q _ H (Step.refl H) h1
    · have s3 : Step [] H (upd H t (.tup (vs ++ ws))) := Step.new ht'
      have hph : t ∉ hs := fun m => ht t m ht'
      exact q _ _ s3 (.tup (.inl (.inl (by rw [hid_out hph]; exact upd_same))) ((da.app db).up (s3.hd0 (by simp))))) ha hb
end
section
variable {X : Cx} {K : PySem.W.Frag} {a b e : Expr} {p pos : Pos} {fa fb fe : FE}
theorem rt_cmp {op : CmpOp} {r : R2} {g : PyData → PyData → Option PyData} (ho : OpR X (compareOp op) r) (hr : ∀ x y z, g x y = some z → RD X.K r x y z) (ha : RE X a fa) (hb : RE X b fb) (hm : behindInMarks op b = false) : RT X (.Compare a [op] [b] pos) (fTru (fOp g fa fb)) := .mk fun st d c h => by
  obtain ⟨⟨w, c0⟩, h0, h⟩ := bind_some h
  obtain ⟨⟨x, c1⟩, h1, h0⟩ := bind_some h0
  obtain ⟨⟨y, c2⟩, h2, h0⟩ := bind_some h0
  obtain ⟨z, h3, e⟩ := map_some h0
  cases e
  simp only at h
  split at h <;> cases h
  exact RT.of (pt_cmpR ho (pwE a) (pwE b) hm) fun hs ps σ H R Q q => ed_op (ha _ _ _ h1) (hb _ _ _ h2) (hr _ _ _ h3) hs ps σ H R _ fun v H2 s2 R2 d2 => ⟨_, dp_bool d2, q H2 s2 R2⟩
theorem rd_eq {x y z : PyData} (h : gEq x y = some z) : RD K (rEqD K) x y z := by
  unfold gEq at h
  split at h <;> cases h
  rename_i hs
  exact fun _ H v w _ h1 h2 Q q => ⟨x, y, h1.up hid_sub, h2.up hid_sub, hs.1, hs.2, q _ H (Step.refl H) (.bl _)⟩
theorem rd_ne {x y z : PyData} (h : gNe x y = some z) : RD K (rNeD K) x y z := by
  unfold gNe at h
  split at h <;> cases h
  rename_i hs
  exact fun _ H v w _ h1 h2 Q q => ⟨x, y, h1.up hid_sub, h2.up hid_sub, hs.1, hs.2, q _ H (Step.refl H) (.bl _)⟩
theorem rd_isN {x y z : PyData} (h : gIsN x y = some z) : RD K (fun x y H Q => y = .non ∧ Q (.bl (decide (x = .non))) H) x y z := by
  unfold gIsN at h
  split at h <;> cases h
  rename_i hs
  cases isNone_eq hs
  exact fun _ H v w _ h1 h2 Q q => ⟨dp_non h2, q _ H (Step.refl H) (by rw [isNone_dp h1]; exact .bl _)⟩
theorem rd_notN {x y z : PyData} (h : gNotN x y = some z) : RD K (fun x y H Q => y = .non ∧ Q (.bl (!decide (x = .non))) H) x y z := by
  unfold gNotN at h
  split at h <;> cases h
  rename_i hs
  cases isNone_eq hs
  exact fun _ H v w _ h1 h2 Q q => ⟨dp_non h2, q _ H (Step.refl H) (by rw [isNone_dp h1]; exact .bl _)⟩
theorem rt_lt (ha : RE X a fa) (hb : RE X b fb) : RT X (.Compare a [.Lt] [b] pos) (fTru (fOp (gCmp fun i j => decide (i < j)) fa fb)) := rt_cmp op_lt (fun _ _ _ h => rd_cmp h) ha hb (nomark _)
theorem rt_le (ha : RE X a fa) (hb : RE X b fb) : RT X (.Compare a [.LtE] [b] pos) (fTru (fOp (gCmp fun i j => decide (i ≤ j)) fa fb)) := rt_cmp op_le (fun _ _ _ h => rd_cmp h) ha hb (nomark _)
theorem rt_gt (ha : RE X a fa) (hb : RE X b fb) : RT X (.Compare a [.Gt] [b] pos) (fTru (fOp (gCmp fun i j => decide (j < i)) fa fb)) := rt_cmp op_gt (fun _ _ _ h => rd_cmp h) ha hb (nomark _)
theorem rt_ge (ha : RE X a fa) (hb : RE X b fb) : RT X (.Compare a [.GtE] [b] pos) (fTru (fOp (gCmp fun i j => decide (j ≤ i)) fa fb)) := rt_cmp op_ge (fun _ _ _ h => rd_cmp h) ha hb (nomark _)
theorem rt_eq (hu : X.A.units + 64 < cLine) (ha : RE X a fa) (hb : RE X b fb) : RT X (.Compare a [.Eq] [b] pos) (fTru (fOp gEq fa fb)) := rt_cmp (op_eqD hu) (fun _ _ _ h => rd_eq h) ha hb (nomark _)
theorem rt_ne (hu : X.A.units + 64 < cLine) (ha : RE X a fa) (hb : RE X b fb) : RT X (.Compare a [.NotEq] [b] pos) (fTru (fOp gNe fa fb)) := rt_cmp (op_neD hu) (fun _ _ _ h => rd_ne h) ha hb (nomark _)
theorem rt_isN (ha : RE X a fa) (hb : RE X b fb) (hm : behindInMarks .Is b = false := by exact nomark _) : RT X (.Compare a [.Is] [b] pos) (fTru (fOp gIsN fa fb)) := rt_cmp op_isN (fun _ _ _ h => rd_isN h) ha hb hm
theorem rt_notN (ha : RE X a fa) (hb : RE X b fb) (hm : behindInMarks .IsNot b = false := by exact nomark _) : RT X (.Compare a [.IsNot] [b] pos) (fTru (fOp gNotN fa fb)) := rt_cmp op_notN (fun _ _ _ h => rd_notN h) ha hb hm
theorem rt_tyIs {y : Str} {T : String} {p1 p2 p3 : Pos} (hg : Gl X "type") (hm : X.mg "type" = none) (hgT : Gl X y) (hmT : X.mg y = none) (hvT : bootBuiltins y = some (.type T)) (ha : RE X a fe) (he : starEach [a] X.env = (false, eval a X.env) :: starEach [] X.env := by with_reducible first | exact sn_name | exact sn_const | exact sn_tup | exact sn_list | exact sn_bin | exact sn_un | exact sn_bool | exact sn_cmp | exact sn_call | exact sn_sub | exact sn_if | exact sn_attr | exact sn_lc)
    (hnT : y ≠ "__name__" := by decide) (hdT : (y == ("__debug__" : Str)) = false := by decide) :
    RT X (.Compare (.Call (.Name "type" p1) [a] [] p2) [.Is] [.Name y p3] pos) (fTru (fUn (gTyIs T) fe)) := .mk fun st d c h => by
  obtain ⟨⟨w, c0⟩, h0, h⟩ := bind_some h
  obtain ⟨⟨z, c1⟩, h1, h0⟩ := bind_some h0
  obtain ⟨w, h2, e⟩ := map_some h0
  cases e
  cases h2
  cases h
  refine RT.of (pt_cmpR op_isTyB (pe_callTy call_typeD hg hm (by decide +kernel) (pa_cons (pwE a) pa_nil he) (he := he)) (pe_bltn (v := .ty T) hgT hmT hvT rfl hnT hdT) (nomark _)) fun hs ps σ H R Q q => ha _ _ _ h1 hs ps σ H R _ fun v H2 s2 R2 d2 => ?_
  exact ⟨v, z, rfl, d2.up hid_sub, _, _, rfl, rfl, _, rfl, q H2 s2 R2⟩
end
/-- a tuple that stands in the written part -/
theorem dp_kt {K : PySem.W.Frag} {H : Hp} {a : Addr} {dd : Option Addr} {its : Array Value} {n : Nat} {sl : Array (Option Value)} {vs : List V} {ds : List PyData} (h : K.lookup a = some ⟨.type "tuple", dd, .seq its n, sl⟩) (hz : its.size ≤ sizeLine) (r : Vals vs its.toList) (d : ∀ H, DpAll K H vs ds) : Dp K H (.ref a) (.tuple ds) :=
  .tup (.inr ⟨_, its, n, h, rfl, rfl, hz, r⟩) (d H)
end DL


set_option Elab.async false
set_option linter.all false
set_option maxRecDepth 100000
set_option maxHeartbeats 400000
namespace DL
open PySem PySem.Spec L2
open PyProof.Rows hiding St

/-! ### zip and enumerate -/
def enumD : Nat → List PyData → List PyData
  | _, [] => []
  | k, x :: xs => .tuple [.int (k : Nat), x] :: enumD (k + 1) xs
def zipD : List PyData → List PyData → List PyData
  | x :: xs, y :: ys => .tuple [x, y] :: zipD xs ys
  | _, _ => []
theorem enumD_len : ∀ (k : Nat) (xs : List PyData), (enumD k xs).length = xs.length
  | _, [] => rfl
  | k, x :: xs => by simp only [enumD, List.length_cons, enumD_len (k + 1) xs]
theorem enumD_get : ∀ (k : Nat) (xs : List PyData) (i : Nat) (x : PyData), xs[i]? = some x → (enumD k xs)[i]? = some (.tuple [.int ((k + i : Nat) : Int), x])
  | _, [], i, x, h => by simp at h
  | k, y :: ys, 0, x, h => by
    have e : y = x := by simpa using h
    subst e
    rfl
  | k, y :: ys, i + 1, x, h => by
    have h' : ys[i]? = some x := by simpa using h
    have := enumD_get (k + 1) ys i x h'
    show (enumD (k + 1) ys)[i]? = _
    rw [this, show k + 1 + i = k + (i + 1) from by omega]
theorem zipD_len : ∀ (xs ys : List PyData), (zipD xs ys).length = min xs.length ys.length
  | [], ys => by simp [zipD]
  | x :: xs, [] => by simp [zipD]
  | x :: xs, y :: ys => by simp only [zipD, List.length_cons, zipD_len xs ys]; omega
theorem zipD_get : ∀ (xs ys : List PyData) (i : Nat) (x y : PyData), xs[i]? = some x → ys[i]? = some y → (zipD xs ys)[i]? = some (.tuple [x, y])
  | [], ys, i, x, y, h, _ => by simp at h
  | a :: xs, [], i, x, y, _, h => by simp at h
  | a :: xs, b :: ys, 0, x, y, h, g => by
    have e : a = x := by simpa using h
    have e2 : b = y := by simpa using g
    subst e e2
    rfl
  | a :: xs, b :: ys, i + 1, x, y, h, g => zipD_get xs ys i x y (by simpa using h) (by simpa using g)
/-- a pair that is made on the way -/
theorem pair_new {K : PySem.W.Frag} {hs hs' : List Addr} {H2 H3 : Hp} {T : Addr} {x y : V} {d e : PyData} (g : GD hs H2 H3) (ht : H3 T = none) (h1 : ∀ a ∈ hs', a ∉ hs → H2 a = none) (h2 : ∀ a ∈ hs', H3 a ≠ none) (dx : Dp K (hid hs H2) x d) (dy : Dp K (hid hs H2) y e) :
    Dp K (hid hs' (upd H3 T (.tup [x, y]))) (.ref T) (.tuple [d, e]) := by
  have n : T ∉ hs' := fun m => h2 T m ht
  have sb : Sub (hid hs H2) (hid hs' (upd H3 T (.tup [x, y]))) := fun a o q => by
    have q' := g.sub (hs' := hs') h1 a o q
    obtain ⟨m, q2⟩ := hid_some q'
    rw [hid_out m, upd_ne (fun z => by rw [z, ht] at q2; cases q2)]
    exact q2
  exact .tup (.inl (.inl (by rw [hid_out n]; exact upd_same))) (.cons (dx.up sb) (.cons (dy.up sb) .nil))
theorem walk_dE {K : PySem.W.Frag} {hs : List Addr} {H2 : Hp} {p : Addr} {ws : List V} {ds : List PyData} (hp : SqL K (hid hs H2) p ws) (da : DpAll K (hid hs H2) ws ds) : Walk (Ite K p) (enumD 0 ds).length (GD hs H2) (YD K hs H2 (enumD 0 ds)) := by
  rw [enumD_len, ← da.len]
  refine (walk_enum (K := K) (a := p) (xs := ws)).mono (fun H3 g => sqL_gd g hp) fun i H3 x H' hi g y => ?_
  obtain ⟨T, u, v, rfl, ht, rfl, h1, h2⟩ := y
  cases h1
  obtain ⟨d, h3, h4⟩ := da.getV h2
  refine ⟨Step.new ht, _, enumD_get 0 ds i d h3, fun hs' q1 q2 => ?_⟩
  rw [Nat.zero_add]
  exact pair_new g ht q1 q2 (.int _) h4
theorem walk_dZ {K : PySem.W.Frag} {hs : List Addr} {H2 : Hp} {p q : Addr} {ws us : List V} {ds es : List PyData} (hp : SqL K (hid hs H2) p ws) (hq : SqL K (hid hs H2) q us) (da : DpAll K (hid hs H2) ws ds) (db : DpAll K (hid hs H2) us es) : Walk (Itz K p q) (zipD ds es).length (GD hs H2) (YD K hs H2 (zipD ds es)) := by
  refine (walk_zip (K := K) (a := p) (b := q) (xs := ws) (ys := us) (by rw [zipD_len, da.len, db.len])).mono (fun H3 g => ⟨sqL_gd g hp, sqL_gd g hq⟩) fun i H3 x H' hi g y => ?_
  obtain ⟨T, u, v, rfl, ht, rfl, h1, h2⟩ := y
  obtain ⟨d, h3, h4⟩ := da.getV h1
  obtain ⟨e, h5, h6⟩ := db.getV h2
  exact ⟨Step.new ht, _, zipD_get ds es i d e h3 h5, fun hs' q1 q2 => pair_new g ht q1 q2 h4 h6⟩
section
variable {K : PySem.W.Frag} {a b : Addr} {xs ys : List V}
theorem walk_zipTT {n : Nat} (hn : n = min xs.length ys.length) : Walk (RZ.ItzT K a b) n (fun H => SqT K H a xs ∧ SqT K H b ys) (YPair (fun i => xs[i]?) (fun i => ys[i]?)) := by
  subst hn
  refine ⟨fun i _ hi q => ?_, fun _ q => ⟨xs, ys, q.1, q.2, by omega⟩, fun i H v H' _ q y => ?_⟩
  · have h1 : i < xs.length := by omega
    have h2 : i < ys.length := by omega
    exact ⟨xs, ys, xs[i], ys[i], q.1, q.2, by simp [h1], by simp [h2]⟩
  · obtain ⟨T, x, z, h1, h2, h3, h4, h5⟩ := y
    exact ⟨T, x, z, h1, h2, h3, h4 xs q.1, h5 ys q.2⟩
end
theorem walk_dZT {K : PySem.W.Frag} {hs : List Addr} {H2 : Hp} {p q : Addr} {ws us : List V} {ds es : List PyData} (hp : SqT K (hid hs H2) p ws) (hq : SqT K (hid hs H2) q us) (da : DpAll K (hid hs H2) ws ds) (db : DpAll K (hid hs H2) us es) : Walk (RZ.ItzT K p q) (zipD ds es).length (GD hs H2) (YD K hs H2 (zipD ds es)) := by
  refine (walk_zipTT (K := K) (a := p) (b := q) (xs := ws) (ys := us) (by rw [zipD_len, da.len, db.len])).mono (fun H3 g => ⟨sqT_gd g hp, sqT_gd g hq⟩) fun i H3 x H' hi g y => ?_
  obtain ⟨T, u, v, rfl, ht, rfl, h1, h2⟩ := y
  obtain ⟨d, h3, h4⟩ := da.getV h1
  obtain ⟨e, h5, h6⟩ := db.getV h2
  exact ⟨Step.new ht, _, zipD_get ds es i d e h3 h5, fun hs' q1 q2 => pair_new g ht q1 q2 h4 h6⟩
section
variable {X : Cx} {a b e : Expr} {fa : FA} {p pos : Pos}
def fEnum (a : FA) : FL := fun st => (a st).bind fun q => match q.1 with
  | [.dat (.list xs)] => some (enumD 0 xs, q.2)
  | _ => none
def fZip (a : FA) : FL := fun st => (a st).bind fun q => match q.1 with
  | [.dat (.list xs), .dat (.list ys)] => some (zipD xs ys, q.2)
  | [.dat (.tuple xs), .dat (.tuple ys)] => some (zipD xs ys, q.2)
  | _ => none
theorem ri_enum {elts : List Expr} {kk : Nat} {tpos : Pos} (hg : Gl X "enumerate") (hm : X.mg "enumerate" = none) (ha : RA X [a] fa) (hs : starEach [a] X.env = [(false, eval a X.env)] := by rfl) : RI X (.Tuple elts kk tpos) (.Call (.Name "enumerate" p) [a] [] pos) (fEnum fa) := .mk fun st xs c h => by
  obtain ⟨⟨y, c1⟩, h1, h⟩ := bind_some h
  simp only at h
  split at h <;> cases h
  exact RI.of (pi_enum hg hm (pwA [a]) hs) fun hs ps σ H R Q q => ha _ _ _ h1 hs ps σ H R _ fun vs H2 s2 R2 p2 => by
    obtain ⟨v, rfl, d⟩ := dpa1 (paired_dat (ds := [_]) p2)
    obtain ⟨p, ws, rfl, hp, da⟩ := dp_list d
    exact ⟨p, ws, rfl, sqL_mono hid_sub hp, q _ H2 s2 R2 (walk_dE hp da)⟩
theorem ri_zip {elts : List Expr} {kk : Nat} {tpos : Pos} (hg : Gl X "zip") (hm : X.mg "zip" = none) (ha : RA X [a, b] fa) (hs : starEach [a, b] X.env = (false, eval a X.env) :: starEach [b] X.env := by rfl)
    (hpl : (backTo pos (starEach [b] X.env)).any (·.1) = false := by rfl) : RI X (.Tuple elts kk tpos) (.Call (.Name "zip" p) [a, b] [] pos) (fZip fa) := .mk fun st xs c h => by
  obtain ⟨⟨y, c1⟩, h1, h⟩ := bind_some h
  simp only at h
  split at h
  · cases h
    exact RI.of (RZ.pi_zipA hg hm (pwA [a, b]) hs hpl) fun hs ps σ H R Q q => ha _ _ _ h1 hs ps σ H R _ fun vs H2 s2 R2 p2 => by
      obtain ⟨v, w, rfl, d, d2⟩ := dpa2 (paired_dat (ds := [_, _]) p2)
      obtain ⟨p, ws, rfl, hp, da⟩ := dp_list d
      obtain ⟨p', us, rfl, hp', db⟩ := dp_list d2
      exact ⟨p, p', ws, us, rfl, .inl ⟨sqL_mono hid_sub hp, sqL_mono hid_sub hp', q _ H2 s2 R2 (walk_dZ hp hp' da db)⟩⟩
  · cases h
    exact RI.of (RZ.pi_zipA hg hm (pwA [a, b]) hs hpl) fun hs ps σ H R Q q => ha _ _ _ h1 hs ps σ H R _ fun vs H2 s2 R2 p2 => by
      obtain ⟨v, w, rfl, d, d2⟩ := dpa2 (paired_dat (ds := [_, _]) p2)
      obtain ⟨p, ws, rfl, hp, da⟩ := dp_tuple d
      obtain ⟨p', us, rfl, hp', db⟩ := dp_tuple d2
      exact ⟨p, p', ws, us, rfl, .inr ⟨sqT_mono hid_sub hp, sqT_mono hid_sub hp', q _ H2 s2 R2 (walk_dZT hp hp' da db)⟩⟩
  · cases h
def gSum : List PyData → Option PyData
  | [.list xs] => (intsOf xs).map fun ns => .int ns.sum
  | _ => none
theorem re_sum (hc : X.calm = true) (hg : Gl X "sum") (hm : X.mg "sum" = none) (ha : RA X [a] fa) (he : starEach [a] X.env = (false, eval a X.env) :: starEach [] X.env := by with_reducible first | exact sn_name | exact sn_call | exact sn_lc) : RE X (.Call (.Name "sum" p) [a] [] pos) (fBi gSum fa) :=
  re_bi (cr_sum hc) (fun xs z h => by
    unfold gSum at h
    split at h
    · obtain ⟨bs, h1, rfl⟩ := map_some h
      intro hs H vs _ d Q q
      obtain ⟨v, rfl, d1⟩ := dpa1 d
      obtain ⟨p, ws, rfl, hp, da⟩ := dp_list d1
      rw [ints_dp h1 da] at hp
      exact ⟨p, bs, rfl, sqL_mono hid_sub hp, q _ H (Step.refl H) (.int _)⟩
    · cases h) hg hm (by decide +kernel) ha (he := he)
end

/-! ### calls by name, the names in another order -/
def perm {α : Type} (is : List Nat) (l : List α) : List α := is.filterMap fun i => l[i]?
theorem Paired.get? {α β : Type} {R : α → β → Prop} : ∀ {xs : List α} {ys : List β} {i : Nat}, Paired R xs ys → (∃ x y, xs[i]? = some x ∧ ys[i]? = some y ∧ R x y) ∨ (xs[i]? = none ∧ ys[i]? = none)
  | _, _, i, .nil => .inr ⟨by simp, by simp⟩
  | _, _, 0, .cons a t => .inl ⟨_, _, rfl, rfl, a⟩
  | _, _, i + 1, .cons a t => by simpa using Paired.get? (i := i) t
theorem paired_perm {α β : Type} {R : α → β → Prop} {xs : List α} {ys : List β} (h : Paired R xs ys) : ∀ is : List Nat, Paired R (perm is xs) (perm is ys)
  | [] => .nil
  | i :: is => by
    have t := paired_perm h is
    unfold perm at t ⊢
    rcases Paired.get? (i := i) h with ⟨x, y, h1, h2, h3⟩ | ⟨h1, h2⟩
    · rw [List.filterMap_cons_some h1, List.filterMap_cons_some h2]
      exact .cons h3 t
    · rw [List.filterMap_cons_none h1, List.filterMap_cons_none h2]
      exact t
def fPerm (is : List Nat) (a : FA) : FA := fun st => (a st).bind fun p => if p.1.length = is.length then some (perm is p.1, p.2) else none
def tP (is : List Nat) (ta : TA) : TA := fun σ H Q => ta σ H fun vs H1 => vs.length = is.length ∧ Q (perm is vs) H1
theorem eda_perm {K : PySem.W.Frag} {is : List Nat} {ta : TA} {fa : FA} {st : Sta} {d : List SV} {c : Cs} (h : fPerm is fa st = some (d, c)) (ha : ∀ st d c, fa st = some (d, c) → EDA K ta st d c) : EDA K (tP is ta) st d c := by
  obtain ⟨⟨xs, c1⟩, h1, h⟩ := bind_some h
  simp only at h
  split at h <;> cases h
  rename_i hl
  refine fun hs ps σ H R Q q => ha _ _ _ h1 hs ps σ H R _ fun vs H2 s2 R2 p2 => ⟨by rw [Paired.length p2]; exact hl, q _ H2 s2 R2 (paired_perm p2 is)⟩
structure AtP (P : Program) (w : World) (K : PySem.W.Frag) (mg : Str → Option Value) (base : Heap) (k : Nat) (x : Str) (ns ks : List Str) (is : List Nat) (F : FnS) : Prop where
  ex : ∃ (f : Addr) (fd : FuncData), mg x = some (.ref f) ∧ PySem.W.keepIn K (.ref f) = true ∧ FnG P w K mg base k f fd ns F ∧
    ∀ (s : Shared) (us : List Value), us.length = is.length → BindsTo s fd ⟨[], ks.zip us⟩ (ns.zip (perm is us))
theorem atp_mk {P : Program} {w : World} {K : PySem.W.Frag} {mg : Str → Option Value} {base : Heap} {k : Nat} {x : Str} {st : Stmt} {f : Addr} {fd : FuncData} {ns ks : List Str} {is : List Nat} {F : FnS} (U : Fun K x x st f fd) (hm : mg x = some (.ref f)) (G : FnG P w K mg base k f fd ns F)
    (hb : ∀ (kV doc pm : Value) (an : Option Addr) (cdv ct : Value) (us : List Value), us.length = is.length → bindArgs (PySem.W.fnOf x x (defArgs st) (defBody st) (defScope st) .none kV doc pm an cdv ct) ⟨[], ks.zip us⟩ = pure (ns.zip (perm is us))) : AtP P w K mg base k x ns ks is F := by
  obtain ⟨oc, od, kV, doc, pm, an, cdv, ct, osl, e, lk, hcd⟩ := U.ex
  refine ⟨f, fd, hm, U.kp, G, fun s us hl => ?_⟩
  subst e
  exact .of_eq (hb kV doc pm an cdv ct us hl)
section
variable {X : Cx} {k : Nat} {x : Str} {ns ks : List Str} {is : List Nat} {F : FnS} {e : Expr} {es : List Expr} {p pos kpos : Pos} {fa fk : FA} {fe : FE} {kws : List Keyword} {nm : Option Str}
theorem pe_callGkp (C : AtP X.prog X.w X.K X.mg X.base k x ns ks is F) (hgd : X.A.guards = some []) (hr : Room k X.A) (hg : Gl X x) (hall : (backToKw pos (keywordEach kws X.env)).all (·.1.isSome) = true := by rfl) (hks : (backToKw pos (keywordEach kws X.env)).filterMap (·.1) = ks := by rfl) (hdb : (x == ("__debug__" : Str)) = false := by decide)
    (hpl : ((backTo pos (starEach [] X.env)).any (·.1) || (backToKw pos (keywordEach kws X.env)).any (·.1.isNone)) = false := by rfl) : PE X (.Call (.Name x p) [] kws pos) (tG X.K F (tP is (wK X kws))) := by
  obtain ⟨f, fd, hm, hk, G, hb⟩ := C.ex
  refine ⟨fun pins s σ H Q I h => ?_⟩
  refine wpAny_Call_Name_kw (ld_glob I hg hm ?_ hdb)
  refine PySem.W.callWith_KW0 (h₀ := X.base) I.ok.mod.kin hk hall (thn ((pwK kws).run pos pins s σ H _ I h) fun us s1 ⟨vs, H1, I1, r, hl, hs, ps, cs, c, xs, r2, a1, a2, a3, a4⟩ => ⟨I1.kIn, ?_⟩) hpl
  have b := hb s1 us (by rw [← r.length]; exact hl)
  rw [hks]
  exact run_g (args := ⟨[], ks.zip us⟩) G hgd hr I1 b (paired_perm r is) a1 a2 a3 a4
theorem re_callkp (C : AtP X.prog X.w X.K X.mg X.base k x ns ks is F) (hgd : X.A.guards = some []) (hr : Room k X.A) (hg : Gl X x) (ha : RK X kws fa) (hall : (backToKw pos (keywordEach kws X.env)).all (·.1.isSome) = true := by rfl) (hks : (backToKw pos (keywordEach kws X.env)).filterMap (·.1) = ks := by rfl) (hdb : (x == ("__debug__" : Str)) = false := by decide)
    (hpl : ((backTo pos (starEach [] X.env)).any (·.1) || (backToKw pos (keywordEach kws X.env)).any (·.1.isNone)) = false := by rfl) : RE X (.Call (.Name x p) [] kws pos) (fCall F (fPerm is fa)) := .mk fun st d c h => RE.of (pe_callGkp C hgd hr hg hall hks hdb hpl) (ed_G h fun st d c h => eda_perm h ha.h)
end

/-! ### append -/
/-- a list of one's own is changed -/
theorem Rel.putL {K : PySem.W.Frag} {hs ps : List Addr} {σ : St} {H : Hp} {st : Sta} (R : Rel K hs ps σ H st) {c : Nat} {p : Addr} {xs xs' : List PyData} {vs vs' : List V} (hp : ps[c]? = some p) (hx : st.cs[c]? = some xs) (hv : H p = some (.lst vs)) (da : DpAll K (hid hs H) vs' xs') :
    Step ps H (upd H p (.lst vs')) ∧ Rel K hs ps σ (upd H p (.lst vs')) ⟨st.ds, st.cs.set c xs'⟩ := by
  have hin := R.hr.sub p (List.mem_of_getElem? hp)
  have sb : Sub (hid hs H) (hid hs (upd H p (.lst vs'))) := fun a o e => by
    obtain ⟨n, k⟩ := hid_some e
    rw [hid_out n, upd_ne (fun z => n (by rw [z]; exact hin))]; exact k
  refine ⟨fun a o n e => by rw [upd_ne (fun z => n (by rw [z]; exact List.mem_of_getElem? hp))]; exact e, R.slots sb ⟨R.hr.sub, R.hr.nd, by simp [R.hr.len], fun a ma => ?_, fun i q ys k1 k2 => ?_⟩⟩
  · by_cases e : a = p
    · rw [e, upd_same]; simp
    · rw [upd_ne e]; exact R.hr.trk a ma
  · by_cases e : c = i
    · subst e
      rw [hp] at k1
      cases k1
      have hl : c < st.cs.length := by
        by_cases hl : c < st.cs.length
        · exact hl
        · rw [List.getElem?_eq_none (by omega)] at hx; cases hx
      rw [List.getElem?_set_self hl] at k2
      cases k2
      exact ⟨_, upd_same, da.up sb⟩
    · rw [List.getElem?_set_ne e] at k2
      obtain ⟨ws, q1, q2⟩ := R.hr.cel i q ys k1 k2
      have hne : q ≠ p := fun z => by
        subst z
        have h1 : c < ps.length := by
          by_cases hl : c < ps.length
          · exact hl
          · rw [List.getElem?_eq_none (by omega)] at hp; cases hp
        have h2 : i < ps.length := by
          by_cases hl : i < ps.length
          · exact hl
          · rw [List.getElem?_eq_none (by omega)] at k1; cases k1
        exact e ((List.getElem_inj R.hr.nd).mp (by
          rw [List.getElem?_eq_getElem h1] at hp
          rw [List.getElem?_eq_getElem h2] at k1
          rw [Option.some.inj hp, Option.some.inj k1]))
      exact ⟨ws, by rw [upd_ne hne]; exact q1, q2.up sb⟩
/-- x.append(e), x a list of one's own -/
def fApp (i : Nat) (e : FE) : FS := fun st => (e st).bind fun p => match st.ds[i]? with
  | some (some (.cel c)) => (p.2[c]?).bind fun xs => if xs.length < 100000 then some (.nx ⟨st.ds, p.2.set c (xs ++ [p.1])⟩) else none
  | _ => none
section
variable {X : Cx} {n0 : Nat} {e : Expr} {fe : FE} {p pos : Pos}
theorem rs_app {i : Nat} {x : Str} {p1 apos cpos : Pos} (hN : X.N[i]? = some x) (hv : Vis X.env.scope x) (h : RE X e fe) (hd : (x == ("__debug__" : Str)) = false := by decide) (hcd : (x == ("__classdict__" : Str)) = false := by decide)
    (hbase : attributeBase (.Name x p1) "append" X.env (eval (.Name x p1) X.env) = eval (.Name x p1) X.env := by rfl)
    (hfew : ((backTo cpos (starEach (e :: []) X.env)).all (fun x => !x.1) && (backToKw cpos (keywordEach [] X.env)).all (fun x => x.1.isSome)
      && decide ((e :: ([] : List Expr)).length + ([] : List Keyword).length + (if ([] : List Keyword).isEmpty then 0 else 1) < 30)) = true := by rfl)
    (hline : (apos.endLine == cpos.line) = true := by rfl) (hs : starEach (e :: []) X.env = (false, eval e X.env) :: starEach [] X.env := by rfl) (hplain : (backTo cpos (starEach [] X.env)).any (·.1) = false := by rfl)
    (hsw : swapsWith (.Call (.Attribute (.Name x p1) "append" apos) [e] [] cpos) none pos.line X.env = pure false := by rfl) :
    RS X n0 (.Expr (.Call (.Attribute (.Name x p1) "append" apos) [e] [] cpos) pos) (fApp i fe) := .mk fun st o hq => by
  obtain ⟨⟨d, c⟩, e1, hq⟩ := bind_some hq
  simp only at hq
  split at hq
  · rename_i k es
    obtain ⟨xs, ex, hq⟩ := bind_some hq
    by_cases hlen : xs.length < 100000
    rotate_left
    · rw [if_neg hlen] at hq; cases hq
    rw [if_pos hlen] at hq
    cases hq
    refine RS.of (ps_expr (pe_bm PySem.F.plainAttrs_list PySem.F.slot_list_append PySem.F.type_list_append mt_append (pe_var hN hv hd hcd) (pa_cons (pwE e) pa_nil hs) hbase hfew hline hs hplain) hsw) fun hs0 ps0 H0 i1 i2 hs ps σ H L R D q => ?_
    obtain ⟨w, w1, p, w2, rfl⟩ := R.slot i _ es
    have hc : k < st.cs.length := by
      by_cases hl : k < st.cs.length
      · exact hl
      · have := R.hr.len
        rw [List.getElem?_eq_none (by omega)] at w2; cases w2
    obtain ⟨ys, ey⟩ : ∃ ys, st.cs[k]? = some ys := ⟨_, List.getElem?_eq_getElem hc⟩
    obtain ⟨ws, z1, z2⟩ := R.hr.cel k p ys w2 ey
    refine ⟨_, w1, .inl ⟨rfl, ws, .inl (.inl z1)⟩, h _ _ _ e1 hs ps σ H R _ fun v H2 s2 R2 d2 => ?_⟩
    obtain ⟨vs, q1, q2⟩ := R2.hr.cel k p xs w2 ex
    obtain ⟨s4, R4⟩ := R2.putL w2 ex q1 (DpAll.app q2 (.cons d2 .nil))
    exact ⟨p, vs, v, rfl, rfl, q1, by rw [q2.len]; exact Nat.lt_trans hlen (by unfold sizeLine; decide : (100000 : Nat) < sizeLine), q hs ps σ _ ((L.step s2).step s4) R4⟩
  · cases hq
end

/-! ### so many times a list -/
theorem DpAll.rep {K : PySem.W.Frag} {H : Hp} {vs : List V} {xs : List PyData} (h : DpAll K H vs xs) : ∀ n : Nat, DpAll K H (List.replicate n vs).flatten (List.replicate n xs).flatten
  | 0 => .nil
  | n + 1 => by
    rw [List.replicate_succ, List.replicate_succ, List.flatten_cons, List.flatten_cons]
    exact DpAll.app h (DpAll.rep h n)
def fRep (a : FL) (b : FE) : FE := fun st => (a st).bind fun p => (b ⟨st.ds, p.2⟩).bind fun q => match q.1 with
  | .int k => if rngOk k = true ∧ p.1.length * k.toNat ≤ 100000 then some (.list (List.replicate k.toNat p.1).flatten, q.2) else none
  | _ => none
theorem re_rep {X : Cx} {a b : Expr} {pos : Pos} {fa : FL} {fb : FE} (ha : RL X a fa) (hb : RE X b fb) : RE X (.BinOp a .Mult b pos) (fRep fa fb) := .mk fun st d c h => by
  obtain ⟨⟨xs, c1⟩, h1, h⟩ := bind_some h
  obtain ⟨⟨y, c2⟩, h2, h⟩ := bind_some h
  simp only at h
  split at h
  · rename_i k
    by_cases hok : rngOk k = true ∧ xs.length * k.toNat ≤ 100000
    rotate_left
    · rw [if_neg hok] at h; cases h
    rw [if_pos hok] at h
    cases h
    have hk := of_decide_eq_true (show decide _ = true from hok.1)
    refine RE.of (pe_op op_rep (pwE a) (pwE b)) fun hs ps σ H R Q q => ha _ _ _ h1 hs ps σ H R _ fun p vs H2 hp s2 R2 e2 da => hb _ _ _ h2 (p :: hs) ps σ H2 R2 _ fun w H3 s3 R3 d3 => ?_
    cases dp_int d3
    have hph : p ∉ hs := fun m => R.hr.trk p m hp
    have e3 : H3 p = some (.lst vs) := s3 p _ (fun m => hph (R.hr.sub p m)) e2
    refine ⟨p, k, vs, rfl, rfl, e3, by omega, by omega, by rw [da.len]; exact lim_ok hok.2, fun t ht => ?_⟩
    have R4 := R3.less (fun a m => List.mem_cons_of_mem _ m) R.hr.sub
    have s4 : Step [] H3 (upd H3 t (.lst (List.replicate k.toNat vs).flatten)) := Step.new ht
    have hth : t ∉ hs := fun m => R4.hr.trk t m ht
    have da3 := (da.up (s3.hd0 R2.hr.sub)).up hid_cons_sub
    exact q _ _ ((s2.trans s3).trans (s4.mono (by simp))) (R4.step s4) (.lst (.inl (.inl (by rw [hid_out hth]; exact upd_same))) ((DpAll.rep da3 k.toNat).up (s4.hd0 (by simp))))
  · cases h

/-! ### slices of lists and of tuples; + of ints, lists, tuples -/
theorem DpAll.cut {K : PySem.W.Frag} {H : Hp} {vs : List V} {ds : List PyData} (da : DpAll K H vs ds) (lo hi : Option Int) : DpAll K H (cutV vs lo hi) (cutD ds lo hi) := by
  unfold cutV cutD
  rw [da.len]
  exact (da.dr _).tk _
theorem cutD_whole {ds : List PyData} {lo hi : Option Int} (h : HT.sIx ds.length 0 lo = 0 ∧ HT.sIx ds.length ds.length hi = ds.length) : cutD ds lo hi = ds := by
  unfold cutD
  rw [h.1, h.2, List.drop_zero, Nat.sub_zero, List.take_length]
def fSl (a : FE) (l u : Sta → Option (Option Int × Cs)) : FE := fun st => (a st).bind fun p => (l ⟨st.ds, p.2⟩).bind fun q => (u ⟨st.ds, q.2⟩).bind fun r => match p.1 with
  | .list xs => some (.list (cutD xs q.1 r.1), r.2)
  | .tuple xs => some (.tuple (cutD xs q.1 r.1), r.2)
  | _ => none
theorem sl_both {X : Cx} : SlR X (fun x lo hi H Q => rSlL X.K x lo hi H Q ∨ rSlA X.K x lo hi H Q) := by
  intro pins s σ H x v vl vu lo hi sl Q I rx hs pl pu h
  rcases h with h | h
  · exact sl_list pins s σ H _ v vl vu lo hi sl Q I rx hs pl pu h
  · exact sl_tupA pins s σ H _ v vl vu lo hi sl Q I rx hs pl pu h
theorem re_sl {X : Cx} {a : Expr} {pos : Pos} {fa : FE} {lo hi : Option Expr} {fl fu : Sta → Option (Option Int × Cs)} {p2 : Pos} (ha : RE X a fa) (hl : RO X lo fl) (hu : RO X hi fu) : RE X (.Subscript a (.Slice lo hi none p2) pos) (fSl fa fl fu) := .mk fun st d c h => by
  obtain ⟨⟨x, c1⟩, h1, h⟩ := bind_some h
  obtain ⟨⟨y, c2⟩, h2, h⟩ := bind_some h
  obtain ⟨⟨z, c3⟩, h3, h⟩ := bind_some h
  obtain ⟨tl, pl, kl⟩ := hl
  obtain ⟨tu, pu, ku⟩ := hu
  simp only at h
  split at h
  · cases h
    refine RE.of (pe_slice sl_both (pwE a) pl pu) fun hs ps σ H R Q q => ha _ _ _ h1 hs ps σ H R _ fun v H2 s2 R2 d2 => kl _ _ _ h2 hs ps σ H2 R2 _ fun H3 s3 R3 => ku _ _ _ h3 hs ps σ H3 R3 _ fun H4 s4 R4 => ?_
    obtain ⟨p, vs, rfl, hp, da⟩ := dp_list d2
    have sb := (s3.trans s4).hd0 R2.hr.sub
    refine .inl ⟨p, vs, rfl, sqL_mono hid_sub (sqL_mono sb hp), fun t ht => ?_⟩
    have da4 := DpAll.cut (da.up sb) y z
    have s5 : Step [] H4 (upd H4 t (.lst (cutV vs y z))) := Step.new ht
    have hth : t ∉ hs := fun m => R4.hr.trk t m ht
    exact q _ _ (((s2.trans s3).trans s4).trans (s5.mono (by simp))) (R4.step s5) (.lst (.inl (.inl (by rw [hid_out hth]; exact upd_same))) (da4.up (s5.hd0 (by simp))))
  · cases h
    refine RE.of (pe_slice sl_both (pwE a) pl pu) fun hs ps σ H R Q q => ha _ _ _ h1 hs ps σ H R _ fun v H2 s2 R2 d2 => kl _ _ _ h2 hs ps σ H2 R2 _ fun H3 s3 R3 => ku _ _ _ h3 hs ps σ H3 R3 _ fun H4 s4 R4 => ?_
    obtain ⟨p, vs, rfl, hp, da⟩ := dp_tuple d2
    have sb := (s3.trans s4).hd0 R2.hr.sub
    refine .inr ⟨p, vs, rfl, sqT_mono hid_sub (sqT_mono sb hp), fun hw => ?_, fun hw t ht => ?_⟩
    · rw [da.len] at hw
      rw [cutD_whole hw] at q
      exact q _ _ ((s2.trans s3).trans s4) R4 (d2.up sb)
    · have da4 := DpAll.cut (da.up sb) y z
      have s5 : Step [] H4 (upd H4 t (.tup (cutV vs y z))) := Step.new ht
      have hth : t ∉ hs := fun m => R4.hr.trk t m ht
      exact q _ _ (((s2.trans s3).trans s4).trans (s5.mono (by simp))) (R4.step s5) (.tup (.inl (.inl (by rw [hid_out hth]; exact upd_same))) (da4.up (s5.hd0 (by simp))))
  · cases h
theorem rg_tupK {X : Cx} {es : List Expr} {pos : Pos} {k n : Nat} {t : TGs} {js : List Nat} {r : Sta → List PyData → Option Sta} (K0 : PySem.W.Frag) (hK : X.K = K0) (hc : X.calm = true) (h : RGs X es t js r) (hn : (assignEach es X.env).length = n := by rfl) (hst : (assignEach es X.env).findIdx? (·.1) = none := by rfl) : RG X (.Tuple es k pos) (gTup K0 n t) js (aTup n r) := by
  subst hK
  exact rg_tup hc h hn hst
theorem dpa3 {K : PySem.W.Frag} {H : Hp} {vs : List V} {d d' d2 : PyData} (h : DpAll K H vs [d, d', d2]) : ∃ v w u, vs = [v, w, u] ∧ Dp K H v d ∧ Dp K H w d' ∧ Dp K H u d2 := by
  cases h with
  | cons a t =>
    obtain ⟨w, u, rfl, h2, h3⟩ := dpa2 t
    exact ⟨_, _, _, rfl, a, h2, h3⟩
def fPar3 (i j l : Nat) (a : FA) : FS := fun st => (a st).bind fun p => match p.1 with
  | [.dat x, .dat y, .dat z] => some (.nx ⟨((st.ds.set i (some (.dat x))).set j (some (.dat y))).set l (some (.dat z)), p.2⟩)
  | _ => none
theorem rs_par3 {X : Cx} {n0 : Nat} {a b c : Expr} {fa : FA} {pos : Pos} {i j l : Nat} {x y z : Str} {px py pz pt : Pos} {kt k2 pt2} (ha : RA X [a, b, c] fa)
    {P : PS X (.Assign [.Tuple [.Name x px, .Name y py, .Name z pz] kt pt] (.Tuple [a, b, c] k2 pt2) pos) (tPar3 i j l (wA X [a, b, c]))} : RS X n0 (.Assign [.Tuple [.Name x px, .Name y py, .Name z pz] kt pt] (.Tuple [a, b, c] k2 pt2) pos) (fPar3 i j l fa) := .mk fun st o hq => by
  obtain ⟨⟨xs, c⟩, e1, hq⟩ := bind_some hq
  simp only at hq
  split at hq
  · cases hq
    refine RS.of P fun hs0 ps0 H0 i1 i2 hs ps σ H L R D q => ha _ _ _ e1 hs ps σ H R _ fun vs H2 s2 R2 p2 => ?_
    obtain ⟨v, w, u, rfl, d1, d2, d3⟩ := dpa3 (paired_dat (ds := [_, _, _]) p2)
    exact ⟨v, w, u, rfl, q hs ps _ H2 (L.step s2) (((R2.set i (x := .dat _) d1).set j (x := .dat _) d2).set l (x := .dat _) d3)⟩
  · cases hq
end DL


set_option Elab.async false
set_option linter.all false
set_option maxRecDepth 100000
set_option maxHeartbeats 400000
namespace K26
open PySem PySem.Spec L2 DL
open PyProof.Rows hiding St
/-! the text by places -/
def topS (i : Nat) : Stmt := PySem.Challenge.pw_platelights_k26_turns_joined_back_times.main.body.getD i (.Pass ⟨0, 0, 0, 0⟩)
abbrev s_is_whole : Stmt := topS 9
abbrev n_is_whole : List Str := ["value"]
abbrev n0_is_whole : Nat := 0
theorem sc_is_whole : FnScope n_is_whole ["value"] (defScope s_is_whole) := ⟨rfl, rfl, rfl, by decide +kernel, rfl, by decide +kernel, by decide +kernel⟩
abbrev s_is_row : Stmt := topS 10
abbrev n_is_row : List Str := ["value", "many", "part"]
abbrev n0_is_row : Nat := 0
theorem sc_is_row : FnScope n_is_row ["value", "many"] (defScope s_is_row) := ⟨rfl, rfl, rfl, by decide +kernel, rfl, by decide +kernel, by decide +kernel⟩
abbrev s_divisor_of : Stmt := topS 11
abbrev n_divisor_of : List Str := ["numbers", "divisor", "number"]
abbrev n0_divisor_of : Nat := 0
theorem sc_divisor_of : FnScope n_divisor_of ["numbers"] (defScope s_divisor_of) := ⟨rfl, rfl, rfl, by decide +kernel, rfl, by decide +kernel, by decide +kernel⟩
abbrev s_is_reduced_row : Stmt := topS 12
abbrev n_is_reduced_row : List Str := ["value", "many"]
abbrev n0_is_reduced_row : Nat := 0
theorem sc_is_reduced_row : FnScope n_is_reduced_row ["value", "many"] (defScope s_is_reduced_row) := ⟨rfl, rfl, rfl, by decide +kernel, rfl, by decide +kernel, by decide +kernel⟩
abbrev s_reduced : Stmt := topS 13
abbrev n_reduced : List Str := ["numbers", "divisor", "number"]
abbrev n0_reduced : Nat := 0
theorem sc_reduced : FnScope n_reduced ["numbers"] (defScope s_reduced) := ⟨rfl, rfl, rfl, by decide +kernel, rfl, by decide +kernel, by decide +kernel⟩
abbrev s_dot : Stmt := topS 14
abbrev n_dot : List Str := ["row", "other", "one", "two"]
abbrev n0_dot : Nat := 0
theorem sc_dot : FnScope n_dot ["row", "other"] (defScope s_dot) := ⟨rfl, rfl, rfl, by decide +kernel, rfl, by decide +kernel, by decide +kernel⟩
abbrev s_check_whole_to : Stmt := topS 16
abbrev n_check_whole_to : List Str := ["value", "most"]
abbrev n0_check_whole_to : Nat := 0
theorem sc_check_whole_to : FnScope n_check_whole_to ["value", "most"] (defScope s_check_whole_to) := ⟨rfl, rfl, rfl, by decide +kernel, rfl, by decide +kernel, by decide +kernel⟩
abbrev s_is_kind : Stmt := topS 18
abbrev n_is_kind : List Str := ["value"]
abbrev n0_is_kind : Nat := 0
theorem sc_is_kind : FnScope n_is_kind ["value"] (defScope s_is_kind) := ⟨rfl, rfl, rfl, by decide +kernel, rfl, by decide +kernel, by decide +kernel⟩
abbrev s_check_kind : Stmt := topS 19
abbrev n_check_kind : List Str := ["value"]
abbrev n0_check_kind : Nat := 0
theorem sc_check_kind : FnScope n_check_kind ["value"] (defScope s_check_kind) := ⟨rfl, rfl, rfl, by decide +kernel, rfl, by decide +kernel, by decide +kernel⟩
abbrev s_is_setting : Stmt := topS 21
abbrev n_is_setting : List Str := ["value"]
abbrev n0_is_setting : Nat := 0
theorem sc_is_setting : FnScope n_is_setting ["value"] (defScope s_is_setting) := ⟨rfl, rfl, rfl, by decide +kernel, rfl, by decide +kernel, by decide +kernel⟩
abbrev s_check_setting : Stmt := topS 22
abbrev n_check_setting : List Str := ["value"]
abbrev n0_check_setting : Nat := 0
theorem sc_check_setting : FnScope n_check_setting ["value"] (defScope s_check_setting) := ⟨rfl, rfl, rfl, by decide +kernel, rfl, by decide +kernel, by decide +kernel⟩
abbrev s__first_sign : Stmt := topS 26
abbrev n__first_sign : List Str := ["row", "number"]
abbrev n0__first_sign : Nat := 0
theorem sc__first_sign : FnScope n__first_sign ["row"] (defScope s__first_sign) := ⟨rfl, rfl, rfl, by decide +kernel, rfl, by decide +kernel, by decide +kernel⟩
abbrev s_is_turn : Stmt := topS 27
abbrev n_is_turn : List Str := ["value"]
abbrev n0_is_turn : Nat := 0
theorem sc_is_turn : FnScope n_is_turn ["value"] (defScope s_is_turn) := ⟨rfl, rfl, rfl, by decide +kernel, rfl, by decide +kernel, by decide +kernel⟩
abbrev s_check_turn : Stmt := topS 28
abbrev n_check_turn : List Str := ["value"]
abbrev n0_check_turn : Nat := 0
theorem sc_check_turn : FnScope n_check_turn ["value"] (defScope s_check_turn) := ⟨rfl, rfl, rfl, by decide +kernel, rfl, by decide +kernel, by decide +kernel⟩
abbrev s__along : Stmt := topS 29
abbrev n__along : List Str := ["row", "side", "number"]
abbrev n0__along : Nat := 0
theorem sc__along : FnScope n__along ["row"] (defScope s__along) := ⟨rfl, rfl, rfl, by decide +kernel, rfl, by decide +kernel, by decide +kernel⟩
abbrev s_turn_along : Stmt := topS 30
abbrev n_turn_along : List Str := ["numbers"]
abbrev n0_turn_along : Nat := 0
theorem sc_turn_along : FnScope n_turn_along ["numbers"] (defScope s_turn_along) := ⟨rfl, rfl, rfl, by decide +kernel, rfl, by decide +kernel, by decide +kernel⟩
abbrev s_turn_about : Stmt := topS 31
abbrev n_turn_about : List Str := ["kind", "setting", "a", "b"]
abbrev n0_turn_about : Nat := 0
theorem sc_turn_about : FnScope n_turn_about ["kind", "setting"] (defScope s_turn_about) := ⟨rfl, rfl, rfl, by decide +kernel, rfl, by decide +kernel, by decide +kernel⟩
abbrev s__quaternion_product : Stmt := topS 32
abbrev n__quaternion_product : List Str := ["one", "two", "a", "b", "c", "d", "e", "f", "g", "h"]
abbrev n0__quaternion_product : Nat := 0
theorem sc__quaternion_product : FnScope n__quaternion_product ["one", "two"] (defScope s__quaternion_product) := ⟨rfl, rfl, rfl, by decide +kernel, rfl, by decide +kernel, by decide +kernel⟩
abbrev s_joined_turns : Stmt := topS 33
abbrev n_joined_turns : List Str := ["turn", "other"]
abbrev n0_joined_turns : Nat := 0
theorem sc_joined_turns : FnScope n_joined_turns ["turn", "other"] (defScope s_joined_turns) := ⟨rfl, rfl, rfl, by decide +kernel, rfl, by decide +kernel, by decide +kernel⟩
abbrev s_turn_back : Stmt := topS 34
abbrev n_turn_back : List Str := ["turn", "a", "b", "c", "d"]
abbrev n0_turn_back : Nat := 0
theorem sc_turn_back : FnScope n_turn_back ["turn"] (defScope s_turn_back) := ⟨rfl, rfl, rfl, by decide +kernel, rfl, by decide +kernel, by decide +kernel⟩
abbrev s_turn_times : Stmt := topS 35
abbrev n_turn_times : List Str := ["turn", "many", "whole", "_"]
abbrev n0_turn_times : Nat := 0
theorem sc_turn_times : FnScope n_turn_times ["turn", "many"] (defScope s_turn_times) := ⟨rfl, rfl, rfl, by decide +kernel, rfl, by decide +kernel, by decide +kernel⟩
abbrev s__law_source : Stmt := topS 37
abbrev n__law_source : List Str := ["_law_script", "_law_at", "_law_own", "_law_mixed", "_law_cell", "_law_state"]
abbrev n0__law_source : Nat := 0
theorem sc__law_source : FnScope n__law_source ["_law_script", "_law_at"] (defScope s__law_source) := ⟨rfl, rfl, rfl, by decide +kernel, rfl, by decide +kernel, by decide +kernel⟩
abbrev s__law_draw : Stmt := topS 38
abbrev n__law_draw : List Str := ["_law_source_here", "_law_top", "_law_step", "_law_figure"]
abbrev n0__law_draw : Nat := 1
theorem sc__law_draw : FnScope n__law_draw ["_law_source_here", "_law_top"] (defScope s__law_draw) := ⟨rfl, rfl, rfl, by decide +kernel, rfl, by decide +kernel, by decide +kernel⟩
abbrev s__law_pick : Stmt := topS 39
abbrev n__law_pick : List Str := ["_law_source_here", "_law_some"]
abbrev n0__law_pick : Nat := 1
theorem sc__law_pick : FnScope n__law_pick ["_law_source_here", "_law_some"] (defScope s__law_pick) := ⟨rfl, rfl, rfl, by decide +kernel, rfl, by decide +kernel, by decide +kernel⟩
abbrev s__law_about : Stmt := topS 40
abbrev n__law_about : List Str := ["_law_source_here", "_law_most"]
abbrev n0__law_about : Nat := 1
theorem sc__law_about : FnScope n__law_about ["_law_source_here", "_law_most"] (defScope s__law_about) := ⟨rfl, rfl, rfl, by decide +kernel, rfl, by decide +kernel, by decide +kernel⟩
abbrev s__law_common : Stmt := topS 41
abbrev n__law_common : List Str := ["_law_row", "_law_found", "_law_part", "_law_one", "_law_two"]
abbrev n0__law_common : Nat := 0
theorem sc__law_common : FnScope n__law_common ["_law_row"] (defScope s__law_common) := ⟨rfl, rfl, rfl, by decide +kernel, rfl, by decide +kernel, by decide +kernel⟩
abbrev s__law_low : Stmt := topS 42
abbrev n__law_low : List Str := ["_law_row", "_law_found", "_law_part"]
abbrev n0__law_low : Nat := 0
theorem sc__law_low : FnScope n__law_low ["_law_row"] (defScope s__law_low) := ⟨rfl, rfl, rfl, by decide +kernel, rfl, by decide +kernel, by decide +kernel⟩
abbrev s__law_along : Stmt := topS 43
abbrev n__law_along : List Str := ["_law_four_here", "_law_low_here", "_law_lead", "_law_part"]
abbrev n0__law_along : Nat := 0
theorem sc__law_along : FnScope n__law_along ["_law_four_here"] (defScope s__law_along) := ⟨rfl, rfl, rfl, by decide +kernel, rfl, by decide +kernel, by decide +kernel⟩
abbrev s__law_mult : Stmt := topS 44
abbrev n__law_mult : List Str := ["_law_one", "_law_two", "_law_real", "_law_a", "_law_b", "_law_c", "_law_d", "_law_e", "_law_f", "_law_g", "_law_h"]
abbrev n0__law_mult : Nat := 0
theorem sc__law_mult : FnScope n__law_mult ["_law_one", "_law_two"] (defScope s__law_mult) := ⟨rfl, rfl, rfl, by decide +kernel, rfl, by decide +kernel, by decide +kernel⟩
abbrev s__law_both : Stmt := topS 45
abbrev n__law_both : List Str := ["_law_one", "_law_two"]
abbrev n0__law_both : Nat := 0
theorem sc__law_both : FnScope n__law_both ["_law_one", "_law_two"] (defScope s__law_both) := ⟨rfl, rfl, rfl, by decide +kernel, rfl, by decide +kernel, by decide +kernel⟩
abbrev s__law_spin : Stmt := topS 46
abbrev n__law_spin : List Str := ["_law_source_here", "_law_four_here", "_law_way", "_law_most", "_law_k"]
abbrev n0__law_spin : Nat := 1
theorem sc__law_spin : FnScope n__law_spin ["_law_source_here"] (defScope s__law_spin) := ⟨rfl, rfl, rfl, by decide +kernel, rfl, by decide +kernel, by decide +kernel⟩
abbrev s__law_kind : Stmt := topS 47
abbrev n__law_kind : List Str := ["_law_source_here", "_law_way", "_law_most", "_law_x", "_law_y", "_law_w", "_law_axis", "_law_sign", "_law_k"]
abbrev n0__law_kind : Nat := 1
theorem sc__law_kind : FnScope n__law_kind ["_law_source_here"] (defScope s__law_kind) := ⟨rfl, rfl, rfl, by decide +kernel, rfl, by decide +kernel, by decide +kernel⟩
abbrev s__law_slot : Stmt := topS 48
abbrev n__law_slot : List Str := ["_law_source_here", "_law_way", "_law_most"]
abbrev n0__law_slot : Nat := 1
theorem sc__law_slot : FnScope n__law_slot ["_law_source_here"] (defScope s__law_slot) := ⟨rfl, rfl, rfl, by decide +kernel, rfl, by decide +kernel, by decide +kernel⟩
abbrev s__law_number : Stmt := topS 49
abbrev n__law_number : List Str := ["_law_source_here", "_law_most"]
abbrev n0__law_number : Nat := 1
theorem sc__law_number : FnScope n__law_number ["_law_source_here", "_law_most"] (defScope s__law_number) := ⟨rfl, rfl, rfl, by decide +kernel, rfl, by decide +kernel, by decide +kernel⟩
abbrev s__law_four : Stmt := topS 50
abbrev n__law_four : List Str := ["_law_source_here", "_law_most", "_law_four_here", "_law_k"]
abbrev n0__law_four : Nat := 1
theorem sc__law_four : FnScope n__law_four ["_law_source_here"] (defScope s__law_four) := ⟨rfl, rfl, rfl, by decide +kernel, rfl, by decide +kernel, by decide +kernel⟩
abbrev s__law_power : Stmt := topS 51
abbrev n__law_power : List Str := ["_law_spin_here", "_law_often", "_law_found", "_law_k"]
abbrev n0__law_power : Nat := 0
theorem sc__law_power : FnScope n__law_power ["_law_spin_here", "_law_often"] (defScope s__law_power) := ⟨rfl, rfl, rfl, by decide +kernel, rfl, by decide +kernel, by decide +kernel⟩
abbrev s__law_are_told : Stmt := topS 52
abbrev n__law_are_told : List Str := ["_law_spin_here", "_law_minus", "_law_bad", "_law_told", "_law_part", "_law_each"]
abbrev n0__law_are_told : Nat := 0
theorem sc__law_are_told : FnScope n__law_are_told ["_law_spin_here"] (defScope s__law_are_told) := ⟨rfl, rfl, rfl, by decide +kernel, rfl, by decide +kernel, by decide +kernel⟩
abbrev s__law_right : Stmt := topS 53
abbrev n__law_right : List Str := ["_law_source_here", "_law_by", "_law_told", "_law_back", "_law_due", "_law_one", "_law_two", "_law_spin_here", "_law_far", "_law_small", "_law_often", "_law_more", "_law_first", "_law_last", "_law_spot", "_law_slot_here", "_law_part"]
abbrev n0__law_right : Nat := 1
theorem sc__law_right : FnScope n__law_right ["_law_source_here"] (defScope s__law_right) := ⟨rfl, rfl, rfl, by decide +kernel, rfl, by decide +kernel, by decide +kernel⟩
abbrev s_law : Stmt := topS 54
abbrev n_law : List Str := ["_law_script", "_law_k"]
abbrev n0_law : Nat := 0
theorem sc_law : FnScope n_law ["_law_script"] (defScope s_law) := ⟨rfl, rfl, rfl, by decide +kernel, rfl, by decide +kernel, by decide +kernel⟩
/-! what is asked of the top -/
def c__STILL : PyData := (.tuple [(.int 1), (.int 0), (.int 0), (.int 0)])
def c__MOST_TIMES : PyData := (.int 24)
structure Tx (K : PySem.W.Frag) (mg : Str → Option Value) : Prop where
  i_gcd : mg "gcd" = some (.builtin "math.gcd")
  b_abs : mg "abs" = none
  b_all : mg "all" = none
  b_divmod : mg "divmod" = none
  b_int : mg "int" = none
  b_len : mg "len" = none
  b_list : mg "list" = none
  b_max : mg "max" = none
  b_min : mg "min" = none
  b_range : mg "range" = none
  b_repr : mg "repr" = none
  b_sum : mg "sum" = none
  b_tuple : mg "tuple" = none
  b_type : mg "type" = none
  b_zip : mg "zip" = none
  k__STILL : ∃ (v : V) (u : Value), mg "_STILL" = some u ∧ RelV v u ∧ ∀ H, Dp K H v c__STILL
  k__MOST_TIMES : ∃ (v : V) (u : Value), mg "_MOST_TIMES" = some u ∧ RelV v u ∧ ∀ H, Dp K H v c__MOST_TIMES
variable {P : Program} {w : World} {K : PySem.W.Frag} {mg : Str → Option Value} {base : Heap}
def b_is_whole : FS := (fRet (fUn (gTyIs "int") (fVar 0)))
def F_is_whole : FnS := mkF 1 1 0 b_is_whole
theorem ok_is_whole {f : Addr} {fd : FuncData} (U : Fun K "is_whole" "is_whole" s_is_whole f fd) (T : Tx K mg)  : FnG P w K mg base 1 f fd ["value"] F_is_whole := by
  refine fng_of (n0 := 0) (k := 0) U sc_is_whole (fun cdv A outer s H E hg hr => ?_)
  exact (rss_one (rs_ret (re_tyIs (he := sn_name) (hnT := (by decide)) (hdT := (by decide)) rfl T.b_type rfl T.b_int (by decide +kernel) (v 0))))
def b_is_row : FS := (fRet (fAndV (fUn (gTyIs "tuple") (fVar 0)) (fAndV (fOp gEq (fBi gLen (fConsA (fVar 0) fNilA)) (fVar 1)) (fBi gAll (fConsA (fOfL (fLc (fIt (fVar 0)) (aName 2) fYes (fCall F_is_whole (fConsA (fVar 2) fNilA)) [2])) fNilA)))))
def F_is_row : FnS := mkF 2 3 0 b_is_row
theorem ok_is_row {f : Addr} {fd : FuncData} (U : Fun K "is_row" "is_row" s_is_row f fd) (T : Tx K mg) (C_is_whole : At P w K mg base 1 "is_whole" ["value"] F_is_whole) : FnG P w K mg base 2 f fd ["value", "many"] F_is_row := by
  refine fng_of (n0 := 0) (k := 1) U sc_is_row (fun cdv A outer s H E hg hr => ?_)
  exact (rss_one (rs_ret (re_and (re_tyIs (he := sn_name) (hnT := (by decide)) (hdT := (by decide)) rfl T.b_type rfl T.b_tuple (by decide +kernel) (v 0)) (re_and (re_eq (hu64 hr) (re_len (he := sn_name) rfl T.b_len (ra_cons (hs := sn_name) (v 0) ra_nil)) (v 1)) (re_one (re_all (he := sn_lc) rfl rfl T.b_all (ra_cons (hs := sn_lc) (re_ofL (rl_lc (own := [("part", 2)]) (hs := fun _ => rfl) rfl sc_is_row.nd (ri_seq (v 0)) (blkOk_by (N := n_is_row) (sc := defScope s_is_row) (by decide +kernel)) (fun _ _ _ _ _ => (rg_name (i := 2) sc_is_row.nd rfl (by first | exact Or.inl rfl | exact Or.inr rfl))) (fun _ _ _ _ _ => rts_nil) (fun _ _ _ _ _ => (re_call (hdb := (by decide)) (he := sn_name) (hpl := rfl) C_is_whole hg (hr.mono (by decide)) rfl (ra_cons (hs := sn_name) (v 2) ra_nil))) (by decide))) ra_nil)))))))
def b_divisor_of : FS := (fSeq (fSet 1 (fLit (.int 0)))
  (fSeq (fFor (fIt (fVar 0)) (aName 2) (fSet 1 (fBi gGcd (fConsA (fVar 1) (fConsA (fVar 2) fNilA)))))
  (fRet (fVar 1))))
def F_divisor_of : FnS := mkF 1 3 0 b_divisor_of
theorem ok_divisor_of {f : Addr} {fd : FuncData} (U : Fun K "divisor_of" "divisor_of" s_divisor_of f fd) (T : Tx K mg)  : FnG P w K mg base 1 f fd ["numbers"] F_divisor_of := by
  refine fng_of (n0 := 0) (k := 0) U sc_divisor_of (fun cdv A outer s H E hg hr => ?_)
  exact (rss_cons (rs_set (i := 1) (hs := rfl) (hf := (by first | exact Or.inl rfl | exact Or.inr rfl)) sc_divisor_of.nd rfl (by first | exact Or.inl rfl | exact Or.inr rfl) re_int)
  (rss_cons (rs_for (hs := fun _ => rfl) PassesOwn.never rfl (ri_seq (v 0)) (rg_name (i := 2) sc_divisor_of.nd rfl (by first | exact Or.inl rfl | exact Or.inr rfl)) (fun _ => (rss_one (rs_set (i := 1) (hs := rfl) (hf := (by first | exact Or.inl rfl | exact Or.inr rfl)) sc_divisor_of.nd rfl (by first | exact Or.inl rfl | exact Or.inr rfl) (re_gcd (hdb := (by decide)) (he := sn_name) (hpl := rfl) rfl T.i_gcd (ra_cons (hs := sn_name) (v 1) (ra_cons (hs := sn_name) (v 2) ra_nil)))))))
  (rss_one (rs_ret (v 1)))))
def b_is_reduced_row : FS := (fRet (fAndV (fCall F_is_row (fConsA (fVar 0) (fConsA (fVar 1) fNilA))) (fOp gEq (fCall F_divisor_of (fConsA (fVar 0) fNilA)) (fLit (.int 1)))))
def F_is_reduced_row : FnS := mkF 2 2 0 b_is_reduced_row
theorem ok_is_reduced_row {f : Addr} {fd : FuncData} (U : Fun K "is_reduced_row" "is_reduced_row" s_is_reduced_row f fd) (T : Tx K mg) (C_divisor_of : At P w K mg base 1 "divisor_of" ["numbers"] F_divisor_of) (C_is_row : At P w K mg base 2 "is_row" ["value", "many"] F_is_row) : FnG P w K mg base 3 f fd ["value", "many"] F_is_reduced_row := by
  refine fng_of (n0 := 0) (k := 2) U sc_is_reduced_row (fun cdv A outer s H E hg hr => ?_)
  exact (rss_one (rs_ret (re_and (re_call (hdb := (by decide)) (he := sn_name) (hpl := rfl) C_is_row hg (hr.mono (by decide)) rfl (ra_cons (hs := sn_name) (v 0) (ra_cons (hs := sn_name) (v 1) ra_nil))) (re_one (re_eq (hu64 hr) (re_call (hdb := (by decide)) (he := sn_name) (hpl := rfl) C_divisor_of hg (hr.mono (by decide)) rfl (ra_cons (hs := sn_name) (v 0) ra_nil)) re_int)))))
def b_reduced : FS := (fSeq (fSet 1 (fBi gMax (fConsA (fCall F_divisor_of (fConsA (fVar 0) fNilA)) (fConsA (fLit (.int 1)) fNilA))))
  (fRet (fBi gTuple (fConsA (fOfL (fLc (fIt (fVar 0)) (aName 2) fYes (fOp gDiv (fVar 2) (fVar 1)) [2])) fNilA))))
def F_reduced : FnS := mkF 1 3 0 b_reduced
theorem ok_reduced {f : Addr} {fd : FuncData} (U : Fun K "reduced" "reduced" s_reduced f fd) (T : Tx K mg) (C_divisor_of : At P w K mg base 1 "divisor_of" ["numbers"] F_divisor_of) : FnG P w K mg base 2 f fd ["numbers"] F_reduced := by
  refine fng_of (n0 := 0) (k := 1) U sc_reduced (fun cdv A outer s H E hg hr => ?_)
  exact (rss_cons (rs_set (i := 1) (hs := rfl) (hf := (by first | exact Or.inl rfl | exact Or.inr rfl)) sc_reduced.nd rfl (by first | exact Or.inl rfl | exact Or.inr rfl) (re_max (he := sn_call) (hpl := rfl) rfl rfl T.b_max (ra_cons (hs := sn_call) (re_call (hdb := (by decide)) (he := sn_name) (hpl := rfl) C_divisor_of hg (hr.mono (by decide)) rfl (ra_cons (hs := sn_name) (v 0) ra_nil)) (ra_cons (hs := sn_const) re_int ra_nil))))
  (rss_one (rs_ret (re_tuple (he := sn_lc) rfl T.b_tuple (ra_cons (hs := sn_lc) (re_ofL (rl_lc (own := [("number", 2)]) (hs := fun _ => rfl) rfl sc_reduced.nd (ri_seq (v 0)) (blkOk_by (N := n_reduced) (sc := defScope s_reduced) (by decide +kernel)) (fun _ _ _ _ _ => (rg_name (i := 2) sc_reduced.nd rfl (by first | exact Or.inl rfl | exact Or.inr rfl))) (fun _ _ _ _ _ => rts_nil) (fun _ _ _ _ _ => (re_div (v 2) (v 1))) (by decide))) ra_nil)))))
def b_dot : FS := (fRet (fBi gSum (fConsA (fOfL (fLc (fZip (fConsA (fVar 0) (fConsA (fVar 1) fNilA))) (aTup 2 (aCons (aName 2) (aCons (aName 3) aNil))) fYes (fOp gMul (fVar 2) (fVar 3)) [2, 3])) fNilA)))
def F_dot : FnS := mkF 2 4 0 b_dot
theorem ok_dot {f : Addr} {fd : FuncData} (U : Fun K "dot" "dot" s_dot f fd) (T : Tx K mg)  : FnG P w K mg base 1 f fd ["row", "other"] F_dot := by
  refine fng_of (n0 := 0) (k := 0) U sc_dot (fun cdv A outer s H E hg hr => ?_)
  exact (rss_one (rs_ret (re_sum (he := sn_lc) rfl rfl T.b_sum (ra_cons (hs := sn_lc) (re_ofL (rl_lc (own := [("one", 2), ("two", 3)]) (hs := fun _ => rfl) rfl sc_dot.nd (ri_zip (hs := by first | rfl | with_reducible exact sn_name) (hpl := rfl) rfl T.b_zip (ra_cons (hs := sn_name) (v 0) (ra_cons (hs := sn_name) (v 1) ra_nil))) (blkOk_by (N := n_dot) (sc := defScope s_dot) (by decide +kernel)) (fun _ _ _ _ _ => (rg_tupK K rfl (hn := rfl) (hst := rfl) rfl (rgs_cons (hs := rfl) (rg_name (i := 2) sc_dot.nd rfl (by first | exact Or.inl rfl | exact Or.inr rfl)) (rgs_cons (hs := rfl) (rg_name (i := 3) sc_dot.nd rfl (by first | exact Or.inl rfl | exact Or.inr rfl)) rgs_nil)))) (fun _ _ _ _ _ => rts_nil) (fun _ _ _ _ _ => (re_mul (v 2) (v 3))) (by decide))) ra_nil))))
def b_check_whole_to : FS := (fIfS (fOrT (fNotT (fTru (fCall F_is_whole (fConsA (fVar 0) fNilA)))) (fOrT (fTru (fOp (gCmp fun i j => decide (i < j)) (fVar 0) (fLit (.int 0)))) (fTru (fOp (gCmp fun i j => decide (j < i)) (fVar 0) (fVar 1))))) fNever fSkip)
def F_check_whole_to : FnS := mkF 2 2 0 b_check_whole_to
theorem ok_check_whole_to {f : Addr} {fd : FuncData} (U : Fun K "check_whole_to" "check_whole_to" s_check_whole_to f fd) (T : Tx K mg) (C_is_whole : At P w K mg base 1 "is_whole" ["value"] F_is_whole) : FnG P w K mg base 2 f fd ["value", "most"] F_check_whole_to := by
  refine fng_of (n0 := 0) (k := 1) U sc_check_whole_to (fun cdv A outer s H E hg hr => ?_)
  exact (rss_one (rs_if (rt_w (rw_or (rt_not (rt_val (he := fun _ => rfl) (re_call (hdb := (by decide)) (he := sn_name) (hpl := rfl) C_is_whole hg (hr.mono (by decide)) rfl (ra_cons (hs := sn_name) (v 0) ra_nil)))) (rw_or (rt_lt (v 0) re_int) (rw_or1 (rt_gt (v 0) (v 1)))))) (rss_one rs_never) rss_nil))
def b_is_kind : FS := (fRet (fAndV (fCall F_is_reduced_row (fConsA (fVar 0) (fConsA (fLit (.int 4)) fNilA))) (fAndV (fOp (gCmp fun i j => decide (j < i)) (fOp gIx (fVar 0) (fLit (.int 3))) (fLit (.int 0))) (fOp gEq (fCall F_dot (fConsA (fSl (fVar 0) fNoPart (fPart (fLit (.int 3)))) (fConsA (fSl (fVar 0) fNoPart (fPart (fLit (.int 3)))) fNilA))) (fOp gMul (fOp gIx (fVar 0) (fLit (.int 3))) (fOp gIx (fVar 0) (fLit (.int 3))))))))
def F_is_kind : FnS := mkF 1 1 0 b_is_kind
theorem ok_is_kind {f : Addr} {fd : FuncData} (U : Fun K "is_kind" "is_kind" s_is_kind f fd) (T : Tx K mg) (C_dot : At P w K mg base 1 "dot" ["row", "other"] F_dot) (C_is_reduced_row : At P w K mg base 3 "is_reduced_row" ["value", "many"] F_is_reduced_row) : FnG P w K mg base 4 f fd ["value"] F_is_kind := by
  refine fng_of (n0 := 0) (k := 3) U sc_is_kind (fun cdv A outer s H E hg hr => ?_)
  exact (rss_one (rs_ret (re_and (re_call (hdb := (by decide)) (he := sn_name) (hpl := rfl) C_is_reduced_row hg (hr.mono (by decide)) rfl (ra_cons (hs := sn_name) (v 0) (ra_cons (hs := sn_const) re_int ra_nil))) (re_and (re_gt (re_ix (hs := fun _ _ => rfl) (v 0) re_int) re_int) (re_one (re_eq (hu64 hr) (re_call (hdb := (by decide)) (he := sn_sub) (hpl := rfl) C_dot hg (hr.mono (by decide)) rfl (ra_cons (hs := sn_sub) (re_sl (v 0) ro_none (ro_some re_int)) (ra_cons (hs := sn_sub) (re_sl (v 0) ro_none (ro_some re_int)) ra_nil))) (re_mul (re_ix (hs := fun _ _ => rfl) (v 0) re_int) (re_ix (hs := fun _ _ => rfl) (v 0) re_int))))))))
def b_check_kind : FS := (fIfS (fNotT (fTru (fCall F_is_kind (fConsA (fVar 0) fNilA)))) fNever fSkip)
def F_check_kind : FnS := mkF 1 1 0 b_check_kind
theorem ok_check_kind {f : Addr} {fd : FuncData} (U : Fun K "check_kind" "check_kind" s_check_kind f fd) (T : Tx K mg) (C_is_kind : At P w K mg base 4 "is_kind" ["value"] F_is_kind) : FnG P w K mg base 5 f fd ["value"] F_check_kind := by
  refine fng_of (n0 := 0) (k := 4) U sc_check_kind (fun cdv A outer s H E hg hr => ?_)
  exact (rss_one (rs_if (rt_not (rt_val (he := fun _ => rfl) (re_call (hdb := (by decide)) (he := sn_name) (hpl := rfl) C_is_kind hg (hr.mono (by decide)) rfl (ra_cons (hs := sn_name) (v 0) ra_nil)))) (rss_one rs_never) rss_nil))
def b_is_setting : FS := (fRet (fAndV (fCall F_is_reduced_row (fConsA (fVar 0) (fConsA (fLit (.int 2)) fNilA))) (fOrV (fOp (gCmp fun i j => decide (j < i)) (fOp gIx (fVar 0) (fLit (.int 1))) (fLit (.int 0))) (fOp gEq (fVar 0) (fTup (fConsA (fLit (.int 1)) (fConsA (fLit (.int 0)) fNilA)))))))
def F_is_setting : FnS := mkF 1 1 0 b_is_setting
theorem ok_is_setting {f : Addr} {fd : FuncData} (U : Fun K "is_setting" "is_setting" s_is_setting f fd) (T : Tx K mg) (C_is_reduced_row : At P w K mg base 3 "is_reduced_row" ["value", "many"] F_is_reduced_row) : FnG P w K mg base 4 f fd ["value"] F_is_setting := by
  refine fng_of (n0 := 0) (k := 3) U sc_is_setting (fun cdv A outer s H E hg hr => ?_)
  exact (rss_one (rs_ret (re_and (re_call (hdb := (by decide)) (he := sn_name) (hpl := rfl) C_is_reduced_row hg (hr.mono (by decide)) rfl (ra_cons (hs := sn_name) (v 0) (ra_cons (hs := sn_const) re_int ra_nil))) (re_one (re_or (re_gt (re_ix (hs := fun _ _ => rfl) (v 0) re_int) re_int) (re_one (re_eq (hu64 hr) (v 0) (re_tup (ra_cons (hs := sn_const) re_int (ra_cons (hs := sn_const) re_int ra_nil))))))))))
def b_check_setting : FS := (fIfS (fNotT (fTru (fCall F_is_setting (fConsA (fVar 0) fNilA)))) fNever fSkip)
def F_check_setting : FnS := mkF 1 1 0 b_check_setting
theorem ok_check_setting {f : Addr} {fd : FuncData} (U : Fun K "check_setting" "check_setting" s_check_setting f fd) (T : Tx K mg) (C_is_setting : At P w K mg base 4 "is_setting" ["value"] F_is_setting) : FnG P w K mg base 5 f fd ["value"] F_check_setting := by
  refine fng_of (n0 := 0) (k := 4) U sc_check_setting (fun cdv A outer s H E hg hr => ?_)
  exact (rss_one (rs_if (rt_not (rt_val (he := fun _ => rfl) (re_call (hdb := (by decide)) (he := sn_name) (hpl := rfl) C_is_setting hg (hr.mono (by decide)) rfl (ra_cons (hs := sn_name) (v 0) ra_nil)))) (rss_one rs_never) rss_nil))
def b__first_sign : FS := (fSeq (fFor (fIt (fVar 0)) (aName 1) (fIfS (fTru (fOp gNe (fVar 1) (fLit (.int 0)))) (fRet (fVar 1)) fSkip))
  (fRet (fLit (.int 0))))
def F__first_sign : FnS := mkF 1 2 0 b__first_sign
theorem ok__first_sign {f : Addr} {fd : FuncData} (U : Fun K "_first_sign" "_first_sign" s__first_sign f fd) (T : Tx K mg)  : FnG P w K mg base 1 f fd ["row"] F__first_sign := by
  refine fng_of (n0 := 0) (k := 0) U sc__first_sign (fun cdv A outer s H E hg hr => ?_)
  exact (rss_cons (rs_for (hs := fun _ => rfl) PassesOwn.never rfl (ri_seq (v 0)) (rg_name (i := 1) sc__first_sign.nd rfl (by first | exact Or.inl rfl | exact Or.inr rfl)) (fun _ => (rss_one (rs_if (rt_ne (hu64 hr) (v 1) re_int) (rss_one (rs_ret (v 1))) rss_nil))))
  (rss_one (rs_ret re_int)))
def b_is_turn : FS := (fRet (fAndV (fCall F_is_reduced_row (fConsA (fVar 0) (fConsA (fLit (.int 4)) fNilA))) (fOp (gCmp fun i j => decide (j < i)) (fCall F__first_sign (fConsA (fVar 0) fNilA)) (fLit (.int 0)))))
def F_is_turn : FnS := mkF 1 1 0 b_is_turn
theorem ok_is_turn {f : Addr} {fd : FuncData} (U : Fun K "is_turn" "is_turn" s_is_turn f fd) (T : Tx K mg) (C__first_sign : At P w K mg base 1 "_first_sign" ["row"] F__first_sign) (C_is_reduced_row : At P w K mg base 3 "is_reduced_row" ["value", "many"] F_is_reduced_row) : FnG P w K mg base 4 f fd ["value"] F_is_turn := by
  refine fng_of (n0 := 0) (k := 3) U sc_is_turn (fun cdv A outer s H E hg hr => ?_)
  exact (rss_one (rs_ret (re_and (re_call (hdb := (by decide)) (he := sn_name) (hpl := rfl) C_is_reduced_row hg (hr.mono (by decide)) rfl (ra_cons (hs := sn_name) (v 0) (ra_cons (hs := sn_const) re_int ra_nil))) (re_one (re_gt (re_call (hdb := (by decide)) (he := sn_name) (hpl := rfl) C__first_sign hg (hr.mono (by decide)) rfl (ra_cons (hs := sn_name) (v 0) ra_nil)) re_int)))))
def b_check_turn : FS := (fIfS (fNotT (fTru (fCall F_is_turn (fConsA (fVar 0) fNilA)))) fNever fSkip)
def F_check_turn : FnS := mkF 1 1 0 b_check_turn
theorem ok_check_turn {f : Addr} {fd : FuncData} (U : Fun K "check_turn" "check_turn" s_check_turn f fd) (T : Tx K mg) (C_is_turn : At P w K mg base 4 "is_turn" ["value"] F_is_turn) : FnG P w K mg base 5 f fd ["value"] F_check_turn := by
  refine fng_of (n0 := 0) (k := 4) U sc_check_turn (fun cdv A outer s H E hg hr => ?_)
  exact (rss_one (rs_if (rt_not (rt_val (he := fun _ => rfl) (re_call (hdb := (by decide)) (he := sn_name) (hpl := rfl) C_is_turn hg (hr.mono (by decide)) rfl (ra_cons (hs := sn_name) (v 0) ra_nil)))) (rss_one rs_never) rss_nil))
def b__along : FS := (fSeq (fSet 1 (fIf (fTru (fOp (gCmp fun i j => decide (i < j)) (fCall F__first_sign (fConsA (fVar 0) fNilA)) (fLit (.int 0)))) (fUn gNeg (fLit (.int 1))) (fLit (.int 1))))
  (fRet (fBi gTuple (fConsA (fOfL (fLc (fIt (fCall F_reduced (fConsA (fVar 0) fNilA))) (aName 2) fYes (fOp gMul (fVar 1) (fVar 2)) [2])) fNilA))))
def F__along : FnS := mkF 1 3 0 b__along
theorem ok__along {f : Addr} {fd : FuncData} (U : Fun K "_along" "_along" s__along f fd) (T : Tx K mg) (C__first_sign : At P w K mg base 1 "_first_sign" ["row"] F__first_sign) (C_reduced : At P w K mg base 2 "reduced" ["numbers"] F_reduced) : FnG P w K mg base 3 f fd ["row"] F__along := by
  refine fng_of (n0 := 0) (k := 2) U sc__along (fun cdv A outer s H E hg hr => ?_)
  exact (rss_cons (rs_set (i := 1) (hs := rfl) (hf := (by first | exact Or.inl rfl | exact Or.inr rfl)) sc__along.nd rfl (by first | exact Or.inl rfl | exact Or.inr rfl) (re_if (rt_lt (re_call (hdb := (by decide)) (he := sn_name) (hpl := rfl) C__first_sign hg (hr.mono (by decide)) rfl (ra_cons (hs := sn_name) (v 0) ra_nil)) re_int) (re_neg re_int) re_int))
  (rss_one (rs_ret (re_tuple (he := sn_lc) rfl T.b_tuple (ra_cons (hs := sn_lc) (re_ofL (rl_lc (own := [("number", 2)]) (hs := fun _ => rfl) rfl sc__along.nd (ri_seq (re_call (hdb := (by decide)) (he := sn_name) (hpl := rfl) C_reduced hg (hr.mono (by decide)) rfl (ra_cons (hs := sn_name) (v 0) ra_nil))) (blkOk_by (N := n__along) (sc := defScope s__along) (by decide +kernel)) (fun _ _ _ _ _ => (rg_name (i := 2) sc__along.nd rfl (by first | exact Or.inl rfl | exact Or.inr rfl))) (fun _ _ _ _ _ => rts_nil) (fun _ _ _ _ _ => (re_mul (v 1) (v 2))) (by decide))) ra_nil)))))
def b_turn_along : FS := (fSeq (fIfS (fOrT (fNotT (fTru (fCall F_is_row (fConsA (fVar 0) (fConsA (fLit (.int 4)) fNilA))))) (fTru (fOp gEq (fCall F__first_sign (fConsA (fVar 0) fNilA)) (fLit (.int 0))))) fNever fSkip)
  (fRet (fCall F__along (fConsA (fVar 0) fNilA))))
def F_turn_along : FnS := mkF 1 1 0 b_turn_along
theorem ok_turn_along {f : Addr} {fd : FuncData} (U : Fun K "turn_along" "turn_along" s_turn_along f fd) (T : Tx K mg) (C__along : At P w K mg base 3 "_along" ["row"] F__along) (C__first_sign : At P w K mg base 1 "_first_sign" ["row"] F__first_sign) (C_is_row : At P w K mg base 2 "is_row" ["value", "many"] F_is_row) : FnG P w K mg base 4 f fd ["numbers"] F_turn_along := by
  refine fng_of (n0 := 0) (k := 3) U sc_turn_along (fun cdv A outer s H E hg hr => ?_)
  exact (rss_cons (rs_if (rt_w (rw_or (rt_not (rt_val (he := fun _ => rfl) (re_call (hdb := (by decide)) (he := sn_name) (hpl := rfl) C_is_row hg (hr.mono (by decide)) rfl (ra_cons (hs := sn_name) (v 0) (ra_cons (hs := sn_const) re_int ra_nil))))) (rw_or1 (rt_eq (hu64 hr) (re_call (hdb := (by decide)) (he := sn_name) (hpl := rfl) C__first_sign hg (hr.mono (by decide)) rfl (ra_cons (hs := sn_name) (v 0) ra_nil)) re_int)))) (rss_one rs_never) rss_nil)
  (rss_one (rs_ret (re_call (hdb := (by decide)) (he := sn_name) (hpl := rfl) C__along hg (hr.mono (by decide)) rfl (ra_cons (hs := sn_name) (v 0) ra_nil)))))
def b_turn_about : FS := (fSeq (fDrop (fCall F_check_kind (fConsA (fVar 0) fNilA)))
  (fSeq (fDrop (fCall F_check_setting (fConsA (fVar 1) fNilA)))
  (fSeq (fAsg (aTup 2 (aCons (aName 2) (aCons (aName 3) aNil))) (fVar 1))
  (fRet (fCall F__along (fConsA (fTup (fConsA (fOp gMul (fVar 3) (fOp gIx (fVar 0) (fLit (.int 3)))) (fConsA (fOp gMul (fVar 2) (fOp gIx (fVar 0) (fLit (.int 0)))) (fConsA (fOp gMul (fVar 2) (fOp gIx (fVar 0) (fLit (.int 1)))) (fConsA (fOp gMul (fVar 2) (fOp gIx (fVar 0) (fLit (.int 2)))) fNilA))))) fNilA))))))
def F_turn_about : FnS := mkF 2 4 0 b_turn_about
theorem ok_turn_about {f : Addr} {fd : FuncData} (U : Fun K "turn_about" "turn_about" s_turn_about f fd) (T : Tx K mg) (C__along : At P w K mg base 3 "_along" ["row"] F__along) (C_check_kind : At P w K mg base 5 "check_kind" ["value"] F_check_kind) (C_check_setting : At P w K mg base 5 "check_setting" ["value"] F_check_setting) : FnG P w K mg base 6 f fd ["kind", "setting"] F_turn_about := by
  refine fng_of (n0 := 0) (k := 5) U sc_turn_about (fun cdv A outer s H E hg hr => ?_)
  exact (rss_cons (rs_drop (hs := rfl) (re_call (hdb := (by decide)) (he := sn_name) (hpl := rfl) C_check_kind hg (hr.mono (by decide)) rfl (ra_cons (hs := sn_name) (v 0) ra_nil)))
  (rss_cons (rs_drop (hs := rfl) (re_call (hdb := (by decide)) (he := sn_name) (hpl := rfl) C_check_setting hg (hr.mono (by decide)) rfl (ra_cons (hs := sn_name) (v 1) ra_nil)))
  (rss_cons (rs_asg (hs := rfl) (hw := rfl) (h1 := rfl) (v 1) (rg_tupK K rfl (hn := rfl) (hst := rfl) rfl (rgs_cons (hs := rfl) (rg_name (i := 2) sc_turn_about.nd rfl (by first | exact Or.inl rfl | exact Or.inr rfl)) (rgs_cons (hs := rfl) (rg_name (i := 3) sc_turn_about.nd rfl (by first | exact Or.inl rfl | exact Or.inr rfl)) rgs_nil))))
  (rss_one (rs_ret (re_call (hdb := (by decide)) (he := sn_tup) (hpl := rfl) C__along hg (hr.mono (by decide)) rfl (ra_cons (hs := sn_tup) (re_tup (ra_cons (hs := sn_bin) (re_mul (v 3) (re_ix (hs := fun _ _ => rfl) (v 0) re_int)) (ra_cons (hs := sn_bin) (re_mul (v 2) (re_ix (hs := fun _ _ => rfl) (v 0) re_int)) (ra_cons (hs := sn_bin) (re_mul (v 2) (re_ix (hs := fun _ _ => rfl) (v 0) re_int)) (ra_cons (hs := sn_bin) (re_mul (v 2) (re_ix (hs := fun _ _ => rfl) (v 0) re_int)) ra_nil))))) ra_nil)))))))
def b__quaternion_product : FS := (fSeq (fAsg (aTup 4 (aCons (aName 2) (aCons (aName 3) (aCons (aName 4) (aCons (aName 5) aNil))))) (fVar 0))
  (fSeq (fAsg (aTup 4 (aCons (aName 6) (aCons (aName 7) (aCons (aName 8) (aCons (aName 9) aNil))))) (fVar 1))
  (fRet (fTup (fConsA (fOp gSub (fOp gSub (fOp gSub (fOp gMul (fVar 2) (fVar 6)) (fOp gMul (fVar 3) (fVar 7))) (fOp gMul (fVar 4) (fVar 8))) (fOp gMul (fVar 5) (fVar 9))) (fConsA (fOp gSub (fOp gPlus (fOp gPlus (fOp gMul (fVar 2) (fVar 7)) (fOp gMul (fVar 3) (fVar 6))) (fOp gMul (fVar 4) (fVar 9))) (fOp gMul (fVar 5) (fVar 8))) (fConsA (fOp gPlus (fOp gPlus (fOp gSub (fOp gMul (fVar 2) (fVar 8)) (fOp gMul (fVar 3) (fVar 9))) (fOp gMul (fVar 4) (fVar 6))) (fOp gMul (fVar 5) (fVar 7))) (fConsA (fOp gPlus (fOp gSub (fOp gPlus (fOp gMul (fVar 2) (fVar 9)) (fOp gMul (fVar 3) (fVar 8))) (fOp gMul (fVar 4) (fVar 7))) (fOp gMul (fVar 5) (fVar 6))) fNilA))))))))
def F__quaternion_product : FnS := mkF 2 10 0 b__quaternion_product
theorem ok__quaternion_product {f : Addr} {fd : FuncData} (U : Fun K "_quaternion_product" "_quaternion_product" s__quaternion_product f fd) (T : Tx K mg)  : FnG P w K mg base 1 f fd ["one", "two"] F__quaternion_product := by
  refine fng_of (n0 := 0) (k := 0) U sc__quaternion_product (fun cdv A outer s H E hg hr => ?_)
  exact (rss_cons (rs_asg (hs := rfl) (hw := rfl) (h1 := rfl) (v 0) (rg_tupK K rfl (hn := rfl) (hst := rfl) rfl (rgs_cons (hs := rfl) (rg_name (i := 2) sc__quaternion_product.nd rfl (by first | exact Or.inl rfl | exact Or.inr rfl)) (rgs_cons (hs := rfl) (rg_name (i := 3) sc__quaternion_product.nd rfl (by first | exact Or.inl rfl | exact Or.inr rfl)) (rgs_cons (hs := rfl) (rg_name (i := 4) sc__quaternion_product.nd rfl (by first | exact Or.inl rfl | exact Or.inr rfl)) (rgs_cons (hs := rfl) (rg_name (i := 5) sc__quaternion_product.nd rfl (by first | exact Or.inl rfl | exact Or.inr rfl)) rgs_nil))))))
  (rss_cons (rs_asg (hs := rfl) (hw := rfl) (h1 := rfl) (v 1) (rg_tupK K rfl (hn := rfl) (hst := rfl) rfl (rgs_cons (hs := rfl) (rg_name (i := 6) sc__quaternion_product.nd rfl (by first | exact Or.inl rfl | exact Or.inr rfl)) (rgs_cons (hs := rfl) (rg_name (i := 7) sc__quaternion_product.nd rfl (by first | exact Or.inl rfl | exact Or.inr rfl)) (rgs_cons (hs := rfl) (rg_name (i := 8) sc__quaternion_product.nd rfl (by first | exact Or.inl rfl | exact Or.inr rfl)) (rgs_cons (hs := rfl) (rg_name (i := 9) sc__quaternion_product.nd rfl (by first | exact Or.inl rfl | exact Or.inr rfl)) rgs_nil))))))
  (rss_one (rs_ret (re_tup (ra_cons (hs := sn_bin) (re_sub (re_sub (re_sub (re_mul (v 2) (v 6)) (re_mul (v 3) (v 7))) (re_mul (v 4) (v 8))) (re_mul (v 5) (v 9))) (ra_cons (hs := sn_bin) (re_sub (re_plus (re_plus (re_mul (v 2) (v 7)) (re_mul (v 3) (v 6))) (re_mul (v 4) (v 9))) (re_mul (v 5) (v 8))) (ra_cons (hs := sn_bin) (re_plus (re_plus (re_sub (re_mul (v 2) (v 8)) (re_mul (v 3) (v 9))) (re_mul (v 4) (v 6))) (re_mul (v 5) (v 7))) (ra_cons (hs := sn_bin) (re_plus (re_sub (re_plus (re_mul (v 2) (v 9)) (re_mul (v 3) (v 8))) (re_mul (v 4) (v 7))) (re_mul (v 5) (v 6))) ra_nil)))))))))
def b_joined_turns : FS := (fSeq (fDrop (fCall F_check_turn (fConsA (fVar 0) fNilA)))
  (fSeq (fDrop (fCall F_check_turn (fConsA (fVar 1) fNilA)))
  (fRet (fCall F__along (fConsA (fCall F__quaternion_product (fConsA (fVar 1) (fConsA (fVar 0) fNilA))) fNilA)))))
def F_joined_turns : FnS := mkF 2 2 0 b_joined_turns
theorem ok_joined_turns {f : Addr} {fd : FuncData} (U : Fun K "joined_turns" "joined_turns" s_joined_turns f fd) (T : Tx K mg) (C__along : At P w K mg base 3 "_along" ["row"] F__along) (C__quaternion_product : At P w K mg base 1 "_quaternion_product" ["one", "two"] F__quaternion_product) (C_check_turn : At P w K mg base 5 "check_turn" ["value"] F_check_turn) : FnG P w K mg base 6 f fd ["turn", "other"] F_joined_turns := by
  refine fng_of (n0 := 0) (k := 5) U sc_joined_turns (fun cdv A outer s H E hg hr => ?_)
  exact (rss_cons (rs_drop (hs := rfl) (re_call (hdb := (by decide)) (he := sn_name) (hpl := rfl) C_check_turn hg (hr.mono (by decide)) rfl (ra_cons (hs := sn_name) (v 0) ra_nil)))
  (rss_cons (rs_drop (hs := rfl) (re_call (hdb := (by decide)) (he := sn_name) (hpl := rfl) C_check_turn hg (hr.mono (by decide)) rfl (ra_cons (hs := sn_name) (v 1) ra_nil)))
  (rss_one (rs_ret (re_call (hdb := (by decide)) (he := sn_call) (hpl := rfl) C__along hg (hr.mono (by decide)) rfl (ra_cons (hs := sn_call) (re_call (hdb := (by decide)) (he := sn_name) (hpl := rfl) C__quaternion_product hg (hr.mono (by decide)) rfl (ra_cons (hs := sn_name) (v 1) (ra_cons (hs := sn_name) (v 0) ra_nil))) ra_nil))))))
def b_turn_back : FS := (fSeq (fDrop (fCall F_check_turn (fConsA (fVar 0) fNilA)))
  (fSeq (fAsg (aTup 4 (aCons (aName 1) (aCons (aName 2) (aCons (aName 3) (aCons (aName 4) aNil))))) (fVar 0))
  (fRet (fCall F__along (fConsA (fTup (fConsA (fVar 1) (fConsA (fUn gNeg (fVar 2)) (fConsA (fUn gNeg (fVar 3)) (fConsA (fUn gNeg (fVar 4)) fNilA))))) fNilA)))))
def F_turn_back : FnS := mkF 1 5 0 b_turn_back
theorem ok_turn_back {f : Addr} {fd : FuncData} (U : Fun K "turn_back" "turn_back" s_turn_back f fd) (T : Tx K mg) (C__along : At P w K mg base 3 "_along" ["row"] F__along) (C_check_turn : At P w K mg base 5 "check_turn" ["value"] F_check_turn) : FnG P w K mg base 6 f fd ["turn"] F_turn_back := by
  refine fng_of (n0 := 0) (k := 5) U sc_turn_back (fun cdv A outer s H E hg hr => ?_)
  exact (rss_cons (rs_drop (hs := rfl) (re_call (hdb := (by decide)) (he := sn_name) (hpl := rfl) C_check_turn hg (hr.mono (by decide)) rfl (ra_cons (hs := sn_name) (v 0) ra_nil)))
  (rss_cons (rs_asg (hs := rfl) (hw := rfl) (h1 := rfl) (v 0) (rg_tupK K rfl (hn := rfl) (hst := rfl) rfl (rgs_cons (hs := rfl) (rg_name (i := 1) sc_turn_back.nd rfl (by first | exact Or.inl rfl | exact Or.inr rfl)) (rgs_cons (hs := rfl) (rg_name (i := 2) sc_turn_back.nd rfl (by first | exact Or.inl rfl | exact Or.inr rfl)) (rgs_cons (hs := rfl) (rg_name (i := 3) sc_turn_back.nd rfl (by first | exact Or.inl rfl | exact Or.inr rfl)) (rgs_cons (hs := rfl) (rg_name (i := 4) sc_turn_back.nd rfl (by first | exact Or.inl rfl | exact Or.inr rfl)) rgs_nil))))))
  (rss_one (rs_ret (re_call (hdb := (by decide)) (he := sn_tup) (hpl := rfl) C__along hg (hr.mono (by decide)) rfl (ra_cons (hs := sn_tup) (re_tup (ra_cons (hs := sn_name) (v 1) (ra_cons (hs := sn_un) (re_neg (v 2)) (ra_cons (hs := sn_un) (re_neg (v 3)) (ra_cons (hs := sn_un) (re_neg (v 4)) ra_nil))))) ra_nil))))))
def b_turn_times : FS := (fSeq (fDrop (fCall F_check_turn (fConsA (fVar 0) fNilA)))
  (fSeq (fDrop (fCall F_check_whole_to (fConsA (fVar 1) (fConsA (fLit c__MOST_TIMES) fNilA))))
  (fSeq (fSet 2 (fLit c__STILL))
  (fSeq (fFor (fRng1 (fConsA (fVar 1) fNilA)) (aName 3) (fSet 2 (fCall F_joined_turns (fConsA (fVar 2) (fConsA (fVar 0) fNilA)))))
  (fRet (fVar 2))))))
def F_turn_times : FnS := mkF 2 4 0 b_turn_times
theorem ok_turn_times {f : Addr} {fd : FuncData} (U : Fun K "turn_times" "turn_times" s_turn_times f fd) (T : Tx K mg) (C_check_turn : At P w K mg base 5 "check_turn" ["value"] F_check_turn) (C_check_whole_to : At P w K mg base 2 "check_whole_to" ["value", "most"] F_check_whole_to) (C_joined_turns : At P w K mg base 6 "joined_turns" ["turn", "other"] F_joined_turns) : FnG P w K mg base 7 f fd ["turn", "many"] F_turn_times := by
  obtain ⟨v__MOST_TIMES, u__MOST_TIMES, m__MOST_TIMES, r__MOST_TIMES, d__MOST_TIMES⟩ := T.k__MOST_TIMES
  obtain ⟨v__STILL, u__STILL, m__STILL, r__STILL, d__STILL⟩ := T.k__STILL
  refine fng_of (n0 := 0) (k := 6) U sc_turn_times (fun cdv A outer s H E hg hr => ?_)
  exact (rss_cons (rs_drop (hs := rfl) (re_call (hdb := (by decide)) (he := sn_name) (hpl := rfl) C_check_turn hg (hr.mono (by decide)) rfl (ra_cons (hs := sn_name) (v 0) ra_nil)))
  (rss_cons (rs_drop (hs := rfl) (re_call (hdb := (by decide)) (he := sn_name) (hpl := rfl) C_check_whole_to hg (hr.mono (by decide)) rfl (ra_cons (hs := sn_name) (v 1) (ra_cons (hs := sn_name) (re_glob (v := v__MOST_TIMES) rfl m__MOST_TIMES r__MOST_TIMES d__MOST_TIMES) ra_nil))))
  (rss_cons (rs_set (i := 2) (hs := rfl) (hf := (by first | exact Or.inl rfl | exact Or.inr rfl)) sc_turn_times.nd rfl (by first | exact Or.inl rfl | exact Or.inr rfl) (re_glob (v := v__STILL) rfl m__STILL r__STILL d__STILL))
  (rss_cons (rs_for (hs := fun _ => rfl) PassesOwn.never rfl (ri_range1 (hs := rfl) rfl T.b_range (ra_cons (hs := sn_name) (v 1) ra_nil)) (rg_name (i := 3) sc_turn_times.nd rfl (by first | exact Or.inl rfl | exact Or.inr rfl)) (fun _ => (rss_one (rs_set (i := 2) (hs := rfl) (hf := (by first | exact Or.inl rfl | exact Or.inr rfl)) sc_turn_times.nd rfl (by first | exact Or.inl rfl | exact Or.inr rfl) (re_call (hdb := (by decide)) (he := sn_name) (hpl := rfl) C_joined_turns hg (hr.mono (by decide)) rfl (ra_cons (hs := sn_name) (v 2) (ra_cons (hs := sn_name) (v 0) ra_nil)))))))
  (rss_one (rs_ret (v 2)))))))
def b__law_source : FS := (fSeq (fSet 2 (fIf (fTru (fOp (gCmp fun i j => decide (i < j)) (fVar 1) (fBi gLen (fConsA (fVar 0) fNilA)))) (fBi gInt (fConsA (fOp gIx (fVar 0) (fVar 1)) fNilA)) (fOp gPlus (fOp gMul (fLit (.int 983)) (fVar 1)) (fLit (.int 57)))))
  (fSeq (fSet 3 (fOp gPlus (fLit (.int 60013)) (fOp gMul (fLit (.int 4001)) (fVar 1))))
  (fSeq (fFor (fIt (fSl (fVar 0) fNoPart (fPart (fLit (.int 8))))) (aName 4) (fSet 3 (fOp gMod (fBi gInt (fConsA (fOp gPlus (fOp gPlus (fOp gMul (fVar 3) (fLit (.int 48611))) (fOp gMod (fBi gInt (fConsA (fVar 4) fNilA)) (fLit (.int 2147483587)))) (fLit (.int 19))) fNilA)) (fLit (.int 2147483629)))))
  (fSeq (fSet 5 (fOp gMod (fBi gInt (fConsA (fOp gPlus (fOp gMul (fVar 3) (fLit (.int 83))) (fOp gMul (fOp gMod (fBi gInt (fConsA (fVar 2) fNilA)) (fLit (.int 2147483587))) (fLit (.int 20011)))) fNilA)) (fLit (.int 2147483629))))
  (fRetL (fLst (fConsA (fIf (fOrT (fTru (fOp (gCmp fun i j => decide (i < j)) (fVar 2) (fLit (.int 0)))) (fTru (fOp (gCmp fun i j => decide (j ≤ i)) (fVar 2) (fOp gPow (fLit (.int 10)) (fLit (.int 17)))))) (fBi gAbs (fConsA (fVar 2) fNilA)) (fLit (.int 0))) (fConsA (fVar 5) (fConsA (fLit (.int 0)) fNilA)))))))))
def F__law_source : FnS := mkF 2 6 0 b__law_source
theorem ok__law_source {f : Addr} {fd : FuncData} (U : Fun K "_law_source" "_law_source" s__law_source f fd) (T : Tx K mg)  : FnG P w K mg base 1 f fd ["_law_script", "_law_at"] F__law_source := by
  refine fng_of (n0 := 0) (k := 0) U sc__law_source (fun cdv A outer s H E hg hr => ?_)
  exact (rss_cons (rs_set (i := 2) (hs := rfl) (hf := (by first | exact Or.inl rfl | exact Or.inr rfl)) sc__law_source.nd rfl (by first | exact Or.inl rfl | exact Or.inr rfl) (re_if (rt_lt (v 1) (re_len (he := sn_name) rfl T.b_len (ra_cons (hs := sn_name) (v 0) ra_nil))) (re_intc (he := sn_sub) rfl T.b_int (ra_cons (hs := sn_sub) (re_ix (hs := fun _ _ => rfl) (v 0) (v 1)) ra_nil)) (re_plus (re_mul re_int (v 1)) re_int)))
  (rss_cons (rs_set (i := 3) (hs := rfl) (hf := (by first | exact Or.inl rfl | exact Or.inr rfl)) sc__law_source.nd rfl (by first | exact Or.inl rfl | exact Or.inr rfl) (re_plus re_int (re_mul re_int (v 1))))
  (rss_cons (rs_for (hs := fun _ => rfl) PassesOwn.never rfl (ri_seq (re_sl (v 0) ro_none (ro_some re_int))) (rg_name (i := 4) sc__law_source.nd rfl (by first | exact Or.inl rfl | exact Or.inr rfl)) (fun _ => (rss_one (rs_set (i := 3) (hs := rfl) (hf := (by first | exact Or.inl rfl | exact Or.inr rfl)) sc__law_source.nd rfl (by first | exact Or.inl rfl | exact Or.inr rfl) (re_mod (re_intc (he := sn_bin) rfl T.b_int (ra_cons (hs := sn_bin) (re_plus (re_plus (re_mul (v 3) re_int) (re_mod (re_intc (he := sn_name) rfl T.b_int (ra_cons (hs := sn_name) (v 4) ra_nil)) re_int)) re_int) ra_nil)) re_int)))))
  (rss_cons (rs_set (i := 5) (hs := rfl) (hf := (by first | exact Or.inl rfl | exact Or.inr rfl)) sc__law_source.nd rfl (by first | exact Or.inl rfl | exact Or.inr rfl) (re_mod (re_intc (he := sn_bin) rfl T.b_int (ra_cons (hs := sn_bin) (re_plus (re_mul (v 3) re_int) (re_mul (re_mod (re_intc (he := sn_name) rfl T.b_int (ra_cons (hs := sn_name) (v 2) ra_nil)) re_int) re_int)) ra_nil)) re_int))
  (rss_one (rs_retL (rl_lst (ra_cons (hs := sn_if) (re_if (rt_w (rw_or (rt_lt (v 2) re_int) (rw_or1 (rt_ge (v 2) (re_pow re_int re_int))))) (re_abs (he := sn_name) rfl T.b_abs (ra_cons (hs := sn_name) (v 2) ra_nil)) re_int) (ra_cons (hs := sn_name) (v 5) (ra_cons (hs := sn_const) re_int ra_nil))))))))))
def b__law_draw : FS := (fSeq (fIfS (fTru (fOp (gCmp fun i j => decide (j < i)) (fCix 0 (fLit (.int 0))) (fLit (.int 0)))) (fSeq (fSetc2 0 (fLit (.int 0)) 3 (fBi gDivmod (fConsA (fCix 0 (fLit (.int 0))) (fConsA (fVar 1) fNilA))))
  (fRet (fVar 3))) fSkip)
  (fSeq (fSetc 0 (fLit (.int 2)) (fOp gPlus (fCix 0 (fLit (.int 2))) (fLit (.int 1))))
  (fSeq (fSet 2 (fOp gMod (fBi gInt (fConsA (fOp gPlus (fOp gMul (fCix 0 (fLit (.int 1))) (fLit (.int 16807))) (fOp gMul (fCix 0 (fLit (.int 2))) (fLit (.int 65539)))) fNilA)) (fLit (.int 2147483587))))
  (fSeq (fSetc 0 (fLit (.int 1)) (fOp gMod (fBi gInt (fConsA (fOp gPlus (fOp gMul (fVar 2) (fOp gPlus (fOp gMul (fLit (.int 2)) (fOp gDiv (fVar 2) (fLit (.int 11)))) (fLit (.int 30011)))) (fCix 0 (fLit (.int 2)))) fNilA)) (fLit (.int 2147483629))))
  (fRet (fOp gMod (fBi gInt (fConsA (fOp gDiv (fCix 0 (fLit (.int 1))) (fLit (.int 257))) fNilA)) (fVar 1)))))))
def F__law_draw : FnS := mkF 2 4 1 b__law_draw
theorem ok__law_draw {f : Addr} {fd : FuncData} (U : Fun K "_law_draw" "_law_draw" s__law_draw f fd) (T : Tx K mg)  : FnG P w K mg base 1 f fd ["_law_source_here", "_law_top"] F__law_draw := by
  refine fng_of (n0 := 1) (k := 0) U sc__law_draw (fun cdv A outer s H E hg hr => ?_)
  exact (rss_cons (rs_if (rt_gt (re_cix (i := 0) (hd := (by decide)) (hcd := (by decide)) (hs := fun _ _ => rfl) rfl (by first | exact Or.inl rfl | exact Or.inr (Or.inl rfl) | exact Or.inr (Or.inr rfl)) re_int) re_int) (rss_cons (rs_setc2 (i := 0) (j := 3) (hd := (by decide)) (hcd := (by decide)) (ha := fun _ => rfl) (hf := (by first | exact Or.inl rfl | exact Or.inr rfl)) rfl sc__law_draw.nd rfl (by first | exact Or.inl rfl | exact Or.inr (Or.inl rfl) | exact Or.inr (Or.inr rfl)) rfl (by first | exact Or.inl rfl | exact Or.inr rfl) (by decide) re_int (re_divmod (he := sn_sub) (hpl := rfl) rfl T.b_divmod (ra_cons (hs := sn_sub) (re_cix (i := 0) (hd := (by decide)) (hcd := (by decide)) (hs := fun _ _ => rfl) rfl (by first | exact Or.inl rfl | exact Or.inr (Or.inl rfl) | exact Or.inr (Or.inr rfl)) re_int) (ra_cons (hs := sn_name) (v 1) ra_nil))) (P := fun t ht => ps_asg ht (pg_tup rfl (pgs_cons (pg_sub (pe_var (i := 0) rfl (by first | exact Or.inl rfl | exact Or.inr (Or.inl rfl) | exact Or.inr (Or.inr rfl))) (pwE _) set_list) (pgs_cons (pg_name (i := 3) sc__law_draw.nd rfl (by first | exact Or.inl rfl | exact Or.inr rfl)) pgs_nil)))))
  (rss_one (rs_ret (v 3)))) rss_nil)
  (rss_cons (rs_setc (i := 0) (hd := (by decide)) (hcd := (by decide)) (ha := fun _ => rfl) (hs := rfl) (hw := rfl) (h1 := rfl) rfl (by first | exact Or.inl rfl | exact Or.inr (Or.inl rfl) | exact Or.inr (Or.inr rfl)) re_int (re_plus (re_cix (i := 0) (hd := (by decide)) (hcd := (by decide)) (hs := fun _ _ => rfl) rfl (by first | exact Or.inl rfl | exact Or.inr (Or.inl rfl) | exact Or.inr (Or.inr rfl)) re_int) re_int))
  (rss_cons (rs_set (i := 2) (hs := rfl) (hf := (by first | exact Or.inl rfl | exact Or.inr rfl)) sc__law_draw.nd rfl (by first | exact Or.inl rfl | exact Or.inr rfl) (re_mod (re_intc (he := sn_bin) rfl T.b_int (ra_cons (hs := sn_bin) (re_plus (re_mul (re_cix (i := 0) (hd := (by decide)) (hcd := (by decide)) (hs := fun _ _ => rfl) rfl (by first | exact Or.inl rfl | exact Or.inr (Or.inl rfl) | exact Or.inr (Or.inr rfl)) re_int) re_int) (re_mul (re_cix (i := 0) (hd := (by decide)) (hcd := (by decide)) (hs := fun _ _ => rfl) rfl (by first | exact Or.inl rfl | exact Or.inr (Or.inl rfl) | exact Or.inr (Or.inr rfl)) re_int) re_int)) ra_nil)) re_int))
  (rss_cons (rs_setc (i := 0) (hd := (by decide)) (hcd := (by decide)) (ha := fun _ => rfl) (hs := rfl) (hw := rfl) (h1 := rfl) rfl (by first | exact Or.inl rfl | exact Or.inr (Or.inl rfl) | exact Or.inr (Or.inr rfl)) re_int (re_mod (re_intc (he := sn_bin) rfl T.b_int (ra_cons (hs := sn_bin) (re_plus (re_mul (v 2) (re_plus (re_mul re_int (re_div (v 2) re_int)) re_int)) (re_cix (i := 0) (hd := (by decide)) (hcd := (by decide)) (hs := fun _ _ => rfl) rfl (by first | exact Or.inl rfl | exact Or.inr (Or.inl rfl) | exact Or.inr (Or.inr rfl)) re_int)) ra_nil)) re_int))
  (rss_one (rs_ret (re_mod (re_intc (he := sn_bin) rfl T.b_int (ra_cons (hs := sn_bin) (re_div (re_cix (i := 0) (hd := (by decide)) (hcd := (by decide)) (hs := fun _ _ => rfl) rfl (by first | exact Or.inl rfl | exact Or.inr (Or.inl rfl) | exact Or.inr (Or.inr rfl)) re_int) re_int) ra_nil)) (v 1))))))))
def b__law_pick : FS := (fRet (fOp gIx (fVar 1) (fCall F__law_draw (fCelA 0 (fConsA (fBi gLen (fConsA (fVar 1) fNilA)) fNilA)))))
def F__law_pick : FnS := mkF 2 2 1 b__law_pick
theorem ok__law_pick {f : Addr} {fd : FuncData} (U : Fun K "_law_pick" "_law_pick" s__law_pick f fd) (T : Tx K mg) (C__law_draw : At P w K mg base 1 "_law_draw" ["_law_source_here", "_law_top"] F__law_draw) : FnG P w K mg base 2 f fd ["_law_source_here", "_law_some"] F__law_pick := by
  refine fng_of (n0 := 1) (k := 1) U sc__law_pick (fun cdv A outer s H E hg hr => ?_)
  exact (rss_one (rs_ret (re_ix (hs := fun _ _ => rfl) (v 1) (re_call (hdb := (by decide)) (he := sn_name) (hpl := rfl) C__law_draw hg (hr.mono (by decide)) rfl (ra_cel (i := 0) (hd := (by decide)) (hcd := (by decide)) (hs := sn_name) rfl (by first | exact Or.inl rfl | exact Or.inr (Or.inl rfl) | exact Or.inr (Or.inr rfl)) (ra_cons (hs := sn_call) (re_len (he := sn_name) rfl T.b_len (ra_cons (hs := sn_name) (v 1) ra_nil)) ra_nil))))))
def b__law_about : FS := (fRet (fOp gSub (fCall F__law_draw (fCelA 0 (fConsA (fOp gPlus (fOp gMul (fLit (.int 2)) (fVar 1)) (fLit (.int 1))) fNilA))) (fVar 1)))
def F__law_about : FnS := mkF 2 2 1 b__law_about
theorem ok__law_about {f : Addr} {fd : FuncData} (U : Fun K "_law_about" "_law_about" s__law_about f fd) (T : Tx K mg) (C__law_draw : At P w K mg base 1 "_law_draw" ["_law_source_here", "_law_top"] F__law_draw) : FnG P w K mg base 2 f fd ["_law_source_here", "_law_most"] F__law_about := by
  refine fng_of (n0 := 1) (k := 1) U sc__law_about (fun cdv A outer s H E hg hr => ?_)
  exact (rss_one (rs_ret (re_sub (re_call (hdb := (by decide)) (he := sn_name) (hpl := rfl) C__law_draw hg (hr.mono (by decide)) rfl (ra_cel (i := 0) (hd := (by decide)) (hcd := (by decide)) (hs := sn_name) rfl (by first | exact Or.inl rfl | exact Or.inr (Or.inl rfl) | exact Or.inr (Or.inr rfl)) (ra_cons (hs := sn_bin) (re_plus (re_mul re_int (v 1)) re_int) ra_nil))) (v 1))))
def b__law_common : FS := (fSeq (fSet 1 (fLit (.int 0)))
  (fSeq (fFor (fIt (fVar 0)) (aName 2) (fSeq (fPar 3 4 (fConsA (fVar 1) (fConsA (fBi gAbs (fConsA (fVar 2) fNilA)) fNilA)))
  (fSeq (fWhile (fTru (fOp gNe (fVar 4) (fLit (.int 0)))) (fPar 3 4 (fConsA (fVar 4) (fConsA (fOp gMod (fBi gInt (fConsA (fVar 3) fNilA)) (fVar 4)) fNilA))))
  (fSet 1 (fVar 3)))))
  (fRet (fVar 1))))
def F__law_common : FnS := mkF 1 5 0 b__law_common
theorem ok__law_common {f : Addr} {fd : FuncData} (U : Fun K "_law_common" "_law_common" s__law_common f fd) (T : Tx K mg)  : FnG P w K mg base 1 f fd ["_law_row"] F__law_common := by
  refine fng_of (n0 := 0) (k := 0) U sc__law_common (fun cdv A outer s H E hg hr => ?_)
  exact (rss_cons (rs_set (i := 1) (hs := rfl) (hf := (by first | exact Or.inl rfl | exact Or.inr rfl)) sc__law_common.nd rfl (by first | exact Or.inl rfl | exact Or.inr rfl) re_int)
  (rss_cons (rs_for (hs := fun _ => rfl) PassesOwn.never rfl (ri_seq (v 0)) (rg_name (i := 2) sc__law_common.nd rfl (by first | exact Or.inl rfl | exact Or.inr rfl)) (fun _ => (rss_cons (rs_par (i := 3) (j := 4) rfl sc__law_common.nd rfl rfl (by decide) rfl rfl (ra_cons (hs := sn_name) (v 1) (ra_cons (hs := sn_call) (re_abs (he := sn_name) rfl T.b_abs (ra_cons (hs := sn_name) (v 2) ra_nil)) ra_nil)) (P := ps_par (by rfl) sc__law_common.nd rfl rfl (by decide) rfl rfl (pwA _) (by rfl)))
  (rss_cons (rs_while PassesOwn.never (rt_ne (hu64 hr) (v 4) re_int) (fun _ => (rss_one (rs_par (i := 3) (j := 4) rfl sc__law_common.nd rfl rfl (by decide) rfl rfl (ra_cons (hs := sn_name) (v 4) (ra_cons (hs := sn_bin) (re_mod (re_intc (he := sn_name) rfl T.b_int (ra_cons (hs := sn_name) (v 3) ra_nil)) (v 4)) ra_nil)) (P := ps_par (by rfl) sc__law_common.nd rfl rfl (by decide) rfl rfl (pwA _) (by rfl))))))
  (rss_one (rs_set (i := 1) (hs := rfl) (hf := (by first | exact Or.inl rfl | exact Or.inr rfl)) sc__law_common.nd rfl (by first | exact Or.inl rfl | exact Or.inr rfl) (v 3)))))))
  (rss_one (rs_ret (v 1)))))
def b__law_low : FS := (fSeq (fSet 1 (fBi gMax (fConsA (fLit (.int 1)) (fConsA (fCall F__law_common (fConsA (fVar 0) fNilA)) fNilA))))
  (fRet (fBi gTuple (fConsA (fOfL (fLc (fIt (fVar 0)) (aName 2) fYes (fOp gDiv (fVar 2) (fVar 1)) [2])) fNilA))))
def F__law_low : FnS := mkF 1 3 0 b__law_low
theorem ok__law_low {f : Addr} {fd : FuncData} (U : Fun K "_law_low" "_law_low" s__law_low f fd) (T : Tx K mg) (C__law_common : At P w K mg base 1 "_law_common" ["_law_row"] F__law_common) : FnG P w K mg base 2 f fd ["_law_row"] F__law_low := by
  refine fng_of (n0 := 0) (k := 1) U sc__law_low (fun cdv A outer s H E hg hr => ?_)
  exact (rss_cons (rs_set (i := 1) (hs := rfl) (hf := (by first | exact Or.inl rfl | exact Or.inr rfl)) sc__law_low.nd rfl (by first | exact Or.inl rfl | exact Or.inr rfl) (re_max (he := sn_const) (hpl := rfl) rfl rfl T.b_max (ra_cons (hs := sn_const) re_int (ra_cons (hs := sn_call) (re_call (hdb := (by decide)) (he := sn_name) (hpl := rfl) C__law_common hg (hr.mono (by decide)) rfl (ra_cons (hs := sn_name) (v 0) ra_nil)) ra_nil))))
  (rss_one (rs_ret (re_tuple (he := sn_lc) rfl T.b_tuple (ra_cons (hs := sn_lc) (re_ofL (rl_lc (own := [("_law_part", 2)]) (hs := fun _ => rfl) rfl sc__law_low.nd (ri_seq (v 0)) (blkOk_by (N := n__law_low) (sc := defScope s__law_low) (by decide +kernel)) (fun _ _ _ _ _ => (rg_name (i := 2) sc__law_low.nd rfl (by first | exact Or.inl rfl | exact Or.inr rfl))) (fun _ _ _ _ _ => rts_nil) (fun _ _ _ _ _ => (re_div (v 2) (v 1))) (by decide))) ra_nil)))))
def b__law_along : FS := (fSeq (fSet 1 (fCall F__law_low (fConsA (fVar 0) fNilA)))
  (fSeq (fSet 2 (fOp gIx (fOfL (fLc (fIt (fVar 1)) (aName 3) (fTru (fOp gNe (fVar 3) (fLit (.int 0)))) (fVar 3) [3])) (fLit (.int 0))))
  (fRet (fIf (fTru (fOp (gCmp fun i j => decide (j < i)) (fVar 2) (fLit (.int 0)))) (fVar 1) (fBi gTuple (fConsA (fOfL (fLc (fIt (fVar 1)) (aName 3) fYes (fOp gSub (fLit (.int 0)) (fVar 3)) [3])) fNilA))))))
def F__law_along : FnS := mkF 1 4 0 b__law_along
theorem ok__law_along {f : Addr} {fd : FuncData} (U : Fun K "_law_along" "_law_along" s__law_along f fd) (T : Tx K mg) (C__law_low : At P w K mg base 2 "_law_low" ["_law_row"] F__law_low) : FnG P w K mg base 3 f fd ["_law_four_here"] F__law_along := by
  refine fng_of (n0 := 0) (k := 2) U sc__law_along (fun cdv A outer s H E hg hr => ?_)
  exact (rss_cons (rs_set (i := 1) (hs := rfl) (hf := (by first | exact Or.inl rfl | exact Or.inr rfl)) sc__law_along.nd rfl (by first | exact Or.inl rfl | exact Or.inr rfl) (re_call (hdb := (by decide)) (he := sn_name) (hpl := rfl) C__law_low hg (hr.mono (by decide)) rfl (ra_cons (hs := sn_name) (v 0) ra_nil)))
  (rss_cons (rs_set (i := 2) (hs := rfl) (hf := (by first | exact Or.inl rfl | exact Or.inr rfl)) sc__law_along.nd rfl (by first | exact Or.inl rfl | exact Or.inr rfl) (re_ix (hs := fun _ _ => rfl) (re_ofL (rl_lc (own := [("_law_part", 3)]) (hs := fun _ => rfl) rfl sc__law_along.nd (ri_seq (v 1)) (blkOk_by (N := n__law_along) (sc := defScope s__law_along) (by decide +kernel)) (fun _ _ _ _ _ => (rg_name (i := 3) sc__law_along.nd rfl (by first | exact Or.inl rfl | exact Or.inr rfl))) (fun _ _ _ _ _ => (rts_one (rt_ne (hu64 hr) (v 3) re_int))) (fun _ _ _ _ _ => (v 3)) (by decide))) re_int))
  (rss_one (rs_ret (re_if (rt_gt (v 2) re_int) (v 1) (re_tuple (he := sn_lc) rfl T.b_tuple (ra_cons (hs := sn_lc) (re_ofL (rl_lc (own := [("_law_part", 3)]) (hs := fun _ => rfl) rfl sc__law_along.nd (ri_seq (v 1)) (blkOk_by (N := n__law_along) (sc := defScope s__law_along) (by decide +kernel)) (fun _ _ _ _ _ => (rg_name (i := 3) sc__law_along.nd rfl (by first | exact Or.inl rfl | exact Or.inr rfl))) (fun _ _ _ _ _ => rts_nil) (fun _ _ _ _ _ => (re_sub re_int (v 3))) (by decide))) ra_nil)))))))
def b__law_mult : FS := (fSeq (fAsg (aTup 4 (aCons (aName 3) (aCons (aName 4) (aCons (aName 5) (aCons (aName 6) aNil))))) (fVar 0))
  (fSeq (fAsg (aTup 4 (aCons (aName 7) (aCons (aName 8) (aCons (aName 9) (aCons (aName 10) aNil))))) (fVar 1))
  (fSeq (fSet 2 (fOp gSub (fOp gSub (fOp gSub (fOp gMul (fVar 3) (fVar 7)) (fOp gMul (fVar 4) (fVar 8))) (fOp gMul (fVar 5) (fVar 9))) (fOp gMul (fVar 6) (fVar 10))))
  (fRet (fTup (fConsA (fVar 2) (fConsA (fOp gSub (fOp gPlus (fOp gPlus (fOp gMul (fVar 3) (fVar 8)) (fOp gMul (fVar 4) (fVar 7))) (fOp gMul (fVar 5) (fVar 10))) (fOp gMul (fVar 6) (fVar 9))) (fConsA (fOp gPlus (fOp gPlus (fOp gSub (fOp gMul (fVar 3) (fVar 9)) (fOp gMul (fVar 4) (fVar 10))) (fOp gMul (fVar 5) (fVar 7))) (fOp gMul (fVar 6) (fVar 8))) (fConsA (fOp gPlus (fOp gSub (fOp gPlus (fOp gMul (fVar 3) (fVar 10)) (fOp gMul (fVar 4) (fVar 9))) (fOp gMul (fVar 5) (fVar 8))) (fOp gMul (fVar 6) (fVar 7))) fNilA)))))))))
def F__law_mult : FnS := mkF 2 11 0 b__law_mult
theorem ok__law_mult {f : Addr} {fd : FuncData} (U : Fun K "_law_mult" "_law_mult" s__law_mult f fd) (T : Tx K mg)  : FnG P w K mg base 1 f fd ["_law_one", "_law_two"] F__law_mult := by
  refine fng_of (n0 := 0) (k := 0) U sc__law_mult (fun cdv A outer s H E hg hr => ?_)
  exact (rss_cons (rs_asg (hs := rfl) (hw := rfl) (h1 := rfl) (v 0) (rg_tupK K rfl (hn := rfl) (hst := rfl) rfl (rgs_cons (hs := rfl) (rg_name (i := 3) sc__law_mult.nd rfl (by first | exact Or.inl rfl | exact Or.inr rfl)) (rgs_cons (hs := rfl) (rg_name (i := 4) sc__law_mult.nd rfl (by first | exact Or.inl rfl | exact Or.inr rfl)) (rgs_cons (hs := rfl) (rg_name (i := 5) sc__law_mult.nd rfl (by first | exact Or.inl rfl | exact Or.inr rfl)) (rgs_cons (hs := rfl) (rg_name (i := 6) sc__law_mult.nd rfl (by first | exact Or.inl rfl | exact Or.inr rfl)) rgs_nil))))))
  (rss_cons (rs_asg (hs := rfl) (hw := rfl) (h1 := rfl) (v 1) (rg_tupK K rfl (hn := rfl) (hst := rfl) rfl (rgs_cons (hs := rfl) (rg_name (i := 7) sc__law_mult.nd rfl (by first | exact Or.inl rfl | exact Or.inr rfl)) (rgs_cons (hs := rfl) (rg_name (i := 8) sc__law_mult.nd rfl (by first | exact Or.inl rfl | exact Or.inr rfl)) (rgs_cons (hs := rfl) (rg_name (i := 9) sc__law_mult.nd rfl (by first | exact Or.inl rfl | exact Or.inr rfl)) (rgs_cons (hs := rfl) (rg_name (i := 10) sc__law_mult.nd rfl (by first | exact Or.inl rfl | exact Or.inr rfl)) rgs_nil))))))
  (rss_cons (rs_set (i := 2) (hs := rfl) (hf := (by first | exact Or.inl rfl | exact Or.inr rfl)) sc__law_mult.nd rfl (by first | exact Or.inl rfl | exact Or.inr rfl) (re_sub (re_sub (re_sub (re_mul (v 3) (v 7)) (re_mul (v 4) (v 8))) (re_mul (v 5) (v 9))) (re_mul (v 6) (v 10))))
  (rss_one (rs_ret (re_tup (ra_cons (hs := sn_name) (v 2) (ra_cons (hs := sn_bin) (re_sub (re_plus (re_plus (re_mul (v 3) (v 8)) (re_mul (v 4) (v 7))) (re_mul (v 5) (v 10))) (re_mul (v 6) (v 9))) (ra_cons (hs := sn_bin) (re_plus (re_plus (re_sub (re_mul (v 3) (v 9)) (re_mul (v 4) (v 10))) (re_mul (v 5) (v 7))) (re_mul (v 6) (v 8))) (ra_cons (hs := sn_bin) (re_plus (re_sub (re_plus (re_mul (v 3) (v 10)) (re_mul (v 4) (v 9))) (re_mul (v 5) (v 8))) (re_mul (v 6) (v 7))) ra_nil))))))))))
def b__law_both : FS := (fRet (fCall F__law_along (fConsA (fCall F__law_mult (fConsA (fVar 1) (fConsA (fVar 0) fNilA))) fNilA)))
def F__law_both : FnS := mkF 2 2 0 b__law_both
theorem ok__law_both {f : Addr} {fd : FuncData} (U : Fun K "_law_both" "_law_both" s__law_both f fd) (T : Tx K mg) (C__law_along : At P w K mg base 3 "_law_along" ["_law_four_here"] F__law_along) (C__law_mult : At P w K mg base 1 "_law_mult" ["_law_one", "_law_two"] F__law_mult) : FnG P w K mg base 4 f fd ["_law_one", "_law_two"] F__law_both := by
  refine fng_of (n0 := 0) (k := 3) U sc__law_both (fun cdv A outer s H E hg hr => ?_)
  exact (rss_one (rs_ret (re_call (hdb := (by decide)) (he := sn_call) (hpl := rfl) C__law_along hg (hr.mono (by decide)) rfl (ra_cons (hs := sn_call) (re_call (hdb := (by decide)) (he := sn_name) (hpl := rfl) C__law_mult hg (hr.mono (by decide)) rfl (ra_cons (hs := sn_name) (v 1) (ra_cons (hs := sn_name) (v 0) ra_nil))) ra_nil))))
def b__law_spin : FS := (fSeq (fAsg (aTup 2 (aCons (aName 2) (aCons (aName 3) aNil))) (fTup (fConsA (fCall F__law_draw (fCelA 0 (fConsA (fLit (.int 8)) fNilA))) (fConsA (fCall F__law_pick (fCelA 0 (fConsA (fTup (fConsA (fLit (.int 1)) (fConsA (fLit (.int 1)) (fConsA (fLit (.int 2)) (fConsA (fLit (.int 3)) (fConsA (fLit (.int 9)) (fConsA (fLit (.int 100)) fNilA))))))) fNilA))) fNilA))))
  (fSeq (fNew 1 (fLc (fRng1 (fConsA (fLit (.int 4)) fNilA)) (aName 4) fYes (fCall F__law_about (fCelA 0 (fConsA (fVar 3) fNilA))) [4]))
  (fSeq (fIfS (fTru (fOp gEq (fVar 2) (fLit (.int 0)))) (fNew 1 (fList (fCall F__law_pick (fCelA 0 (fConsA (fTup (fConsA (fTup (fConsA (fLit (.int 1)) (fConsA (fLit (.int 1)) (fConsA (fLit (.int 1)) (fConsA (fLit (.int 1)) fNilA))))) (fConsA (fTup (fConsA (fLit (.int 1)) (fConsA (fLit (.int 1)) (fConsA (fLit (.int 0)) (fConsA (fLit (.int 0)) fNilA))))) (fConsA (fTup (fConsA (fLit (.int 3)) (fConsA (fLit (.int 1)) (fConsA (fLit (.int 1)) (fConsA (fLit (.int 1)) fNilA))))) (fConsA (fTup (fConsA (fLit (.int 0)) (fConsA (fLit (.int 1)) (fConsA (fLit (.int 1)) (fConsA (fLit (.int 0)) fNilA))))) (fConsA (fTup (fConsA (fLit (.int 1)) (fConsA (fLit (.int 0)) (fConsA (fLit (.int 0)) (fConsA (fLit (.int 0)) fNilA))))) (fConsA (fTup (fConsA (fLit (.int 1)) (fConsA (fLit (.int 0)) (fConsA (fLit (.int 0)) (fConsA (fLit (.int 1)) fNilA))))) fNilA))))))) fNilA))))) fSkip)
  (fSeq (fIfS (fTru (fOp gEq (fVar 2) (fLit (.int 1)))) (fSetc 1 (fLit (.int 0)) (fLit (.int 0))) fSkip)
  (fSeq (fIfS (fTru (fOp gEq (fVar 2) (fLit (.int 2)))) (fNew 1 (fLst (fConsA (fCix 1 (fLit (.int 0))) (fConsA (fLit (.int 0)) (fConsA (fLit (.int 0)) (fConsA (fCix 1 (fLit (.int 3))) fNilA)))))) fSkip)
  (fSeq (fIfS (fTru (fOp gEq (fVar 2) (fLit (.int 3)))) (fSetc 1 (fLit (.int 3)) (fLit (.int 0))) fSkip)
  (fFrz n0__law_spin 1 (fRet (fIf (fTru (fOp gNe (fVar 1) (fOfL (fLst (fConsA (fLit (.int 0)) (fConsA (fLit (.int 0)) (fConsA (fLit (.int 0)) (fConsA (fLit (.int 0)) fNilA)))))))) (fCall F__law_along (fConsA (fVar 1) fNilA)) (fTup (fConsA (fLit (.int 0)) (fConsA (fLit (.int 0)) (fConsA (fLit (.int 0)) (fConsA (fLit (.int 1)) fNilA))))))))))))))
def F__law_spin : FnS := mkF 1 5 1 b__law_spin
theorem ok__law_spin {f : Addr} {fd : FuncData} (U : Fun K "_law_spin" "_law_spin" s__law_spin f fd) (T : Tx K mg) (C__law_about : At P w K mg base 2 "_law_about" ["_law_source_here", "_law_most"] F__law_about) (C__law_along : At P w K mg base 3 "_law_along" ["_law_four_here"] F__law_along) (C__law_draw : At P w K mg base 1 "_law_draw" ["_law_source_here", "_law_top"] F__law_draw) (C__law_pick : At P w K mg base 2 "_law_pick" ["_law_source_here", "_law_some"] F__law_pick) : FnG P w K mg base 4 f fd ["_law_source_here"] F__law_spin := by
  refine fng_of (n0 := 1) (k := 3) U sc__law_spin (fun cdv A outer s H E hg hr => ?_)
  exact (rss_cons (rs_asg (hs := rfl) (hw := rfl) (h1 := rfl) (re_tup (ra_cons (hs := sn_call) (re_call (hdb := (by decide)) (he := sn_name) (hpl := rfl) C__law_draw hg (hr.mono (by decide)) rfl (ra_cel (i := 0) (hd := (by decide)) (hcd := (by decide)) (hs := sn_name) rfl (by first | exact Or.inl rfl | exact Or.inr (Or.inl rfl) | exact Or.inr (Or.inr rfl)) (ra_cons (hs := sn_const) re_int ra_nil))) (ra_cons (hs := sn_call) (re_call (hdb := (by decide)) (he := sn_name) (hpl := rfl) C__law_pick hg (hr.mono (by decide)) rfl (ra_cel (i := 0) (hd := (by decide)) (hcd := (by decide)) (hs := sn_name) rfl (by first | exact Or.inl rfl | exact Or.inr (Or.inl rfl) | exact Or.inr (Or.inr rfl)) (ra_cons (hs := sn_tup) (re_tup (ra_cons (hs := sn_const) re_int (ra_cons (hs := sn_const) re_int (ra_cons (hs := sn_const) re_int (ra_cons (hs := sn_const) re_int (ra_cons (hs := sn_const) re_int (ra_cons (hs := sn_const) re_int ra_nil))))))) ra_nil))) ra_nil))) (rg_tupK K rfl (hn := rfl) (hst := rfl) rfl (rgs_cons (hs := rfl) (rg_name (i := 2) sc__law_spin.nd rfl (by first | exact Or.inl rfl | exact Or.inr rfl)) (rgs_cons (hs := rfl) (rg_name (i := 3) sc__law_spin.nd rfl (by first | exact Or.inl rfl | exact Or.inr rfl)) rgs_nil))))
  (rss_cons (rs_newLc (i := 1) (own := [("_law_k", 4)]) (hs := fun _ => rfl) rfl sc__law_spin.nd rfl rfl (sw_true rfl rfl rfl (by decide +kernel)) (ri_range1 (hs := rfl) rfl T.b_range (ra_cons (hs := sn_const) re_int ra_nil)) (blkOk_by (N := n__law_spin) (sc := defScope s__law_spin) (by decide +kernel)) (fun _ _ _ _ _ => (rg_name (i := 4) sc__law_spin.nd rfl (by first | exact Or.inl rfl | exact Or.inr rfl))) (fun _ _ _ _ _ => rts_nil) (fun _ _ _ _ _ => (re_call (hdb := (by decide)) (he := sn_name) (hpl := rfl) C__law_about hg (hr.mono (by decide)) rfl (ra_cel (i := 0) (hd := (by decide)) (hcd := (by decide)) (hs := sn_name) rfl (by first | exact Or.inl rfl | exact Or.inr (Or.inl rfl) | exact Or.inr (Or.inr rfl)) (ra_cons (hs := sn_name) (v 3) ra_nil)))) (by decide))
  (rss_cons (rs_if (rt_eq (hu64 hr) (v 2) re_int) (rss_one (rs_new (i := 1) (hs := rfl) (hf := (by first | exact Or.inl rfl | exact Or.inr rfl)) sc__law_spin.nd rfl (by first | exact Or.inl rfl | exact Or.inr rfl) (rl_list (he := sn_call) rfl T.b_list (re_call (hdb := (by decide)) (he := sn_name) (hpl := rfl) C__law_pick hg (hr.mono (by decide)) rfl (ra_cel (i := 0) (hd := (by decide)) (hcd := (by decide)) (hs := sn_name) rfl (by first | exact Or.inl rfl | exact Or.inr (Or.inl rfl) | exact Or.inr (Or.inr rfl)) (ra_cons (hs := sn_tup) (re_tup (ra_cons (hs := sn_tup) (re_tup (ra_cons (hs := sn_const) re_int (ra_cons (hs := sn_const) re_int (ra_cons (hs := sn_const) re_int (ra_cons (hs := sn_const) re_int ra_nil))))) (ra_cons (hs := sn_tup) (re_tup (ra_cons (hs := sn_const) re_int (ra_cons (hs := sn_const) re_int (ra_cons (hs := sn_const) re_int (ra_cons (hs := sn_const) re_int ra_nil))))) (ra_cons (hs := sn_tup) (re_tup (ra_cons (hs := sn_const) re_int (ra_cons (hs := sn_const) re_int (ra_cons (hs := sn_const) re_int (ra_cons (hs := sn_const) re_int ra_nil))))) (ra_cons (hs := sn_tup) (re_tup (ra_cons (hs := sn_const) re_int (ra_cons (hs := sn_const) re_int (ra_cons (hs := sn_const) re_int (ra_cons (hs := sn_const) re_int ra_nil))))) (ra_cons (hs := sn_tup) (re_tup (ra_cons (hs := sn_const) re_int (ra_cons (hs := sn_const) re_int (ra_cons (hs := sn_const) re_int (ra_cons (hs := sn_const) re_int ra_nil))))) (ra_cons (hs := sn_tup) (re_tup (ra_cons (hs := sn_const) re_int (ra_cons (hs := sn_const) re_int (ra_cons (hs := sn_const) re_int (ra_cons (hs := sn_const) re_int ra_nil))))) ra_nil))))))) ra_nil)))))) rss_nil)
  (rss_cons (rs_if (rt_eq (hu64 hr) (v 2) re_int) (rss_one (rs_setc (i := 1) (hd := (by decide)) (hcd := (by decide)) (ha := fun _ => rfl) (hs := rfl) (hw := rfl) (h1 := rfl) rfl (by first | exact Or.inl rfl | exact Or.inr (Or.inl rfl) | exact Or.inr (Or.inr rfl)) re_int re_int)) rss_nil)
  (rss_cons (rs_if (rt_eq (hu64 hr) (v 2) re_int) (rss_one (rs_new (i := 1) (hs := rfl) (hf := (by first | exact Or.inl rfl | exact Or.inr rfl)) sc__law_spin.nd rfl (by first | exact Or.inl rfl | exact Or.inr rfl) (rl_lst (ra_cons (hs := sn_sub) (re_cix (i := 1) (hd := (by decide)) (hcd := (by decide)) (hs := fun _ _ => rfl) rfl (by first | exact Or.inl rfl | exact Or.inr (Or.inl rfl) | exact Or.inr (Or.inr rfl)) re_int) (ra_cons (hs := sn_const) re_int (ra_cons (hs := sn_const) re_int (ra_cons (hs := sn_sub) (re_cix (i := 1) (hd := (by decide)) (hcd := (by decide)) (hs := fun _ _ => rfl) rfl (by first | exact Or.inl rfl | exact Or.inr (Or.inl rfl) | exact Or.inr (Or.inr rfl)) re_int) ra_nil))))))) rss_nil)
  (rss_cons (rs_if (rt_eq (hu64 hr) (v 2) re_int) (rss_one (rs_setc (i := 1) (hd := (by decide)) (hcd := (by decide)) (ha := fun _ => rfl) (hs := rfl) (hw := rfl) (h1 := rfl) rfl (by first | exact Or.inl rfl | exact Or.inr (Or.inl rfl) | exact Or.inr (Or.inr rfl)) re_int re_int)) rss_nil)
  (rss_frz (rss_one (rs_ret (re_if (rt_ne (hu64 hr) (v 1) (re_ofL (rl_lst (ra_cons (hs := sn_const) re_int (ra_cons (hs := sn_const) re_int (ra_cons (hs := sn_const) re_int (ra_cons (hs := sn_const) re_int ra_nil))))))) (re_call (hdb := (by decide)) (he := sn_name) (hpl := rfl) C__law_along hg (hr.mono (by decide)) rfl (ra_cons (hs := sn_name) (v 1) ra_nil)) (re_tup (ra_cons (hs := sn_const) re_int (ra_cons (hs := sn_const) re_int (ra_cons (hs := sn_const) re_int (ra_cons (hs := sn_const) re_int ra_nil)))))))))))))))
def b__law_kind : FS := (fSeq (fPar 1 2 (fConsA (fCall F__law_draw (fCelA 0 (fConsA (fLit (.int 3)) fNilA))) (fConsA (fCall F__law_pick (fCelA 0 (fConsA (fTup (fConsA (fLit (.int 1)) (fConsA (fLit (.int 2)) (fConsA (fLit (.int 3)) (fConsA (fLit (.int 9)) fNilA))))) fNilA))) fNilA)))
  (fSeq (fIfS (fTru (fOp gEq (fVar 1) (fLit (.int 0)))) (fSeq (fAsg (aTup 2 (aCons (aName 6) (aCons (aName 7) aNil))) (fTup (fConsA (fCall F__law_draw (fCelA 0 (fConsA (fLit (.int 3)) fNilA))) (fConsA (fOp gSub (fLit (.int 1)) (fOp gMul (fLit (.int 2)) (fCall F__law_draw (fCelA 0 (fConsA (fLit (.int 2)) fNilA))))) fNilA))))
  (fRet (fBi gTuple (fConsA (fOp gPlus (fOfL (fLc (fRng1 (fConsA (fLit (.int 3)) fNilA)) (aName 8) fYes (fIf (fTru (fOp gEq (fVar 8) (fVar 6))) (fVar 7) (fLit (.int 0))) [8])) (fOfL (fLst (fConsA (fLit (.int 1)) fNilA)))) fNilA)))) fSkip)
  (fSeq (fPar3 3 4 5 (fConsA (fCall F__law_about (fCelA 0 (fConsA (fVar 2) fNilA))) (fConsA (fCall F__law_about (fCelA 0 (fConsA (fVar 2) fNilA))) (fConsA (fOp gPlus (fLit (.int 1)) (fCall F__law_draw (fCelA 0 (fConsA (fVar 2) fNilA)))) fNilA))))
  (fRet (fCall F__law_low (fConsA (fTup (fConsA (fOp gMul (fOp gMul (fLit (.int 2)) (fVar 3)) (fVar 5)) (fConsA (fOp gMul (fOp gMul (fLit (.int 2)) (fVar 4)) (fVar 5)) (fConsA (fOp gSub (fOp gSub (fOp gMul (fVar 5) (fVar 5)) (fOp gMul (fVar 3) (fVar 3))) (fOp gMul (fVar 4) (fVar 4))) (fConsA (fOp gPlus (fOp gPlus (fOp gMul (fVar 5) (fVar 5)) (fOp gMul (fVar 3) (fVar 3))) (fOp gMul (fVar 4) (fVar 4))) fNilA))))) fNilA))))))
def F__law_kind : FnS := mkF 1 9 1 b__law_kind
theorem ok__law_kind {f : Addr} {fd : FuncData} (U : Fun K "_law_kind" "_law_kind" s__law_kind f fd) (T : Tx K mg) (C__law_about : At P w K mg base 2 "_law_about" ["_law_source_here", "_law_most"] F__law_about) (C__law_draw : At P w K mg base 1 "_law_draw" ["_law_source_here", "_law_top"] F__law_draw) (C__law_low : At P w K mg base 2 "_law_low" ["_law_row"] F__law_low) (C__law_pick : At P w K mg base 2 "_law_pick" ["_law_source_here", "_law_some"] F__law_pick) : FnG P w K mg base 3 f fd ["_law_source_here"] F__law_kind := by
  refine fng_of (n0 := 1) (k := 2) U sc__law_kind (fun cdv A outer s H E hg hr => ?_)
  exact (rss_cons (rs_par (i := 1) (j := 2) rfl sc__law_kind.nd rfl rfl (by decide) rfl rfl (ra_cons (hs := sn_call) (re_call (hdb := (by decide)) (he := sn_name) (hpl := rfl) C__law_draw hg (hr.mono (by decide)) rfl (ra_cel (i := 0) (hd := (by decide)) (hcd := (by decide)) (hs := sn_name) rfl (by first | exact Or.inl rfl | exact Or.inr (Or.inl rfl) | exact Or.inr (Or.inr rfl)) (ra_cons (hs := sn_const) re_int ra_nil))) (ra_cons (hs := sn_call) (re_call (hdb := (by decide)) (he := sn_name) (hpl := rfl) C__law_pick hg (hr.mono (by decide)) rfl (ra_cel (i := 0) (hd := (by decide)) (hcd := (by decide)) (hs := sn_name) rfl (by first | exact Or.inl rfl | exact Or.inr (Or.inl rfl) | exact Or.inr (Or.inr rfl)) (ra_cons (hs := sn_tup) (re_tup (ra_cons (hs := sn_const) re_int (ra_cons (hs := sn_const) re_int (ra_cons (hs := sn_const) re_int (ra_cons (hs := sn_const) re_int ra_nil))))) ra_nil))) ra_nil)) (P := ps_par (by rfl) sc__law_kind.nd rfl rfl (by decide) rfl rfl (pwA _) (by rfl)))
  (rss_cons (rs_if (rt_eq (hu64 hr) (v 1) re_int) (rss_cons (rs_asg (hs := rfl) (hw := rfl) (h1 := rfl) (re_tup (ra_cons (hs := sn_call) (re_call (hdb := (by decide)) (he := sn_name) (hpl := rfl) C__law_draw hg (hr.mono (by decide)) rfl (ra_cel (i := 0) (hd := (by decide)) (hcd := (by decide)) (hs := sn_name) rfl (by first | exact Or.inl rfl | exact Or.inr (Or.inl rfl) | exact Or.inr (Or.inr rfl)) (ra_cons (hs := sn_const) re_int ra_nil))) (ra_cons (hs := sn_bin) (re_sub re_int (re_mul re_int (re_call (hdb := (by decide)) (he := sn_name) (hpl := rfl) C__law_draw hg (hr.mono (by decide)) rfl (ra_cel (i := 0) (hd := (by decide)) (hcd := (by decide)) (hs := sn_name) rfl (by first | exact Or.inl rfl | exact Or.inr (Or.inl rfl) | exact Or.inr (Or.inr rfl)) (ra_cons (hs := sn_const) re_int ra_nil))))) ra_nil))) (rg_tupK K rfl (hn := rfl) (hst := rfl) rfl (rgs_cons (hs := rfl) (rg_name (i := 6) sc__law_kind.nd rfl (by first | exact Or.inl rfl | exact Or.inr rfl)) (rgs_cons (hs := rfl) (rg_name (i := 7) sc__law_kind.nd rfl (by first | exact Or.inl rfl | exact Or.inr rfl)) rgs_nil))))
  (rss_one (rs_ret (re_tuple (he := sn_bin) rfl T.b_tuple (ra_cons (hs := sn_bin) (re_plus (re_ofL (rl_lc (own := [("_law_k", 8)]) (hs := fun _ => rfl) rfl sc__law_kind.nd (ri_range1 (hs := rfl) rfl T.b_range (ra_cons (hs := sn_const) re_int ra_nil)) (blkOk_by (N := n__law_kind) (sc := defScope s__law_kind) (by decide +kernel)) (fun _ _ _ _ _ => (rg_name (i := 8) sc__law_kind.nd rfl (by first | exact Or.inl rfl | exact Or.inr rfl))) (fun _ _ _ _ _ => rts_nil) (fun _ _ _ _ _ => (re_if (rt_eq (hu64 hr) (v 8) (v 6)) (v 7) re_int)) (by decide))) (re_ofL (rl_lst (ra_cons (hs := sn_const) re_int ra_nil)))) ra_nil))))) rss_nil)
  (rss_cons (rs_par3 (i := 3) (j := 4) (l := 5) (ra_cons (hs := sn_call) (re_call (hdb := (by decide)) (he := sn_name) (hpl := rfl) C__law_about hg (hr.mono (by decide)) rfl (ra_cel (i := 0) (hd := (by decide)) (hcd := (by decide)) (hs := sn_name) rfl (by first | exact Or.inl rfl | exact Or.inr (Or.inl rfl) | exact Or.inr (Or.inr rfl)) (ra_cons (hs := sn_name) (v 2) ra_nil))) (ra_cons (hs := sn_call) (re_call (hdb := (by decide)) (he := sn_name) (hpl := rfl) C__law_about hg (hr.mono (by decide)) rfl (ra_cel (i := 0) (hd := (by decide)) (hcd := (by decide)) (hs := sn_name) rfl (by first | exact Or.inl rfl | exact Or.inr (Or.inl rfl) | exact Or.inr (Or.inr rfl)) (ra_cons (hs := sn_name) (v 2) ra_nil))) (ra_cons (hs := sn_bin) (re_plus re_int (re_call (hdb := (by decide)) (he := sn_name) (hpl := rfl) C__law_draw hg (hr.mono (by decide)) rfl (ra_cel (i := 0) (hd := (by decide)) (hcd := (by decide)) (hs := sn_name) rfl (by first | exact Or.inl rfl | exact Or.inr (Or.inl rfl) | exact Or.inr (Or.inr rfl)) (ra_cons (hs := sn_name) (v 2) ra_nil)))) ra_nil))) (P := ps_par3 (by rfl) sc__law_kind.nd rfl rfl rfl (by decide) (by decide) (by decide) rfl rfl rfl (pwA _) (by rfl)))
  (rss_one (rs_ret (re_call (hdb := (by decide)) (he := sn_tup) (hpl := rfl) C__law_low hg (hr.mono (by decide)) rfl (ra_cons (hs := sn_tup) (re_tup (ra_cons (hs := sn_bin) (re_mul (re_mul re_int (v 3)) (v 5)) (ra_cons (hs := sn_bin) (re_mul (re_mul re_int (v 4)) (v 5)) (ra_cons (hs := sn_bin) (re_sub (re_sub (re_mul (v 5) (v 5)) (re_mul (v 3) (v 3))) (re_mul (v 4) (v 4))) (ra_cons (hs := sn_bin) (re_plus (re_plus (re_mul (v 5) (v 5)) (re_mul (v 3) (v 3))) (re_mul (v 4) (v 4))) ra_nil))))) ra_nil)))))))
def b__law_slot : FS := (fSeq (fPar 1 2 (fConsA (fCall F__law_draw (fCelA 0 (fConsA (fLit (.int 4)) fNilA))) (fConsA (fCall F__law_pick (fCelA 0 (fConsA (fTup (fConsA (fLit (.int 1)) (fConsA (fLit (.int 2)) (fConsA (fLit (.int 3)) (fConsA (fLit (.int 9)) (fConsA (fLit (.int 100)) fNilA)))))) fNilA))) fNilA)))
  (fSeq (fIfS (fTru (fOp gEq (fVar 1) (fLit (.int 0)))) (fRet (fCall F__law_pick (fCelA 0 (fConsA (fTup (fConsA (fTup (fConsA (fLit (.int 0)) (fConsA (fLit (.int 1)) fNilA))) (fConsA (fTup (fConsA (fLit (.int 1)) (fConsA (fLit (.int 0)) fNilA))) (fConsA (fTup (fConsA (fLit (.int 1)) (fConsA (fLit (.int 1)) fNilA))) (fConsA (fTup (fConsA (fUn gNeg (fLit (.int 1))) (fConsA (fLit (.int 1)) fNilA))) fNilA))))) fNilA)))) fSkip)
  (fRet (fCall F__law_low (fConsA (fTup (fConsA (fCall F__law_about (fCelA 0 (fConsA (fVar 2) fNilA))) (fConsA (fOp gPlus (fLit (.int 1)) (fCall F__law_draw (fCelA 0 (fConsA (fVar 2) fNilA)))) fNilA))) fNilA)))))
def F__law_slot : FnS := mkF 1 3 1 b__law_slot
theorem ok__law_slot {f : Addr} {fd : FuncData} (U : Fun K "_law_slot" "_law_slot" s__law_slot f fd) (T : Tx K mg) (C__law_about : At P w K mg base 2 "_law_about" ["_law_source_here", "_law_most"] F__law_about) (C__law_draw : At P w K mg base 1 "_law_draw" ["_law_source_here", "_law_top"] F__law_draw) (C__law_low : At P w K mg base 2 "_law_low" ["_law_row"] F__law_low) (C__law_pick : At P w K mg base 2 "_law_pick" ["_law_source_here", "_law_some"] F__law_pick) : FnG P w K mg base 3 f fd ["_law_source_here"] F__law_slot := by
  refine fng_of (n0 := 1) (k := 2) U sc__law_slot (fun cdv A outer s H E hg hr => ?_)
  exact (rss_cons (rs_par (i := 1) (j := 2) rfl sc__law_slot.nd rfl rfl (by decide) rfl rfl (ra_cons (hs := sn_call) (re_call (hdb := (by decide)) (he := sn_name) (hpl := rfl) C__law_draw hg (hr.mono (by decide)) rfl (ra_cel (i := 0) (hd := (by decide)) (hcd := (by decide)) (hs := sn_name) rfl (by first | exact Or.inl rfl | exact Or.inr (Or.inl rfl) | exact Or.inr (Or.inr rfl)) (ra_cons (hs := sn_const) re_int ra_nil))) (ra_cons (hs := sn_call) (re_call (hdb := (by decide)) (he := sn_name) (hpl := rfl) C__law_pick hg (hr.mono (by decide)) rfl (ra_cel (i := 0) (hd := (by decide)) (hcd := (by decide)) (hs := sn_name) rfl (by first | exact Or.inl rfl | exact Or.inr (Or.inl rfl) | exact Or.inr (Or.inr rfl)) (ra_cons (hs := sn_tup) (re_tup (ra_cons (hs := sn_const) re_int (ra_cons (hs := sn_const) re_int (ra_cons (hs := sn_const) re_int (ra_cons (hs := sn_const) re_int (ra_cons (hs := sn_const) re_int ra_nil)))))) ra_nil))) ra_nil)) (P := ps_par (by rfl) sc__law_slot.nd rfl rfl (by decide) rfl rfl (pwA _) (by rfl)))
  (rss_cons (rs_if (rt_eq (hu64 hr) (v 1) re_int) (rss_one (rs_ret (re_call (hdb := (by decide)) (he := sn_name) (hpl := rfl) C__law_pick hg (hr.mono (by decide)) rfl (ra_cel (i := 0) (hd := (by decide)) (hcd := (by decide)) (hs := sn_name) rfl (by first | exact Or.inl rfl | exact Or.inr (Or.inl rfl) | exact Or.inr (Or.inr rfl)) (ra_cons (hs := sn_tup) (re_tup (ra_cons (hs := sn_tup) (re_tup (ra_cons (hs := sn_const) re_int (ra_cons (hs := sn_const) re_int ra_nil))) (ra_cons (hs := sn_tup) (re_tup (ra_cons (hs := sn_const) re_int (ra_cons (hs := sn_const) re_int ra_nil))) (ra_cons (hs := sn_tup) (re_tup (ra_cons (hs := sn_const) re_int (ra_cons (hs := sn_const) re_int ra_nil))) (ra_cons (hs := sn_tup) (re_tup (ra_cons (hs := sn_un) (re_neg re_int) (ra_cons (hs := sn_const) re_int ra_nil))) ra_nil))))) ra_nil))))) rss_nil)
  (rss_one (rs_ret (re_call (hdb := (by decide)) (he := sn_tup) (hpl := rfl) C__law_low hg (hr.mono (by decide)) rfl (ra_cons (hs := sn_tup) (re_tup (ra_cons (hs := sn_call) (re_call (hdb := (by decide)) (he := sn_name) (hpl := rfl) C__law_about hg (hr.mono (by decide)) rfl (ra_cel (i := 0) (hd := (by decide)) (hcd := (by decide)) (hs := sn_name) rfl (by first | exact Or.inl rfl | exact Or.inr (Or.inl rfl) | exact Or.inr (Or.inr rfl)) (ra_cons (hs := sn_name) (v 2) ra_nil))) (ra_cons (hs := sn_bin) (re_plus re_int (re_call (hdb := (by decide)) (he := sn_name) (hpl := rfl) C__law_draw hg (hr.mono (by decide)) rfl (ra_cel (i := 0) (hd := (by decide)) (hcd := (by decide)) (hs := sn_name) rfl (by first | exact Or.inl rfl | exact Or.inr (Or.inl rfl) | exact Or.inr (Or.inr rfl)) (ra_cons (hs := sn_name) (v 2) ra_nil)))) ra_nil))) ra_nil))))))
def b__law_number : FS := (fSeq (fIfS (fTru (fOp (gCmp fun i j => decide (j < i)) (fVar 1) (fLit (.int 0)))) (fRet (fCall F__law_about (fCelA 0 (fConsA (fVar 1) fNilA)))) fSkip)
  (fRet (fOp gPlus (fOp gMul (fCall F__law_about (fCelA 0 (fConsA (fLit (.int 999999)) fNilA))) (fOp gPow (fLit (.int 10)) (fLit (.int 6)))) (fCall F__law_draw (fCelA 0 (fConsA (fOp gPow (fLit (.int 10)) (fLit (.int 6))) fNilA))))))
def F__law_number : FnS := mkF 2 2 1 b__law_number
theorem ok__law_number {f : Addr} {fd : FuncData} (U : Fun K "_law_number" "_law_number" s__law_number f fd) (T : Tx K mg) (C__law_about : At P w K mg base 2 "_law_about" ["_law_source_here", "_law_most"] F__law_about) (C__law_draw : At P w K mg base 1 "_law_draw" ["_law_source_here", "_law_top"] F__law_draw) : FnG P w K mg base 3 f fd ["_law_source_here", "_law_most"] F__law_number := by
  refine fng_of (n0 := 1) (k := 2) U sc__law_number (fun cdv A outer s H E hg hr => ?_)
  exact (rss_cons (rs_if (rt_gt (v 1) re_int) (rss_one (rs_ret (re_call (hdb := (by decide)) (he := sn_name) (hpl := rfl) C__law_about hg (hr.mono (by decide)) rfl (ra_cel (i := 0) (hd := (by decide)) (hcd := (by decide)) (hs := sn_name) rfl (by first | exact Or.inl rfl | exact Or.inr (Or.inl rfl) | exact Or.inr (Or.inr rfl)) (ra_cons (hs := sn_name) (v 1) ra_nil))))) rss_nil)
  (rss_one (rs_ret (re_plus (re_mul (re_call (hdb := (by decide)) (he := sn_name) (hpl := rfl) C__law_about hg (hr.mono (by decide)) rfl (ra_cel (i := 0) (hd := (by decide)) (hcd := (by decide)) (hs := sn_name) rfl (by first | exact Or.inl rfl | exact Or.inr (Or.inl rfl) | exact Or.inr (Or.inr rfl)) (ra_cons (hs := sn_const) re_int ra_nil))) (re_pow re_int re_int)) (re_call (hdb := (by decide)) (he := sn_name) (hpl := rfl) C__law_draw hg (hr.mono (by decide)) rfl (ra_cel (i := 0) (hd := (by decide)) (hcd := (by decide)) (hs := sn_name) rfl (by first | exact Or.inl rfl | exact Or.inr (Or.inl rfl) | exact Or.inr (Or.inr rfl)) (ra_cons (hs := sn_bin) (re_pow re_int re_int) ra_nil)))))))
def b__law_four : FS := (fSeq (fSet 1 (fCall F__law_pick (fCelA 0 (fConsA (fTup (fConsA (fLit (.int 1)) (fConsA (fLit (.int 2)) (fConsA (fLit (.int 3)) (fConsA (fLit (.int 9)) (fConsA (fLit (.int 1000)) (fConsA (fLit (.int 0)) fNilA))))))) fNilA))))
  (fSeq (fSet 2 (fBi gTuple (fConsA (fOfL (fLc (fRng1 (fConsA (fLit (.int 4)) fNilA)) (aName 3) fYes (fCall F__law_number (fCelA 0 (fConsA (fVar 1) fNilA))) [3])) fNilA)))
  (fRet (fIf (fTru (fOp gNe (fVar 2) (fTup (fConsA (fLit (.int 0)) (fConsA (fLit (.int 0)) (fConsA (fLit (.int 0)) (fConsA (fLit (.int 0)) fNilA))))))) (fVar 2) (fTup (fConsA (fLit (.int 0)) (fConsA (fLit (.int 0)) (fConsA (fUn gNeg (fLit (.int 5))) (fConsA (fLit (.int 0)) fNilA)))))))))
def F__law_four : FnS := mkF 1 4 1 b__law_four
theorem ok__law_four {f : Addr} {fd : FuncData} (U : Fun K "_law_four" "_law_four" s__law_four f fd) (T : Tx K mg) (C__law_number : At P w K mg base 3 "_law_number" ["_law_source_here", "_law_most"] F__law_number) (C__law_pick : At P w K mg base 2 "_law_pick" ["_law_source_here", "_law_some"] F__law_pick) : FnG P w K mg base 4 f fd ["_law_source_here"] F__law_four := by
  refine fng_of (n0 := 1) (k := 3) U sc__law_four (fun cdv A outer s H E hg hr => ?_)
  exact (rss_cons (rs_set (i := 1) (hs := rfl) (hf := (by first | exact Or.inl rfl | exact Or.inr rfl)) sc__law_four.nd rfl (by first | exact Or.inl rfl | exact Or.inr rfl) (re_call (hdb := (by decide)) (he := sn_name) (hpl := rfl) C__law_pick hg (hr.mono (by decide)) rfl (ra_cel (i := 0) (hd := (by decide)) (hcd := (by decide)) (hs := sn_name) rfl (by first | exact Or.inl rfl | exact Or.inr (Or.inl rfl) | exact Or.inr (Or.inr rfl)) (ra_cons (hs := sn_tup) (re_tup (ra_cons (hs := sn_const) re_int (ra_cons (hs := sn_const) re_int (ra_cons (hs := sn_const) re_int (ra_cons (hs := sn_const) re_int (ra_cons (hs := sn_const) re_int (ra_cons (hs := sn_const) re_int ra_nil))))))) ra_nil))))
  (rss_cons (rs_set (i := 2) (hs := rfl) (hf := (by first | exact Or.inl rfl | exact Or.inr rfl)) sc__law_four.nd rfl (by first | exact Or.inl rfl | exact Or.inr rfl) (re_tuple (he := sn_lc) rfl T.b_tuple (ra_cons (hs := sn_lc) (re_ofL (rl_lc (own := [("_law_k", 3)]) (hs := fun _ => rfl) rfl sc__law_four.nd (ri_range1 (hs := rfl) rfl T.b_range (ra_cons (hs := sn_const) re_int ra_nil)) (blkOk_by (N := n__law_four) (sc := defScope s__law_four) (by decide +kernel)) (fun _ _ _ _ _ => (rg_name (i := 3) sc__law_four.nd rfl (by first | exact Or.inl rfl | exact Or.inr rfl))) (fun _ _ _ _ _ => rts_nil) (fun _ _ _ _ _ => (re_call (hdb := (by decide)) (he := sn_name) (hpl := rfl) C__law_number hg (hr.mono (by decide)) rfl (ra_cel (i := 0) (hd := (by decide)) (hcd := (by decide)) (hs := sn_name) rfl (by first | exact Or.inl rfl | exact Or.inr (Or.inl rfl) | exact Or.inr (Or.inr rfl)) (ra_cons (hs := sn_name) (v 1) ra_nil)))) (by decide))) ra_nil)))
  (rss_one (rs_ret (re_if (rt_ne (hu64 hr) (v 2) (re_tup (ra_cons (hs := sn_const) re_int (ra_cons (hs := sn_const) re_int (ra_cons (hs := sn_const) re_int (ra_cons (hs := sn_const) re_int ra_nil)))))) (v 2) (re_tup (ra_cons (hs := sn_const) re_int (ra_cons (hs := sn_const) re_int (ra_cons (hs := sn_un) (re_neg re_int) (ra_cons (hs := sn_const) re_int ra_nil))))))))))
def b__law_power : FS := (fSeq (fSet 2 (fTup (fConsA (fLit (.int 1)) (fConsA (fLit (.int 0)) (fConsA (fLit (.int 0)) (fConsA (fLit (.int 0)) fNilA))))))
  (fSeq (fFor (fRng1 (fConsA (fVar 1) fNilA)) (aName 3) (fSet 2 (fCall F__law_both (fConsA (fVar 2) (fConsA (fVar 0) fNilA)))))
  (fRet (fVar 2))))
def F__law_power : FnS := mkF 2 4 0 b__law_power
theorem ok__law_power {f : Addr} {fd : FuncData} (U : Fun K "_law_power" "_law_power" s__law_power f fd) (T : Tx K mg) (C__law_both : At P w K mg base 4 "_law_both" ["_law_one", "_law_two"] F__law_both) : FnG P w K mg base 5 f fd ["_law_spin_here", "_law_often"] F__law_power := by
  refine fng_of (n0 := 0) (k := 4) U sc__law_power (fun cdv A outer s H E hg hr => ?_)
  exact (rss_cons (rs_set (i := 2) (hs := rfl) (hf := (by first | exact Or.inl rfl | exact Or.inr rfl)) sc__law_power.nd rfl (by first | exact Or.inl rfl | exact Or.inr rfl) (re_tup (ra_cons (hs := sn_const) re_int (ra_cons (hs := sn_const) re_int (ra_cons (hs := sn_const) re_int (ra_cons (hs := sn_const) re_int ra_nil))))))
  (rss_cons (rs_for (hs := fun _ => rfl) PassesOwn.never rfl (ri_range1 (hs := rfl) rfl T.b_range (ra_cons (hs := sn_name) (v 1) ra_nil)) (rg_name (i := 3) sc__law_power.nd rfl (by first | exact Or.inl rfl | exact Or.inr rfl)) (fun _ => (rss_one (rs_set (i := 2) (hs := rfl) (hf := (by first | exact Or.inl rfl | exact Or.inr rfl)) sc__law_power.nd rfl (by first | exact Or.inl rfl | exact Or.inr rfl) (re_call (hdb := (by decide)) (he := sn_name) (hpl := rfl) C__law_both hg (hr.mono (by decide)) rfl (ra_cons (hs := sn_name) (v 2) (ra_cons (hs := sn_name) (v 0) ra_nil)))))))
  (rss_one (rs_ret (v 2)))))
def b__law_are_told : FS := (fSeq (fSet 1 (fBi gTuple (fConsA (fOfL (fLc (fIt (fVar 0)) (aName 4) fYes (fOp gSub (fLit (.int 0)) (fVar 4)) [4])) fNilA)))
  (fSeq (fSet 2 (fOfL (fLst (fConsA (fVar 1) (fConsA (fBi gTuple (fConsA (fOfL (fLc (fIt (fVar 0)) (aName 4) fYes (fOp gMul (fLit (.int 2)) (fVar 4)) [4])) fNilA)) (fConsA (fOfL (fList (fVar 0))) (fConsA (fOp gPlus (fVar 0) (fTup (fConsA (fLit (.int 0)) fNilA))) (fConsA (fSl (fVar 0) fNoPart (fPart (fLit (.int 3)))) (fConsA (fTup (fConsA (fLit (.int 0)) (fConsA (fLit (.int 0)) (fConsA (fLit (.int 0)) (fConsA (fLit (.int 0)) fNilA))))) (fConsA (fTup (fConsA (fLit (.bool true)) (fConsA (fLit (.int 0)) (fConsA (fLit (.int 0)) (fConsA (fLit (.int 0)) fNilA))))) fNilA))))))))))
  (fSeq (fSet 3 (fOp gPlus (fOp gPlus (fOfL (fLst (fConsA (fCall F_is_turn (fConsA (fVar 0) fNilA)) (fConsA (fCall F_is_turn (fConsA (fVar 0) fNilA)) fNilA)))) (fOfL (fLc (fIt (fVar 2)) (aName 5) fYes (fCall F_is_turn (fConsA (fVar 5) fNilA)) [5]))) (fOfL (fLst (fConsA (fCall F_is_turn (fConsA (fLit .none) fNilA)) (fConsA (fCall F_is_turn (fConsA (fLit (.str "1000")) fNilA)) fNilA))))))
  (fRet (fOp gEq (fBi gRepr (fConsA (fVar 3) fNilA)) (fBi gRepr (fConsA (fOp gPlus (fOfL (fLst (fConsA (fLit (.bool true)) (fConsA (fLit (.bool true)) fNilA)))) (fRep (fLst (fConsA (fLit (.bool false)) fNilA)) (fLit (.int 9)))) fNilA)))))))
def F__law_are_told : FnS := mkF 1 6 0 b__law_are_told
theorem ok__law_are_told {f : Addr} {fd : FuncData} (U : Fun K "_law_are_told" "_law_are_told" s__law_are_told f fd) (T : Tx K mg) (C_is_turn : At P w K mg base 4 "is_turn" ["value"] F_is_turn) : FnG P w K mg base 5 f fd ["_law_spin_here"] F__law_are_told := by
  refine fng_of (n0 := 0) (k := 4) U sc__law_are_told (fun cdv A outer s H E hg hr => ?_)
  exact (rss_cons (rs_set (i := 1) (hs := rfl) (hf := (by first | exact Or.inl rfl | exact Or.inr rfl)) sc__law_are_told.nd rfl (by first | exact Or.inl rfl | exact Or.inr rfl) (re_tuple (he := sn_lc) rfl T.b_tuple (ra_cons (hs := sn_lc) (re_ofL (rl_lc (own := [("_law_part", 4)]) (hs := fun _ => rfl) rfl sc__law_are_told.nd (ri_seq (v 0)) (blkOk_by (N := n__law_are_told) (sc := defScope s__law_are_told) (by decide +kernel)) (fun _ _ _ _ _ => (rg_name (i := 4) sc__law_are_told.nd rfl (by first | exact Or.inl rfl | exact Or.inr rfl))) (fun _ _ _ _ _ => rts_nil) (fun _ _ _ _ _ => (re_sub re_int (v 4))) (by decide))) ra_nil)))
  (rss_cons (rs_set (i := 2) (hs := rfl) (hf := (by first | exact Or.inl rfl | exact Or.inr rfl)) sc__law_are_told.nd rfl (by first | exact Or.inl rfl | exact Or.inr rfl) (re_ofL (rl_lst (ra_cons (hs := sn_name) (v 1) (ra_cons (hs := sn_call) (re_tuple (he := sn_lc) rfl T.b_tuple (ra_cons (hs := sn_lc) (re_ofL (rl_lc (own := [("_law_part", 4)]) (hs := fun _ => rfl) rfl sc__law_are_told.nd (ri_seq (v 0)) (blkOk_by (N := n__law_are_told) (sc := defScope s__law_are_told) (by decide +kernel)) (fun _ _ _ _ _ => (rg_name (i := 4) sc__law_are_told.nd rfl (by first | exact Or.inl rfl | exact Or.inr rfl))) (fun _ _ _ _ _ => rts_nil) (fun _ _ _ _ _ => (re_mul re_int (v 4))) (by decide))) ra_nil)) (ra_cons (hs := sn_call) (re_ofL (rl_list (he := sn_name) rfl T.b_list (v 0))) (ra_cons (hs := sn_bin) (re_plus (v 0) (re_tup (ra_cons (hs := sn_const) re_int ra_nil))) (ra_cons (hs := sn_sub) (re_sl (v 0) ro_none (ro_some re_int)) (ra_cons (hs := sn_tup) (re_tup (ra_cons (hs := sn_const) re_int (ra_cons (hs := sn_const) re_int (ra_cons (hs := sn_const) re_int (ra_cons (hs := sn_const) re_int ra_nil))))) (ra_cons (hs := sn_tup) (re_tup (ra_cons (hs := sn_const) re_bl (ra_cons (hs := sn_const) re_int (ra_cons (hs := sn_const) re_int (ra_cons (hs := sn_const) re_int ra_nil))))) ra_nil))))))))))
  (rss_cons (rs_set (i := 3) (hs := rfl) (hf := (by first | exact Or.inl rfl | exact Or.inr rfl)) sc__law_are_told.nd rfl (by first | exact Or.inl rfl | exact Or.inr rfl) (re_plus (re_plus (re_ofL (rl_lst (ra_cons (hs := sn_call) (re_call (hdb := (by decide)) (he := sn_name) (hpl := rfl) C_is_turn hg (hr.mono (by decide)) rfl (ra_cons (hs := sn_name) (v 0) ra_nil)) (ra_cons (hs := sn_call) (re_callk (hall := rfl) (hks := rfl) (hdb := (by decide)) (hpl := rfl) C_is_turn hg (hr.mono (by decide)) rfl (rk_cons (v 0) rk_nil)) ra_nil)))) (re_ofL (rl_lc (own := [("_law_each", 5)]) (hs := fun _ => rfl) rfl sc__law_are_told.nd (ri_seq (v 2)) (blkOk_by (N := n__law_are_told) (sc := defScope s__law_are_told) (by decide +kernel)) (fun _ _ _ _ _ => (rg_name (i := 5) sc__law_are_told.nd rfl (by first | exact Or.inl rfl | exact Or.inr rfl))) (fun _ _ _ _ _ => rts_nil) (fun _ _ _ _ _ => (re_call (hdb := (by decide)) (he := sn_name) (hpl := rfl) C_is_turn hg (hr.mono (by decide)) rfl (ra_cons (hs := sn_name) (v 5) ra_nil))) (by decide)))) (re_ofL (rl_lst (ra_cons (hs := sn_call) (re_call (hdb := (by decide)) (he := sn_const) (hpl := rfl) C_is_turn hg (hr.mono (by decide)) rfl (ra_cons (hs := sn_const) re_non ra_nil)) (ra_cons (hs := sn_call) (re_call (hdb := (by decide)) (he := sn_const) (hpl := rfl) C_is_turn hg (hr.mono (by decide)) rfl (ra_cons (hs := sn_const) re_str ra_nil)) ra_nil))))))
  (rss_one (rs_ret (re_eq (hu64 hr) (re_repr (he := sn_name) hg (hu64 hr) rfl T.b_repr (ra_cons (hs := sn_name) (v 3) ra_nil)) (re_repr (he := sn_bin) hg (hu64 hr) rfl T.b_repr (ra_cons (hs := sn_bin) (re_plus (re_ofL (rl_lst (ra_cons (hs := sn_const) re_bl (ra_cons (hs := sn_const) re_bl ra_nil)))) (re_rep (rl_lst (ra_cons (hs := sn_const) re_bl ra_nil)) re_int)) ra_nil))))))))
def b__law_right : FS := (fSeq (fPar 5 6 (fConsA (fCall F__law_four (fCelA 0 fNilA)) (fConsA (fCall F__law_four (fCelA 0 fNilA)) fNilA)))
  (fSeq (fSet 1 (fCall F__law_pick (fCelA 0 (fConsA (fTup (fConsA (fLit (.int 2)) (fConsA (fLit (.int 1)) (fConsA (fUn gNeg (fLit (.int 1))) (fConsA (fUn gNeg (fLit (.int 3))) (fConsA (fLit (.int 7)) fNilA)))))) fNilA))))
  (fSeq (fPar 7 8 (fConsA (fCall F__law_along (fConsA (fVar 5) fNilA)) (fConsA (fCall F__law_along (fConsA (fVar 6) fNilA)) fNilA)))
  (fSeq (fSet 2 (fOfL (fLst (fConsA (fCall F_turn_along (fConsA (fVar 5) fNilA)) (fConsA (fCall F_turn_along (fConsA (fBi gTuple (fConsA (fOfL (fLc (fIt (fVar 5)) (aName 16) fYes (fOp gMul (fVar 1) (fVar 16)) [16])) fNilA)) fNilA)) (fConsA (fCall F_turn_along (fConsA (fVar 5) fNilA)) fNilA))))))
  (fSeq (fIfS (fOrT (fTru (fOp gNe (fBi gRepr (fConsA (fVar 2) fNilA)) (fBi gRepr (fConsA (fRep (fLst (fConsA (fVar 7) fNilA)) (fLit (.int 3))) fNilA)))) (fNotT (fTru (fCall F__law_are_told (fConsA (fVar 7) fNilA))))) (fRet (fLit (.bool false))) fSkip)
  (fSeq (fSet 2 (fOfL (fLst (fConsA (fCall F_joined_turns (fConsA (fVar 7) (fConsA (fVar 8) fNilA))) (fConsA (fCall F_joined_turns (fPerm [1, 0] (fConsA (fVar 8) (fConsA (fVar 7) fNilA)))) (fConsA (fCall F_joined_turns (fConsA (fVar 8) (fConsA (fVar 7) fNilA))) fNilA))))))
  (fSeq (fIfS (fTru (fOp gNe (fBi gRepr (fConsA (fVar 2) fNilA)) (fBi gRepr (fConsA (fOfL (fLst (fConsA (fCall F__law_both (fConsA (fVar 7) (fConsA (fVar 8) fNilA))) (fConsA (fCall F__law_both (fConsA (fVar 7) (fConsA (fVar 8) fNilA))) (fConsA (fCall F__law_both (fConsA (fVar 8) (fConsA (fVar 7) fNilA))) fNilA))))) fNilA)))) (fRet (fLit (.bool false))) fSkip)
  (fSeq (fSet 3 (fCall F__law_along (fConsA (fTup (fConsA (fOp gIx (fVar 7) (fLit (.int 0))) (fConsA (fOp gSub (fLit (.int 0)) (fOp gIx (fVar 7) (fLit (.int 1)))) (fConsA (fOp gSub (fLit (.int 0)) (fOp gIx (fVar 7) (fLit (.int 2)))) (fConsA (fOp gSub (fLit (.int 0)) (fOp gIx (fVar 7) (fLit (.int 3)))) fNilA))))) fNilA)))
  (fSeq (fSet 2 (fOfL (fLst (fConsA (fCall F_turn_back (fConsA (fVar 7) fNilA)) (fConsA (fCall F_turn_back (fConsA (fVar 7) fNilA)) (fConsA (fCall F_joined_turns (fConsA (fVar 7) (fConsA (fCall F_turn_back (fConsA (fVar 7) fNilA)) fNilA))) (fConsA (fCall F_joined_turns (fConsA (fCall F_turn_back (fConsA (fVar 7) fNilA)) (fConsA (fVar 7) fNilA))) fNilA)))))))
  (fSeq (fIfS (fTru (fOp gNe (fBi gRepr (fConsA (fVar 2) fNilA)) (fBi gRepr (fConsA (fOfL (fLst (fConsA (fVar 3) (fConsA (fVar 3) (fConsA (fTup (fConsA (fLit (.int 1)) (fConsA (fLit (.int 0)) (fConsA (fLit (.int 0)) (fConsA (fLit (.int 0)) fNilA))))) (fConsA (fTup (fConsA (fLit (.int 1)) (fConsA (fLit (.int 0)) (fConsA (fLit (.int 0)) (fConsA (fLit (.int 0)) fNilA))))) fNilA)))))) fNilA)))) (fRet (fLit (.bool false))) fSkip)
  (fSeq (fPar3 9 10 11 (fConsA (fCall F__law_spin (fCelA 0 fNilA)) (fConsA (fCall F__law_draw (fCelA 0 (fConsA (fLit (.int 13)) fNilA))) (fConsA (fCall F__law_draw (fCelA 0 (fConsA (fLit (.int 13)) fNilA))) fNilA))))
  (fSeq (fNew 2 (fLst (fConsA (fCall F_turn_times (fConsA (fVar 9) (fConsA (fVar 10) fNilA))) (fConsA (fCall F_turn_times (fPerm [1, 0] (fConsA (fVar 10) (fConsA (fVar 9) fNilA)))) (fConsA (fCall F_turn_times (fConsA (fVar 9) (fConsA (fLit (.int 0)) fNilA))) (fConsA (fCall F_turn_times (fConsA (fVar 9) (fConsA (fLit (.int 1)) fNilA))) fNilA))))))
  (fSeq (fApp 2 (fCall F_joined_turns (fConsA (fCall F_turn_times (fConsA (fVar 9) (fConsA (fVar 10) fNilA))) (fConsA (fCall F_turn_times (fConsA (fVar 9) (fConsA (fVar 11) fNilA))) fNilA))))
  (fSeq (fApp 2 (fCall F_turn_times (fConsA (fVar 9) (fConsA (fOp gPlus (fVar 10) (fVar 11)) fNilA))))
  (fFrz n0__law_right 2 (fSeq (fPar 12 13 (fConsA (fCall F__law_power (fConsA (fVar 9) (fConsA (fVar 10) fNilA))) (fConsA (fCall F__law_power (fConsA (fVar 9) (fConsA (fOp gPlus (fVar 10) (fVar 11)) fNilA))) fNilA)))
  (fSeq (fIfS (fTru (fOp gNe (fBi gRepr (fConsA (fVar 2) fNilA)) (fBi gRepr (fConsA (fOfL (fLst (fConsA (fVar 12) (fConsA (fVar 12) (fConsA (fTup (fConsA (fLit (.int 1)) (fConsA (fLit (.int 0)) (fConsA (fLit (.int 0)) (fConsA (fLit (.int 0)) fNilA))))) (fConsA (fVar 9) (fConsA (fVar 13) (fConsA (fVar 13) fNilA)))))))) fNilA)))) (fRet (fLit (.bool false))) fSkip)
  (fSeq (fPar 14 15 (fConsA (fCall F__law_kind (fCelA 0 fNilA)) (fConsA (fCall F__law_slot (fCelA 0 fNilA)) fNilA)))
  (fSeq (fSet 4 (fCall F__law_along (fConsA (fTup (fConsA (fOp gMul (fOp gIx (fVar 15) (fLit (.int 1))) (fOp gIx (fVar 14) (fLit (.int 3)))) (fConsA (fOp gMul (fOp gIx (fVar 15) (fLit (.int 0))) (fOp gIx (fVar 14) (fLit (.int 0)))) (fConsA (fOp gMul (fOp gIx (fVar 15) (fLit (.int 0))) (fOp gIx (fVar 14) (fLit (.int 1)))) (fConsA (fOp gMul (fOp gIx (fVar 15) (fLit (.int 0))) (fOp gIx (fVar 14) (fLit (.int 2)))) fNilA))))) fNilA)))
  (fRet (fOp gEq (fBi gRepr (fConsA (fOfL (fLst (fConsA (fCall F_turn_about (fConsA (fVar 14) (fConsA (fVar 15) fNilA))) (fConsA (fCall F_turn_about (fPerm [1, 0] (fConsA (fVar 15) (fConsA (fVar 14) fNilA)))) fNilA)))) fNilA)) (fBi gRepr (fConsA (fOfL (fLst (fConsA (fVar 4) (fConsA (fVar 4) fNilA)))) fNilA)))))))))))))))))))))))
def F__law_right : FnS := mkF 1 17 1 b__law_right
theorem ok__law_right {f : Addr} {fd : FuncData} (U : Fun K "_law_right" "_law_right" s__law_right f fd) (T : Tx K mg) (C__law_along : At P w K mg base 3 "_law_along" ["_law_four_here"] F__law_along) (C__law_are_told : At P w K mg base 5 "_law_are_told" ["_law_spin_here"] F__law_are_told) (C__law_both : At P w K mg base 4 "_law_both" ["_law_one", "_law_two"] F__law_both) (C__law_draw : At P w K mg base 1 "_law_draw" ["_law_source_here", "_law_top"] F__law_draw) (C__law_four : At P w K mg base 4 "_law_four" ["_law_source_here"] F__law_four) (C__law_kind : At P w K mg base 3 "_law_kind" ["_law_source_here"] F__law_kind) (C__law_pick : At P w K mg base 2 "_law_pick" ["_law_source_here", "_law_some"] F__law_pick) (C__law_power : At P w K mg base 5 "_law_power" ["_law_spin_here", "_law_often"] F__law_power) (C__law_slot : At P w K mg base 3 "_law_slot" ["_law_source_here"] F__law_slot) (C__law_spin : At P w K mg base 4 "_law_spin" ["_law_source_here"] F__law_spin) (C_joined_turns : At P w K mg base 6 "joined_turns" ["turn", "other"] F_joined_turns) (C_turn_about : At P w K mg base 6 "turn_about" ["kind", "setting"] F_turn_about) (C_turn_along : At P w K mg base 4 "turn_along" ["numbers"] F_turn_along) (C_turn_back : At P w K mg base 6 "turn_back" ["turn"] F_turn_back) (C_turn_times : At P w K mg base 7 "turn_times" ["turn", "many"] F_turn_times) (C_joined_turns_by10 : AtP P w K mg base 6 "joined_turns" ["turn", "other"] ["other", "turn"] [1, 0] F_joined_turns) (C_turn_about_by10 : AtP P w K mg base 6 "turn_about" ["kind", "setting"] ["setting", "kind"] [1, 0] F_turn_about) (C_turn_times_by10 : AtP P w K mg base 7 "turn_times" ["turn", "many"] ["many", "turn"] [1, 0] F_turn_times) : FnG P w K mg base 8 f fd ["_law_source_here"] F__law_right := by
  refine fng_of (n0 := 1) (k := 7) U sc__law_right (fun cdv A outer s H E hg hr => ?_)
  exact (rss_cons (rs_par (i := 5) (j := 6) rfl sc__law_right.nd rfl rfl (by decide) rfl rfl (ra_cons (hs := sn_call) (re_call (hdb := (by decide)) (he := sn_name) (hpl := rfl) C__law_four hg (hr.mono (by decide)) rfl (ra_cel (i := 0) (hd := (by decide)) (hcd := (by decide)) (hs := sn_name) rfl (by first | exact Or.inl rfl | exact Or.inr (Or.inl rfl) | exact Or.inr (Or.inr rfl)) ra_nil)) (ra_cons (hs := sn_call) (re_call (hdb := (by decide)) (he := sn_name) (hpl := rfl) C__law_four hg (hr.mono (by decide)) rfl (ra_cel (i := 0) (hd := (by decide)) (hcd := (by decide)) (hs := sn_name) rfl (by first | exact Or.inl rfl | exact Or.inr (Or.inl rfl) | exact Or.inr (Or.inr rfl)) ra_nil)) ra_nil)) (P := ps_par (by rfl) sc__law_right.nd rfl rfl (by decide) rfl rfl (pwA _) (by rfl)))
  (rss_cons (rs_set (i := 1) (hs := rfl) (hf := (by first | exact Or.inl rfl | exact Or.inr rfl)) sc__law_right.nd rfl (by first | exact Or.inl rfl | exact Or.inr rfl) (re_call (hdb := (by decide)) (he := sn_name) (hpl := rfl) C__law_pick hg (hr.mono (by decide)) rfl (ra_cel (i := 0) (hd := (by decide)) (hcd := (by decide)) (hs := sn_name) rfl (by first | exact Or.inl rfl | exact Or.inr (Or.inl rfl) | exact Or.inr (Or.inr rfl)) (ra_cons (hs := sn_tup) (re_tup (ra_cons (hs := sn_const) re_int (ra_cons (hs := sn_const) re_int (ra_cons (hs := sn_un) (re_neg re_int) (ra_cons (hs := sn_un) (re_neg re_int) (ra_cons (hs := sn_const) re_int ra_nil)))))) ra_nil))))
  (rss_cons (rs_par (i := 7) (j := 8) rfl sc__law_right.nd rfl rfl (by decide) rfl rfl (ra_cons (hs := sn_call) (re_call (hdb := (by decide)) (he := sn_name) (hpl := rfl) C__law_along hg (hr.mono (by decide)) rfl (ra_cons (hs := sn_name) (v 5) ra_nil)) (ra_cons (hs := sn_call) (re_call (hdb := (by decide)) (he := sn_name) (hpl := rfl) C__law_along hg (hr.mono (by decide)) rfl (ra_cons (hs := sn_name) (v 6) ra_nil)) ra_nil)) (P := ps_par (by rfl) sc__law_right.nd rfl rfl (by decide) rfl rfl (pwA _) (by rfl)))
  (rss_cons (rs_set (i := 2) (hs := rfl) (hf := (by first | exact Or.inl rfl | exact Or.inr rfl)) sc__law_right.nd rfl (by first | exact Or.inl rfl | exact Or.inr rfl) (re_ofL (rl_lst (ra_cons (hs := sn_call) (re_call (hdb := (by decide)) (he := sn_name) (hpl := rfl) C_turn_along hg (hr.mono (by decide)) rfl (ra_cons (hs := sn_name) (v 5) ra_nil)) (ra_cons (hs := sn_call) (re_call (hdb := (by decide)) (he := sn_call) (hpl := rfl) C_turn_along hg (hr.mono (by decide)) rfl (ra_cons (hs := sn_call) (re_tuple (he := sn_lc) rfl T.b_tuple (ra_cons (hs := sn_lc) (re_ofL (rl_lc (own := [("_law_part", 16)]) (hs := fun _ => rfl) rfl sc__law_right.nd (ri_seq (v 5)) (blkOk_by (N := n__law_right) (sc := defScope s__law_right) (by decide +kernel)) (fun _ _ _ _ _ => (rg_name (i := 16) sc__law_right.nd rfl (by first | exact Or.inl rfl | exact Or.inr rfl))) (fun _ _ _ _ _ => rts_nil) (fun _ _ _ _ _ => (re_mul (v 1) (v 16))) (by decide))) ra_nil)) ra_nil)) (ra_cons (hs := sn_call) (re_callk (hall := rfl) (hks := rfl) (hdb := (by decide)) (hpl := rfl) C_turn_along hg (hr.mono (by decide)) rfl (rk_cons (v 5) rk_nil)) ra_nil))))))
  (rss_cons (rs_if (rt_w (rw_or (rt_ne (hu64 hr) (re_repr (he := sn_name) hg (hu64 hr) rfl T.b_repr (ra_cons (hs := sn_name) (v 2) ra_nil)) (re_repr (he := sn_bin) hg (hu64 hr) rfl T.b_repr (ra_cons (hs := sn_bin) (re_rep (rl_lst (ra_cons (hs := sn_name) (v 7) ra_nil)) re_int) ra_nil))) (rw_or1 (rt_not (rt_val (he := fun _ => rfl) (re_call (hdb := (by decide)) (he := sn_name) (hpl := rfl) C__law_are_told hg (hr.mono (by decide)) rfl (ra_cons (hs := sn_name) (v 7) ra_nil))))))) (rss_one (rs_ret re_bl)) rss_nil)
  (rss_cons (rs_set (i := 2) (hs := rfl) (hf := (by first | exact Or.inl rfl | exact Or.inr rfl)) sc__law_right.nd rfl (by first | exact Or.inl rfl | exact Or.inr rfl) (re_ofL (rl_lst (ra_cons (hs := sn_call) (re_call (hdb := (by decide)) (he := sn_name) (hpl := rfl) C_joined_turns hg (hr.mono (by decide)) rfl (ra_cons (hs := sn_name) (v 7) (ra_cons (hs := sn_name) (v 8) ra_nil))) (ra_cons (hs := sn_call) (re_callkp (hall := rfl) (hks := rfl) (hdb := (by decide)) (hpl := rfl) C_joined_turns_by10 hg (hr.mono (by decide)) rfl (rk_cons (v 8) (rk_cons (v 7) rk_nil))) (ra_cons (hs := sn_call) (re_call (hdb := (by decide)) (he := sn_name) (hpl := rfl) C_joined_turns hg (hr.mono (by decide)) rfl (ra_cons (hs := sn_name) (v 8) (ra_cons (hs := sn_name) (v 7) ra_nil))) ra_nil))))))
  (rss_cons (rs_if (rt_ne (hu64 hr) (re_repr (he := sn_name) hg (hu64 hr) rfl T.b_repr (ra_cons (hs := sn_name) (v 2) ra_nil)) (re_repr (he := sn_list) hg (hu64 hr) rfl T.b_repr (ra_cons (hs := sn_list) (re_ofL (rl_lst (ra_cons (hs := sn_call) (re_call (hdb := (by decide)) (he := sn_name) (hpl := rfl) C__law_both hg (hr.mono (by decide)) rfl (ra_cons (hs := sn_name) (v 7) (ra_cons (hs := sn_name) (v 8) ra_nil))) (ra_cons (hs := sn_call) (re_call (hdb := (by decide)) (he := sn_name) (hpl := rfl) C__law_both hg (hr.mono (by decide)) rfl (ra_cons (hs := sn_name) (v 7) (ra_cons (hs := sn_name) (v 8) ra_nil))) (ra_cons (hs := sn_call) (re_call (hdb := (by decide)) (he := sn_name) (hpl := rfl) C__law_both hg (hr.mono (by decide)) rfl (ra_cons (hs := sn_name) (v 8) (ra_cons (hs := sn_name) (v 7) ra_nil))) ra_nil))))) ra_nil))) (rss_one (rs_ret re_bl)) rss_nil)
  (rss_cons (rs_set (i := 3) (hs := rfl) (hf := (by first | exact Or.inl rfl | exact Or.inr rfl)) sc__law_right.nd rfl (by first | exact Or.inl rfl | exact Or.inr rfl) (re_call (hdb := (by decide)) (he := sn_tup) (hpl := rfl) C__law_along hg (hr.mono (by decide)) rfl (ra_cons (hs := sn_tup) (re_tup (ra_cons (hs := sn_sub) (re_ix (hs := fun _ _ => rfl) (v 7) re_int) (ra_cons (hs := sn_bin) (re_sub re_int (re_ix (hs := fun _ _ => rfl) (v 7) re_int)) (ra_cons (hs := sn_bin) (re_sub re_int (re_ix (hs := fun _ _ => rfl) (v 7) re_int)) (ra_cons (hs := sn_bin) (re_sub re_int (re_ix (hs := fun _ _ => rfl) (v 7) re_int)) ra_nil))))) ra_nil)))
  (rss_cons (rs_set (i := 2) (hs := rfl) (hf := (by first | exact Or.inl rfl | exact Or.inr rfl)) sc__law_right.nd rfl (by first | exact Or.inl rfl | exact Or.inr rfl) (re_ofL (rl_lst (ra_cons (hs := sn_call) (re_call (hdb := (by decide)) (he := sn_name) (hpl := rfl) C_turn_back hg (hr.mono (by decide)) rfl (ra_cons (hs := sn_name) (v 7) ra_nil)) (ra_cons (hs := sn_call) (re_callk (hall := rfl) (hks := rfl) (hdb := (by decide)) (hpl := rfl) C_turn_back hg (hr.mono (by decide)) rfl (rk_cons (v 7) rk_nil)) (ra_cons (hs := sn_call) (re_call (hdb := (by decide)) (he := sn_name) (hpl := rfl) C_joined_turns hg (hr.mono (by decide)) rfl (ra_cons (hs := sn_name) (v 7) (ra_cons (hs := sn_call) (re_call (hdb := (by decide)) (he := sn_name) (hpl := rfl) C_turn_back hg (hr.mono (by decide)) rfl (ra_cons (hs := sn_name) (v 7) ra_nil)) ra_nil))) (ra_cons (hs := sn_call) (re_call (hdb := (by decide)) (he := sn_call) (hpl := rfl) C_joined_turns hg (hr.mono (by decide)) rfl (ra_cons (hs := sn_call) (re_call (hdb := (by decide)) (he := sn_name) (hpl := rfl) C_turn_back hg (hr.mono (by decide)) rfl (ra_cons (hs := sn_name) (v 7) ra_nil)) (ra_cons (hs := sn_name) (v 7) ra_nil))) ra_nil)))))))
  (rss_cons (rs_if (rt_ne (hu64 hr) (re_repr (he := sn_name) hg (hu64 hr) rfl T.b_repr (ra_cons (hs := sn_name) (v 2) ra_nil)) (re_repr (he := sn_list) hg (hu64 hr) rfl T.b_repr (ra_cons (hs := sn_list) (re_ofL (rl_lst (ra_cons (hs := sn_name) (v 3) (ra_cons (hs := sn_name) (v 3) (ra_cons (hs := sn_tup) (re_tup (ra_cons (hs := sn_const) re_int (ra_cons (hs := sn_const) re_int (ra_cons (hs := sn_const) re_int (ra_cons (hs := sn_const) re_int ra_nil))))) (ra_cons (hs := sn_tup) (re_tup (ra_cons (hs := sn_const) re_int (ra_cons (hs := sn_const) re_int (ra_cons (hs := sn_const) re_int (ra_cons (hs := sn_const) re_int ra_nil))))) ra_nil)))))) ra_nil))) (rss_one (rs_ret re_bl)) rss_nil)
  (rss_cons (rs_par3 (i := 9) (j := 10) (l := 11) (ra_cons (hs := sn_call) (re_call (hdb := (by decide)) (he := sn_name) (hpl := rfl) C__law_spin hg (hr.mono (by decide)) rfl (ra_cel (i := 0) (hd := (by decide)) (hcd := (by decide)) (hs := sn_name) rfl (by first | exact Or.inl rfl | exact Or.inr (Or.inl rfl) | exact Or.inr (Or.inr rfl)) ra_nil)) (ra_cons (hs := sn_call) (re_call (hdb := (by decide)) (he := sn_name) (hpl := rfl) C__law_draw hg (hr.mono (by decide)) rfl (ra_cel (i := 0) (hd := (by decide)) (hcd := (by decide)) (hs := sn_name) rfl (by first | exact Or.inl rfl | exact Or.inr (Or.inl rfl) | exact Or.inr (Or.inr rfl)) (ra_cons (hs := sn_const) re_int ra_nil))) (ra_cons (hs := sn_call) (re_call (hdb := (by decide)) (he := sn_name) (hpl := rfl) C__law_draw hg (hr.mono (by decide)) rfl (ra_cel (i := 0) (hd := (by decide)) (hcd := (by decide)) (hs := sn_name) rfl (by first | exact Or.inl rfl | exact Or.inr (Or.inl rfl) | exact Or.inr (Or.inr rfl)) (ra_cons (hs := sn_const) re_int ra_nil))) ra_nil))) (P := ps_par3 (by rfl) sc__law_right.nd rfl rfl rfl (by decide) (by decide) (by decide) rfl rfl rfl (pwA _) (by rfl)))
  (rss_cons (rs_new (i := 2) (hs := rfl) (hf := (by first | exact Or.inl rfl | exact Or.inr rfl)) sc__law_right.nd rfl (by first | exact Or.inl rfl | exact Or.inr rfl) (rl_lst (ra_cons (hs := sn_call) (re_call (hdb := (by decide)) (he := sn_name) (hpl := rfl) C_turn_times hg (hr.mono (by decide)) rfl (ra_cons (hs := sn_name) (v 9) (ra_cons (hs := sn_name) (v 10) ra_nil))) (ra_cons (hs := sn_call) (re_callkp (hall := rfl) (hks := rfl) (hdb := (by decide)) (hpl := rfl) C_turn_times_by10 hg (hr.mono (by decide)) rfl (rk_cons (v 10) (rk_cons (v 9) rk_nil))) (ra_cons (hs := sn_call) (re_call (hdb := (by decide)) (he := sn_name) (hpl := rfl) C_turn_times hg (hr.mono (by decide)) rfl (ra_cons (hs := sn_name) (v 9) (ra_cons (hs := sn_const) re_int ra_nil))) (ra_cons (hs := sn_call) (re_call (hdb := (by decide)) (he := sn_name) (hpl := rfl) C_turn_times hg (hr.mono (by decide)) rfl (ra_cons (hs := sn_name) (v 9) (ra_cons (hs := sn_const) re_int ra_nil))) ra_nil))))))
  (rss_cons (rs_app (i := 2) (hd := (by decide)) (hcd := (by decide)) (hbase := rfl) (hfew := rfl) (hline := rfl) (hs := by first | rfl | with_reducible exact sn_call) (hplain := rfl) (hsw := rfl) rfl (by first | exact Or.inl rfl | exact Or.inr (Or.inl rfl) | exact Or.inr (Or.inr rfl)) (re_call (hdb := (by decide)) (he := sn_call) (hpl := rfl) C_joined_turns hg (hr.mono (by decide)) rfl (ra_cons (hs := sn_call) (re_call (hdb := (by decide)) (he := sn_name) (hpl := rfl) C_turn_times hg (hr.mono (by decide)) rfl (ra_cons (hs := sn_name) (v 9) (ra_cons (hs := sn_name) (v 10) ra_nil))) (ra_cons (hs := sn_call) (re_call (hdb := (by decide)) (he := sn_name) (hpl := rfl) C_turn_times hg (hr.mono (by decide)) rfl (ra_cons (hs := sn_name) (v 9) (ra_cons (hs := sn_name) (v 11) ra_nil))) ra_nil))))
  (rss_cons (rs_app (i := 2) (hd := (by decide)) (hcd := (by decide)) (hbase := rfl) (hfew := rfl) (hline := rfl) (hs := by first | rfl | with_reducible exact sn_call) (hplain := rfl) (hsw := rfl) rfl (by first | exact Or.inl rfl | exact Or.inr (Or.inl rfl) | exact Or.inr (Or.inr rfl)) (re_call (hdb := (by decide)) (he := sn_name) (hpl := rfl) C_turn_times hg (hr.mono (by decide)) rfl (ra_cons (hs := sn_name) (v 9) (ra_cons (hs := sn_bin) (re_plus (v 10) (v 11)) ra_nil))))
  (rss_frz (rss_cons (rs_par (i := 12) (j := 13) rfl sc__law_right.nd rfl rfl (by decide) rfl rfl (ra_cons (hs := sn_call) (re_call (hdb := (by decide)) (he := sn_name) (hpl := rfl) C__law_power hg (hr.mono (by decide)) rfl (ra_cons (hs := sn_name) (v 9) (ra_cons (hs := sn_name) (v 10) ra_nil))) (ra_cons (hs := sn_call) (re_call (hdb := (by decide)) (he := sn_name) (hpl := rfl) C__law_power hg (hr.mono (by decide)) rfl (ra_cons (hs := sn_name) (v 9) (ra_cons (hs := sn_bin) (re_plus (v 10) (v 11)) ra_nil))) ra_nil)) (P := ps_par (by rfl) sc__law_right.nd rfl rfl (by decide) rfl rfl (pwA _) (by rfl)))
  (rss_cons (rs_if (rt_ne (hu64 hr) (re_repr (he := sn_name) hg (hu64 hr) rfl T.b_repr (ra_cons (hs := sn_name) (v 2) ra_nil)) (re_repr (he := sn_list) hg (hu64 hr) rfl T.b_repr (ra_cons (hs := sn_list) (re_ofL (rl_lst (ra_cons (hs := sn_name) (v 12) (ra_cons (hs := sn_name) (v 12) (ra_cons (hs := sn_tup) (re_tup (ra_cons (hs := sn_const) re_int (ra_cons (hs := sn_const) re_int (ra_cons (hs := sn_const) re_int (ra_cons (hs := sn_const) re_int ra_nil))))) (ra_cons (hs := sn_name) (v 9) (ra_cons (hs := sn_name) (v 13) (ra_cons (hs := sn_name) (v 13) ra_nil)))))))) ra_nil))) (rss_one (rs_ret re_bl)) rss_nil)
  (rss_cons (rs_par (i := 14) (j := 15) rfl sc__law_right.nd rfl rfl (by decide) rfl rfl (ra_cons (hs := sn_call) (re_call (hdb := (by decide)) (he := sn_name) (hpl := rfl) C__law_kind hg (hr.mono (by decide)) rfl (ra_cel (i := 0) (hd := (by decide)) (hcd := (by decide)) (hs := sn_name) rfl (by first | exact Or.inl rfl | exact Or.inr (Or.inl rfl) | exact Or.inr (Or.inr rfl)) ra_nil)) (ra_cons (hs := sn_call) (re_call (hdb := (by decide)) (he := sn_name) (hpl := rfl) C__law_slot hg (hr.mono (by decide)) rfl (ra_cel (i := 0) (hd := (by decide)) (hcd := (by decide)) (hs := sn_name) rfl (by first | exact Or.inl rfl | exact Or.inr (Or.inl rfl) | exact Or.inr (Or.inr rfl)) ra_nil)) ra_nil)) (P := ps_par (by rfl) sc__law_right.nd rfl rfl (by decide) rfl rfl (pwA _) (by rfl)))
  (rss_cons (rs_set (i := 4) (hs := rfl) (hf := (by first | exact Or.inl rfl | exact Or.inr rfl)) sc__law_right.nd rfl (by first | exact Or.inl rfl | exact Or.inr rfl) (re_call (hdb := (by decide)) (he := sn_tup) (hpl := rfl) C__law_along hg (hr.mono (by decide)) rfl (ra_cons (hs := sn_tup) (re_tup (ra_cons (hs := sn_bin) (re_mul (re_ix (hs := fun _ _ => rfl) (v 15) re_int) (re_ix (hs := fun _ _ => rfl) (v 14) re_int)) (ra_cons (hs := sn_bin) (re_mul (re_ix (hs := fun _ _ => rfl) (v 15) re_int) (re_ix (hs := fun _ _ => rfl) (v 14) re_int)) (ra_cons (hs := sn_bin) (re_mul (re_ix (hs := fun _ _ => rfl) (v 15) re_int) (re_ix (hs := fun _ _ => rfl) (v 14) re_int)) (ra_cons (hs := sn_bin) (re_mul (re_ix (hs := fun _ _ => rfl) (v 15) re_int) (re_ix (hs := fun _ _ => rfl) (v 14) re_int)) ra_nil))))) ra_nil)))
  (rss_one (rs_ret (re_eq (hu64 hr) (re_repr (he := sn_list) hg (hu64 hr) rfl T.b_repr (ra_cons (hs := sn_list) (re_ofL (rl_lst (ra_cons (hs := sn_call) (re_call (hdb := (by decide)) (he := sn_name) (hpl := rfl) C_turn_about hg (hr.mono (by decide)) rfl (ra_cons (hs := sn_name) (v 14) (ra_cons (hs := sn_name) (v 15) ra_nil))) (ra_cons (hs := sn_call) (re_callkp (hall := rfl) (hks := rfl) (hdb := (by decide)) (hpl := rfl) C_turn_about_by10 hg (hr.mono (by decide)) rfl (rk_cons (v 15) (rk_cons (v 14) rk_nil))) ra_nil)))) ra_nil)) (re_repr (he := sn_list) hg (hu64 hr) rfl T.b_repr (ra_cons (hs := sn_list) (re_ofL (rl_lst (ra_cons (hs := sn_name) (v 4) (ra_cons (hs := sn_name) (v 4) ra_nil)))) ra_nil))))))))))))))))))))))))
def b_law : FS := (fRet (fBi gAll (fConsA (fOfL (fLc (fRng1 (fConsA (fBi gMax (fConsA (fLit (.int 2)) (fConsA (fBi gMin (fConsA (fBi gLen (fConsA (fVar 0) fNilA)) (fConsA (fLit (.int 4)) fNilA))) fNilA))) fNilA)) (aName 1) fYes (fCallFr F__law_right (fCallL F__law_source (fConsA (fVar 0) (fConsA (fVar 1) fNilA)))) [1])) fNilA)))
def F_law : FnS := mkF 1 2 0 b_law
theorem ok_law {f : Addr} {fd : FuncData} (U : Fun K "law" "law" s_law f fd) (T : Tx K mg) (C__law_right : At P w K mg base 8 "_law_right" ["_law_source_here"] F__law_right) (C__law_source : At P w K mg base 1 "_law_source" ["_law_script", "_law_at"] F__law_source) : FnG P w K mg base 9 f fd ["_law_script"] F_law := by
  refine fng_of (n0 := 0) (k := 8) U sc_law (fun cdv A outer s H E hg hr => ?_)
  exact (rss_one (rs_ret (re_all (he := sn_lc) rfl rfl T.b_all (ra_cons (hs := sn_lc) (re_ofL (rl_lc (own := [("_law_k", 1)]) (hs := fun _ => rfl) rfl sc_law.nd (ri_range1 (hs := rfl) rfl T.b_range (ra_cons (hs := sn_call) (re_max (he := sn_const) (hpl := rfl) rfl rfl T.b_max (ra_cons (hs := sn_const) re_int (ra_cons (hs := sn_call) (re_min (he := sn_call) (hpl := rfl) rfl rfl T.b_min (ra_cons (hs := sn_call) (re_len (he := sn_name) rfl T.b_len (ra_cons (hs := sn_name) (v 0) ra_nil)) (ra_cons (hs := sn_const) re_int ra_nil))) ra_nil))) ra_nil)) (blkOk_by (N := n_law) (sc := defScope s_law) (by decide +kernel)) (fun _ _ _ _ _ => (rg_name (i := 1) sc_law.nd rfl (by first | exact Or.inl rfl | exact Or.inr rfl))) (fun _ _ _ _ _ => rts_nil) (fun _ _ _ _ _ => (re_callFr (hdb := (by decide)) (he := sn_call) (hpl := rfl) C__law_right hg (hr.mono (by decide)) rfl (rl_call (hdb := (by decide)) (he := sn_name) (hpl := rfl) C__law_source hg (hr.mono (by decide)) rfl (ra_cons (hs := sn_name) (v 0) (ra_cons (hs := sn_name) (v 1) ra_nil))))) (by decide))) ra_nil))))
end K26


set_option Elab.async false
set_option linter.all false
set_option maxRecDepth 100000
set_option maxHeartbeats 400000
namespace K26
open PySem PySem.Spec L2 DL
open PyProof.Rows hiding St
theorem bk_is_whole {kV doc pm : Value} {an : Option Addr} {cdv ct : Value} (us : List Value) (hl : us.length = ["value"].length) (i : Nat) (hi : i ≤ (["value"] : List Str).length) : bindArgs (PySem.W.fnOf "is_whole" "is_whole" (defArgs s_is_whole) (defBody s_is_whole) (defScope s_is_whole) .none kV doc pm an cdv ct) ⟨us.take i, ((["value"] : List Str).drop i).zip (us.drop i)⟩ = pure ((["value"] : List Str).zip us) := by
  match us, hl with
  | [_], _ => match i, hi with
    | 0, _ => rfl
    | 1, _ => rfl
    | k + 2, h => exact absurd h (by simp only [List.length_cons, List.length_nil]; omega)
theorem bk_is_row {kV doc pm : Value} {an : Option Addr} {cdv ct : Value} (us : List Value) (hl : us.length = ["value", "many"].length) (i : Nat) (hi : i ≤ (["value", "many"] : List Str).length) : bindArgs (PySem.W.fnOf "is_row" "is_row" (defArgs s_is_row) (defBody s_is_row) (defScope s_is_row) .none kV doc pm an cdv ct) ⟨us.take i, ((["value", "many"] : List Str).drop i).zip (us.drop i)⟩ = pure ((["value", "many"] : List Str).zip us) := by
  match us, hl with
  | [_, _], _ => match i, hi with
    | 0, _ => rfl
    | 1, _ => rfl
    | 2, _ => rfl
    | k + 3, h => exact absurd h (by simp only [List.length_cons, List.length_nil]; omega)
theorem bk_divisor_of {kV doc pm : Value} {an : Option Addr} {cdv ct : Value} (us : List Value) (hl : us.length = ["numbers"].length) (i : Nat) (hi : i ≤ (["numbers"] : List Str).length) : bindArgs (PySem.W.fnOf "divisor_of" "divisor_of" (defArgs s_divisor_of) (defBody s_divisor_of) (defScope s_divisor_of) .none kV doc pm an cdv ct) ⟨us.take i, ((["numbers"] : List Str).drop i).zip (us.drop i)⟩ = pure ((["numbers"] : List Str).zip us) := by
  match us, hl with
  | [_], _ => match i, hi with
    | 0, _ => rfl
    | 1, _ => rfl
    | k + 2, h => exact absurd h (by simp only [List.length_cons, List.length_nil]; omega)
theorem bk_is_reduced_row {kV doc pm : Value} {an : Option Addr} {cdv ct : Value} (us : List Value) (hl : us.length = ["value", "many"].length) (i : Nat) (hi : i ≤ (["value", "many"] : List Str).length) : bindArgs (PySem.W.fnOf "is_reduced_row" "is_reduced_row" (defArgs s_is_reduced_row) (defBody s_is_reduced_row) (defScope s_is_reduced_row) .none kV doc pm an cdv ct) ⟨us.take i, ((["value", "many"] : List Str).drop i).zip (us.drop i)⟩ = pure ((["value", "many"] : List Str).zip us) := by
  match us, hl with
  | [_, _], _ => match i, hi with
    | 0, _ => rfl
    | 1, _ => rfl
    | 2, _ => rfl
    | k + 3, h => exact absurd h (by simp only [List.length_cons, List.length_nil]; omega)
theorem bk_reduced {kV doc pm : Value} {an : Option Addr} {cdv ct : Value} (us : List Value) (hl : us.length = ["numbers"].length) (i : Nat) (hi : i ≤ (["numbers"] : List Str).length) : bindArgs (PySem.W.fnOf "reduced" "reduced" (defArgs s_reduced) (defBody s_reduced) (defScope s_reduced) .none kV doc pm an cdv ct) ⟨us.take i, ((["numbers"] : List Str).drop i).zip (us.drop i)⟩ = pure ((["numbers"] : List Str).zip us) := by
  match us, hl with
  | [_], _ => match i, hi with
    | 0, _ => rfl
    | 1, _ => rfl
    | k + 2, h => exact absurd h (by simp only [List.length_cons, List.length_nil]; omega)
theorem bk_dot {kV doc pm : Value} {an : Option Addr} {cdv ct : Value} (us : List Value) (hl : us.length = ["row", "other"].length) (i : Nat) (hi : i ≤ (["row", "other"] : List Str).length) : bindArgs (PySem.W.fnOf "dot" "dot" (defArgs s_dot) (defBody s_dot) (defScope s_dot) .none kV doc pm an cdv ct) ⟨us.take i, ((["row", "other"] : List Str).drop i).zip (us.drop i)⟩ = pure ((["row", "other"] : List Str).zip us) := by
  match us, hl with
  | [_, _], _ => match i, hi with
    | 0, _ => rfl
    | 1, _ => rfl
    | 2, _ => rfl
    | k + 3, h => exact absurd h (by simp only [List.length_cons, List.length_nil]; omega)
theorem bk_check_whole_to {kV doc pm : Value} {an : Option Addr} {cdv ct : Value} (us : List Value) (hl : us.length = ["value", "most"].length) (i : Nat) (hi : i ≤ (["value", "most"] : List Str).length) : bindArgs (PySem.W.fnOf "check_whole_to" "check_whole_to" (defArgs s_check_whole_to) (defBody s_check_whole_to) (defScope s_check_whole_to) .none kV doc pm an cdv ct) ⟨us.take i, ((["value", "most"] : List Str).drop i).zip (us.drop i)⟩ = pure ((["value", "most"] : List Str).zip us) := by
  match us, hl with
  | [_, _], _ => match i, hi with
    | 0, _ => rfl
    | 1, _ => rfl
    | 2, _ => rfl
    | k + 3, h => exact absurd h (by simp only [List.length_cons, List.length_nil]; omega)
theorem bk_is_kind {kV doc pm : Value} {an : Option Addr} {cdv ct : Value} (us : List Value) (hl : us.length = ["value"].length) (i : Nat) (hi : i ≤ (["value"] : List Str).length) : bindArgs (PySem.W.fnOf "is_kind" "is_kind" (defArgs s_is_kind) (defBody s_is_kind) (defScope s_is_kind) .none kV doc pm an cdv ct) ⟨us.take i, ((["value"] : List Str).drop i).zip (us.drop i)⟩ = pure ((["value"] : List Str).zip us) := by
  match us, hl with
  | [_], _ => match i, hi with
    | 0, _ => rfl
    | 1, _ => rfl
    | k + 2, h => exact absurd h (by simp only [List.length_cons, List.length_nil]; omega)
theorem bk_check_kind {kV doc pm : Value} {an : Option Addr} {cdv ct : Value} (us : List Value) (hl : us.length = ["value"].length) (i : Nat) (hi : i ≤ (["value"] : List Str).length) : bindArgs (PySem.W.fnOf "check_kind" "check_kind" (defArgs s_check_kind) (defBody s_check_kind) (defScope s_check_kind) .none kV doc pm an cdv ct) ⟨us.take i, ((["value"] : List Str).drop i).zip (us.drop i)⟩ = pure ((["value"] : List Str).zip us) := by
  match us, hl with
  | [_], _ => match i, hi with
    | 0, _ => rfl
    | 1, _ => rfl
    | k + 2, h => exact absurd h (by simp only [List.length_cons, List.length_nil]; omega)
theorem bk_is_setting {kV doc pm : Value} {an : Option Addr} {cdv ct : Value} (us : List Value) (hl : us.length = ["value"].length) (i : Nat) (hi : i ≤ (["value"] : List Str).length) : bindArgs (PySem.W.fnOf "is_setting" "is_setting" (defArgs s_is_setting) (defBody s_is_setting) (defScope s_is_setting) .none kV doc pm an cdv ct) ⟨us.take i, ((["value"] : List Str).drop i).zip (us.drop i)⟩ = pure ((["value"] : List Str).zip us) := by
  match us, hl with
  | [_], _ => match i, hi with
    | 0, _ => rfl
    | 1, _ => rfl
    | k + 2, h => exact absurd h (by simp only [List.length_cons, List.length_nil]; omega)
theorem bk_check_setting {kV doc pm : Value} {an : Option Addr} {cdv ct : Value} (us : List Value) (hl : us.length = ["value"].length) (i : Nat) (hi : i ≤ (["value"] : List Str).length) : bindArgs (PySem.W.fnOf "check_setting" "check_setting" (defArgs s_check_setting) (defBody s_check_setting) (defScope s_check_setting) .none kV doc pm an cdv ct) ⟨us.take i, ((["value"] : List Str).drop i).zip (us.drop i)⟩ = pure ((["value"] : List Str).zip us) := by
  match us, hl with
  | [_], _ => match i, hi with
    | 0, _ => rfl
    | 1, _ => rfl
    | k + 2, h => exact absurd h (by simp only [List.length_cons, List.length_nil]; omega)
theorem bk__first_sign {kV doc pm : Value} {an : Option Addr} {cdv ct : Value} (us : List Value) (hl : us.length = ["row"].length) (i : Nat) (hi : i ≤ (["row"] : List Str).length) : bindArgs (PySem.W.fnOf "_first_sign" "_first_sign" (defArgs s__first_sign) (defBody s__first_sign) (defScope s__first_sign) .none kV doc pm an cdv ct) ⟨us.take i, ((["row"] : List Str).drop i).zip (us.drop i)⟩ = pure ((["row"] : List Str).zip us) := by
  match us, hl with
  | [_], _ => match i, hi with
    | 0, _ => rfl
    | 1, _ => rfl
    | k + 2, h => exact absurd h (by simp only [List.length_cons, List.length_nil]; omega)
theorem bk_is_turn {kV doc pm : Value} {an : Option Addr} {cdv ct : Value} (us : List Value) (hl : us.length = ["value"].length) (i : Nat) (hi : i ≤ (["value"] : List Str).length) : bindArgs (PySem.W.fnOf "is_turn" "is_turn" (defArgs s_is_turn) (defBody s_is_turn) (defScope s_is_turn) .none kV doc pm an cdv ct) ⟨us.take i, ((["value"] : List Str).drop i).zip (us.drop i)⟩ = pure ((["value"] : List Str).zip us) := by
  match us, hl with
  | [_], _ => match i, hi with
    | 0, _ => rfl
    | 1, _ => rfl
    | k + 2, h => exact absurd h (by simp only [List.length_cons, List.length_nil]; omega)
theorem bk_check_turn {kV doc pm : Value} {an : Option Addr} {cdv ct : Value} (us : List Value) (hl : us.length = ["value"].length) (i : Nat) (hi : i ≤ (["value"] : List Str).length) : bindArgs (PySem.W.fnOf "check_turn" "check_turn" (defArgs s_check_turn) (defBody s_check_turn) (defScope s_check_turn) .none kV doc pm an cdv ct) ⟨us.take i, ((["value"] : List Str).drop i).zip (us.drop i)⟩ = pure ((["value"] : List Str).zip us) := by
  match us, hl with
  | [_], _ => match i, hi with
    | 0, _ => rfl
    | 1, _ => rfl
    | k + 2, h => exact absurd h (by simp only [List.length_cons, List.length_nil]; omega)
theorem bk__along {kV doc pm : Value} {an : Option Addr} {cdv ct : Value} (us : List Value) (hl : us.length = ["row"].length) (i : Nat) (hi : i ≤ (["row"] : List Str).length) : bindArgs (PySem.W.fnOf "_along" "_along" (defArgs s__along) (defBody s__along) (defScope s__along) .none kV doc pm an cdv ct) ⟨us.take i, ((["row"] : List Str).drop i).zip (us.drop i)⟩ = pure ((["row"] : List Str).zip us) := by
  match us, hl with
  | [_], _ => match i, hi with
    | 0, _ => rfl
    | 1, _ => rfl
    | k + 2, h => exact absurd h (by simp only [List.length_cons, List.length_nil]; omega)
theorem bk_turn_along {kV doc pm : Value} {an : Option Addr} {cdv ct : Value} (us : List Value) (hl : us.length = ["numbers"].length) (i : Nat) (hi : i ≤ (["numbers"] : List Str).length) : bindArgs (PySem.W.fnOf "turn_along" "turn_along" (defArgs s_turn_along) (defBody s_turn_along) (defScope s_turn_along) .none kV doc pm an cdv ct) ⟨us.take i, ((["numbers"] : List Str).drop i).zip (us.drop i)⟩ = pure ((["numbers"] : List Str).zip us) := by
  match us, hl with
  | [_], _ => match i, hi with
    | 0, _ => rfl
    | 1, _ => rfl
    | k + 2, h => exact absurd h (by simp only [List.length_cons, List.length_nil]; omega)
theorem bk_turn_about {kV doc pm : Value} {an : Option Addr} {cdv ct : Value} (us : List Value) (hl : us.length = ["kind", "setting"].length) (i : Nat) (hi : i ≤ (["kind", "setting"] : List Str).length) : bindArgs (PySem.W.fnOf "turn_about" "turn_about" (defArgs s_turn_about) (defBody s_turn_about) (defScope s_turn_about) .none kV doc pm an cdv ct) ⟨us.take i, ((["kind", "setting"] : List Str).drop i).zip (us.drop i)⟩ = pure ((["kind", "setting"] : List Str).zip us) := by
  match us, hl with
  | [_, _], _ => match i, hi with
    | 0, _ => rfl
    | 1, _ => rfl
    | 2, _ => rfl
    | k + 3, h => exact absurd h (by simp only [List.length_cons, List.length_nil]; omega)
theorem bk__quaternion_product {kV doc pm : Value} {an : Option Addr} {cdv ct : Value} (us : List Value) (hl : us.length = ["one", "two"].length) (i : Nat) (hi : i ≤ (["one", "two"] : List Str).length) : bindArgs (PySem.W.fnOf "_quaternion_product" "_quaternion_product" (defArgs s__quaternion_product) (defBody s__quaternion_product) (defScope s__quaternion_product) .none kV doc pm an cdv ct) ⟨us.take i, ((["one", "two"] : List Str).drop i).zip (us.drop i)⟩ = pure ((["one", "two"] : List Str).zip us) := by
  match us, hl with
  | [_, _], _ => match i, hi with
    | 0, _ => rfl
    | 1, _ => rfl
    | 2, _ => rfl
    | k + 3, h => exact absurd h (by simp only [List.length_cons, List.length_nil]; omega)
theorem bk_joined_turns {kV doc pm : Value} {an : Option Addr} {cdv ct : Value} (us : List Value) (hl : us.length = ["turn", "other"].length) (i : Nat) (hi : i ≤ (["turn", "other"] : List Str).length) : bindArgs (PySem.W.fnOf "joined_turns" "joined_turns" (defArgs s_joined_turns) (defBody s_joined_turns) (defScope s_joined_turns) .none kV doc pm an cdv ct) ⟨us.take i, ((["turn", "other"] : List Str).drop i).zip (us.drop i)⟩ = pure ((["turn", "other"] : List Str).zip us) := by
  match us, hl with
  | [_, _], _ => match i, hi with
    | 0, _ => rfl
    | 1, _ => rfl
    | 2, _ => rfl
    | k + 3, h => exact absurd h (by simp only [List.length_cons, List.length_nil]; omega)
theorem bk_turn_back {kV doc pm : Value} {an : Option Addr} {cdv ct : Value} (us : List Value) (hl : us.length = ["turn"].length) (i : Nat) (hi : i ≤ (["turn"] : List Str).length) : bindArgs (PySem.W.fnOf "turn_back" "turn_back" (defArgs s_turn_back) (defBody s_turn_back) (defScope s_turn_back) .none kV doc pm an cdv ct) ⟨us.take i, ((["turn"] : List Str).drop i).zip (us.drop i)⟩ = pure ((["turn"] : List Str).zip us) := by
  match us, hl with
  | [_], _ => match i, hi with
    | 0, _ => rfl
    | 1, _ => rfl
    | k + 2, h => exact absurd h (by simp only [List.length_cons, List.length_nil]; omega)
theorem bk_turn_times {kV doc pm : Value} {an : Option Addr} {cdv ct : Value} (us : List Value) (hl : us.length = ["turn", "many"].length) (i : Nat) (hi : i ≤ (["turn", "many"] : List Str).length) : bindArgs (PySem.W.fnOf "turn_times" "turn_times" (defArgs s_turn_times) (defBody s_turn_times) (defScope s_turn_times) .none kV doc pm an cdv ct) ⟨us.take i, ((["turn", "many"] : List Str).drop i).zip (us.drop i)⟩ = pure ((["turn", "many"] : List Str).zip us) := by
  match us, hl with
  | [_, _], _ => match i, hi with
    | 0, _ => rfl
    | 1, _ => rfl
    | 2, _ => rfl
    | k + 3, h => exact absurd h (by simp only [List.length_cons, List.length_nil]; omega)
theorem bk__law_source {kV doc pm : Value} {an : Option Addr} {cdv ct : Value} (us : List Value) (hl : us.length = ["_law_script", "_law_at"].length) (i : Nat) (hi : i ≤ (["_law_script", "_law_at"] : List Str).length) : bindArgs (PySem.W.fnOf "_law_source" "_law_source" (defArgs s__law_source) (defBody s__law_source) (defScope s__law_source) .none kV doc pm an cdv ct) ⟨us.take i, ((["_law_script", "_law_at"] : List Str).drop i).zip (us.drop i)⟩ = pure ((["_law_script", "_law_at"] : List Str).zip us) := by
  match us, hl with
  | [_, _], _ => match i, hi with
    | 0, _ => rfl
    | 1, _ => rfl
    | 2, _ => rfl
    | k + 3, h => exact absurd h (by simp only [List.length_cons, List.length_nil]; omega)
theorem bk__law_draw {kV doc pm : Value} {an : Option Addr} {cdv ct : Value} (us : List Value) (hl : us.length = ["_law_source_here", "_law_top"].length) (i : Nat) (hi : i ≤ (["_law_source_here", "_law_top"] : List Str).length) : bindArgs (PySem.W.fnOf "_law_draw" "_law_draw" (defArgs s__law_draw) (defBody s__law_draw) (defScope s__law_draw) .none kV doc pm an cdv ct) ⟨us.take i, ((["_law_source_here", "_law_top"] : List Str).drop i).zip (us.drop i)⟩ = pure ((["_law_source_here", "_law_top"] : List Str).zip us) := by
  match us, hl with
  | [_, _], _ => match i, hi with
    | 0, _ => rfl
    | 1, _ => rfl
    | 2, _ => rfl
    | k + 3, h => exact absurd h (by simp only [List.length_cons, List.length_nil]; omega)
theorem bk__law_pick {kV doc pm : Value} {an : Option Addr} {cdv ct : Value} (us : List Value) (hl : us.length = ["_law_source_here", "_law_some"].length) (i : Nat) (hi : i ≤ (["_law_source_here", "_law_some"] : List Str).length) : bindArgs (PySem.W.fnOf "_law_pick" "_law_pick" (defArgs s__law_pick) (defBody s__law_pick) (defScope s__law_pick) .none kV doc pm an cdv ct) ⟨us.take i, ((["_law_source_here", "_law_some"] : List Str).drop i).zip (us.drop i)⟩ = pure ((["_law_source_here", "_law_some"] : List Str).zip us) := by
  match us, hl with
  | [_, _], _ => match i, hi with
    | 0, _ => rfl
    | 1, _ => rfl
    | 2, _ => rfl
    | k + 3, h => exact absurd h (by simp only [List.length_cons, List.length_nil]; omega)
theorem bk__law_about {kV doc pm : Value} {an : Option Addr} {cdv ct : Value} (us : List Value) (hl : us.length = ["_law_source_here", "_law_most"].length) (i : Nat) (hi : i ≤ (["_law_source_here", "_law_most"] : List Str).length) : bindArgs (PySem.W.fnOf "_law_about" "_law_about" (defArgs s__law_about) (defBody s__law_about) (defScope s__law_about) .none kV doc pm an cdv ct) ⟨us.take i, ((["_law_source_here", "_law_most"] : List Str).drop i).zip (us.drop i)⟩ = pure ((["_law_source_here", "_law_most"] : List Str).zip us) := by
  match us, hl with
  | [_, _], _ => match i, hi with
    | 0, _ => rfl
    | 1, _ => rfl
    | 2, _ => rfl
    | k + 3, h => exact absurd h (by simp only [List.length_cons, List.length_nil]; omega)
theorem bk__law_common {kV doc pm : Value} {an : Option Addr} {cdv ct : Value} (us : List Value) (hl : us.length = ["_law_row"].length) (i : Nat) (hi : i ≤ (["_law_row"] : List Str).length) : bindArgs (PySem.W.fnOf "_law_common" "_law_common" (defArgs s__law_common) (defBody s__law_common) (defScope s__law_common) .none kV doc pm an cdv ct) ⟨us.take i, ((["_law_row"] : List Str).drop i).zip (us.drop i)⟩ = pure ((["_law_row"] : List Str).zip us) := by
  match us, hl with
  | [_], _ => match i, hi with
    | 0, _ => rfl
    | 1, _ => rfl
    | k + 2, h => exact absurd h (by simp only [List.length_cons, List.length_nil]; omega)
theorem bk__law_low {kV doc pm : Value} {an : Option Addr} {cdv ct : Value} (us : List Value) (hl : us.length = ["_law_row"].length) (i : Nat) (hi : i ≤ (["_law_row"] : List Str).length) : bindArgs (PySem.W.fnOf "_law_low" "_law_low" (defArgs s__law_low) (defBody s__law_low) (defScope s__law_low) .none kV doc pm an cdv ct) ⟨us.take i, ((["_law_row"] : List Str).drop i).zip (us.drop i)⟩ = pure ((["_law_row"] : List Str).zip us) := by
  match us, hl with
  | [_], _ => match i, hi with
    | 0, _ => rfl
    | 1, _ => rfl
    | k + 2, h => exact absurd h (by simp only [List.length_cons, List.length_nil]; omega)
theorem bk__law_along {kV doc pm : Value} {an : Option Addr} {cdv ct : Value} (us : List Value) (hl : us.length = ["_law_four_here"].length) (i : Nat) (hi : i ≤ (["_law_four_here"] : List Str).length) : bindArgs (PySem.W.fnOf "_law_along" "_law_along" (defArgs s__law_along) (defBody s__law_along) (defScope s__law_along) .none kV doc pm an cdv ct) ⟨us.take i, ((["_law_four_here"] : List Str).drop i).zip (us.drop i)⟩ = pure ((["_law_four_here"] : List Str).zip us) := by
  match us, hl with
  | [_], _ => match i, hi with
    | 0, _ => rfl
    | 1, _ => rfl
    | k + 2, h => exact absurd h (by simp only [List.length_cons, List.length_nil]; omega)
theorem bk__law_mult {kV doc pm : Value} {an : Option Addr} {cdv ct : Value} (us : List Value) (hl : us.length = ["_law_one", "_law_two"].length) (i : Nat) (hi : i ≤ (["_law_one", "_law_two"] : List Str).length) : bindArgs (PySem.W.fnOf "_law_mult" "_law_mult" (defArgs s__law_mult) (defBody s__law_mult) (defScope s__law_mult) .none kV doc pm an cdv ct) ⟨us.take i, ((["_law_one", "_law_two"] : List Str).drop i).zip (us.drop i)⟩ = pure ((["_law_one", "_law_two"] : List Str).zip us) := by
  match us, hl with
  | [_, _], _ => match i, hi with
    | 0, _ => rfl
    | 1, _ => rfl
    | 2, _ => rfl
    | k + 3, h => exact absurd h (by simp only [List.length_cons, List.length_nil]; omega)
theorem bk__law_both {kV doc pm : Value} {an : Option Addr} {cdv ct : Value} (us : List Value) (hl : us.length = ["_law_one", "_law_two"].length) (i : Nat) (hi : i ≤ (["_law_one", "_law_two"] : List Str).length) : bindArgs (PySem.W.fnOf "_law_both" "_law_both" (defArgs s__law_both) (defBody s__law_both) (defScope s__law_both) .none kV doc pm an cdv ct) ⟨us.take i, ((["_law_one", "_law_two"] : List Str).drop i).zip (us.drop i)⟩ = pure ((["_law_one", "_law_two"] : List Str).zip us) := by
  match us, hl with
  | [_, _], _ => match i, hi with
    | 0, _ => rfl
    | 1, _ => rfl
    | 2, _ => rfl
    | k + 3, h => exact absurd h (by simp only [List.length_cons, List.length_nil]; omega)
theorem bk__law_spin {kV doc pm : Value} {an : Option Addr} {cdv ct : Value} (us : List Value) (hl : us.length = ["_law_source_here"].length) (i : Nat) (hi : i ≤ (["_law_source_here"] : List Str).length) : bindArgs (PySem.W.fnOf "_law_spin" "_law_spin" (defArgs s__law_spin) (defBody s__law_spin) (defScope s__law_spin) .none kV doc pm an cdv ct) ⟨us.take i, ((["_law_source_here"] : List Str).drop i).zip (us.drop i)⟩ = pure ((["_law_source_here"] : List Str).zip us) := by
  match us, hl with
  | [_], _ => match i, hi with
    | 0, _ => rfl
    | 1, _ => rfl
    | k + 2, h => exact absurd h (by simp only [List.length_cons, List.length_nil]; omega)
theorem bk__law_kind {kV doc pm : Value} {an : Option Addr} {cdv ct : Value} (us : List Value) (hl : us.length = ["_law_source_here"].length) (i : Nat) (hi : i ≤ (["_law_source_here"] : List Str).length) : bindArgs (PySem.W.fnOf "_law_kind" "_law_kind" (defArgs s__law_kind) (defBody s__law_kind) (defScope s__law_kind) .none kV doc pm an cdv ct) ⟨us.take i, ((["_law_source_here"] : List Str).drop i).zip (us.drop i)⟩ = pure ((["_law_source_here"] : List Str).zip us) := by
  match us, hl with
  | [_], _ => match i, hi with
    | 0, _ => rfl
    | 1, _ => rfl
    | k + 2, h => exact absurd h (by simp only [List.length_cons, List.length_nil]; omega)
theorem bk__law_slot {kV doc pm : Value} {an : Option Addr} {cdv ct : Value} (us : List Value) (hl : us.length = ["_law_source_here"].length) (i : Nat) (hi : i ≤ (["_law_source_here"] : List Str).length) : bindArgs (PySem.W.fnOf "_law_slot" "_law_slot" (defArgs s__law_slot) (defBody s__law_slot) (defScope s__law_slot) .none kV doc pm an cdv ct) ⟨us.take i, ((["_law_source_here"] : List Str).drop i).zip (us.drop i)⟩ = pure ((["_law_source_here"] : List Str).zip us) := by
  match us, hl with
  | [_], _ => match i, hi with
    | 0, _ => rfl
    | 1, _ => rfl
    | k + 2, h => exact absurd h (by simp only [List.length_cons, List.length_nil]; omega)
theorem bk__law_number {kV doc pm : Value} {an : Option Addr} {cdv ct : Value} (us : List Value) (hl : us.length = ["_law_source_here", "_law_most"].length) (i : Nat) (hi : i ≤ (["_law_source_here", "_law_most"] : List Str).length) : bindArgs (PySem.W.fnOf "_law_number" "_law_number" (defArgs s__law_number) (defBody s__law_number) (defScope s__law_number) .none kV doc pm an cdv ct) ⟨us.take i, ((["_law_source_here", "_law_most"] : List Str).drop i).zip (us.drop i)⟩ = pure ((["_law_source_here", "_law_most"] : List Str).zip us) := by
  match us, hl with
  | [_, _], _ => match i, hi with
    | 0, _ => rfl
    | 1, _ => rfl
    | 2, _ => rfl
    | k + 3, h => exact absurd h (by simp only [List.length_cons, List.length_nil]; omega)
theorem bk__law_four {kV doc pm : Value} {an : Option Addr} {cdv ct : Value} (us : List Value) (hl : us.length = ["_law_source_here"].length) (i : Nat) (hi : i ≤ (["_law_source_here"] : List Str).length) : bindArgs (PySem.W.fnOf "_law_four" "_law_four" (defArgs s__law_four) (defBody s__law_four) (defScope s__law_four) .none kV doc pm an cdv ct) ⟨us.take i, ((["_law_source_here"] : List Str).drop i).zip (us.drop i)⟩ = pure ((["_law_source_here"] : List Str).zip us) := by
  match us, hl with
  | [_], _ => match i, hi with
    | 0, _ => rfl
    | 1, _ => rfl
    | k + 2, h => exact absurd h (by simp only [List.length_cons, List.length_nil]; omega)
theorem bk__law_power {kV doc pm : Value} {an : Option Addr} {cdv ct : Value} (us : List Value) (hl : us.length = ["_law_spin_here", "_law_often"].length) (i : Nat) (hi : i ≤ (["_law_spin_here", "_law_often"] : List Str).length) : bindArgs (PySem.W.fnOf "_law_power" "_law_power" (defArgs s__law_power) (defBody s__law_power) (defScope s__law_power) .none kV doc pm an cdv ct) ⟨us.take i, ((["_law_spin_here", "_law_often"] : List Str).drop i).zip (us.drop i)⟩ = pure ((["_law_spin_here", "_law_often"] : List Str).zip us) := by
  match us, hl with
  | [_, _], _ => match i, hi with
    | 0, _ => rfl
    | 1, _ => rfl
    | 2, _ => rfl
    | k + 3, h => exact absurd h (by simp only [List.length_cons, List.length_nil]; omega)
theorem bk__law_are_told {kV doc pm : Value} {an : Option Addr} {cdv ct : Value} (us : List Value) (hl : us.length = ["_law_spin_here"].length) (i : Nat) (hi : i ≤ (["_law_spin_here"] : List Str).length) : bindArgs (PySem.W.fnOf "_law_are_told" "_law_are_told" (defArgs s__law_are_told) (defBody s__law_are_told) (defScope s__law_are_told) .none kV doc pm an cdv ct) ⟨us.take i, ((["_law_spin_here"] : List Str).drop i).zip (us.drop i)⟩ = pure ((["_law_spin_here"] : List Str).zip us) := by
  match us, hl with
  | [_], _ => match i, hi with
    | 0, _ => rfl
    | 1, _ => rfl
    | k + 2, h => exact absurd h (by simp only [List.length_cons, List.length_nil]; omega)
theorem bk__law_right {kV doc pm : Value} {an : Option Addr} {cdv ct : Value} (us : List Value) (hl : us.length = ["_law_source_here"].length) (i : Nat) (hi : i ≤ (["_law_source_here"] : List Str).length) : bindArgs (PySem.W.fnOf "_law_right" "_law_right" (defArgs s__law_right) (defBody s__law_right) (defScope s__law_right) .none kV doc pm an cdv ct) ⟨us.take i, ((["_law_source_here"] : List Str).drop i).zip (us.drop i)⟩ = pure ((["_law_source_here"] : List Str).zip us) := by
  match us, hl with
  | [_], _ => match i, hi with
    | 0, _ => rfl
    | 1, _ => rfl
    | k + 2, h => exact absurd h (by simp only [List.length_cons, List.length_nil]; omega)
theorem bp_joined_turns_by10 {kV doc pm : Value} {an : Option Addr} {cdv ct : Value} (us : List Value) (hl : us.length = [1, 0].length) : bindArgs (PySem.W.fnOf "joined_turns" "joined_turns" (defArgs s_joined_turns) (defBody s_joined_turns) (defScope s_joined_turns) .none kV doc pm an cdv ct) ⟨[], (["other", "turn"] : List Str).zip us⟩ = pure ((["turn", "other"] : List Str).zip (perm [1, 0] us)) := by
  match us, hl with
  | [_, _], _ => rfl
theorem bp_turn_times_by10 {kV doc pm : Value} {an : Option Addr} {cdv ct : Value} (us : List Value) (hl : us.length = [1, 0].length) : bindArgs (PySem.W.fnOf "turn_times" "turn_times" (defArgs s_turn_times) (defBody s_turn_times) (defScope s_turn_times) .none kV doc pm an cdv ct) ⟨[], (["many", "turn"] : List Str).zip us⟩ = pure ((["turn", "many"] : List Str).zip (perm [1, 0] us)) := by
  match us, hl with
  | [_, _], _ => rfl
theorem bp_turn_about_by10 {kV doc pm : Value} {an : Option Addr} {cdv ct : Value} (us : List Value) (hl : us.length = [1, 0].length) : bindArgs (PySem.W.fnOf "turn_about" "turn_about" (defArgs s_turn_about) (defBody s_turn_about) (defScope s_turn_about) .none kV doc pm an cdv ct) ⟨[], (["setting", "kind"] : List Str).zip us⟩ = pure ((["kind", "setting"] : List Str).zip (perm [1, 0] us)) := by
  match us, hl with
  | [_, _], _ => rfl
theorem all_mk {l : PySem.W.OpenLaw} {w : World} {K : PySem.W.Frag} {h : Heap} {mg : Str → Option Value} {fa : Addr} {f_is_whole : Addr} {od_is_whole an_is_whole : Option Addr} {sl_is_whole : Array (Option Value)} {oc_is_whole kV_is_whole dc_is_whole pm_is_whole cd_is_whole ct_is_whole : Value} {f_is_row : Addr} {od_is_row an_is_row : Option Addr} {sl_is_row : Array (Option Value)} {oc_is_row kV_is_row dc_is_row pm_is_row cd_is_row ct_is_row : Value} {f_divisor_of : Addr} {od_divisor_of an_divisor_of : Option Addr} {sl_divisor_of : Array (Option Value)} {oc_divisor_of kV_divisor_of dc_divisor_of pm_divisor_of cd_divisor_of ct_divisor_of : Value} {f_is_reduced_row : Addr} {od_is_reduced_row an_is_reduced_row : Option Addr} {sl_is_reduced_row : Array (Option Value)} {oc_is_reduced_row kV_is_reduced_row dc_is_reduced_row pm_is_reduced_row cd_is_reduced_row ct_is_reduced_row : Value} {f_reduced : Addr} {od_reduced an_reduced : Option Addr} {sl_reduced : Array (Option Value)} {oc_reduced kV_reduced dc_reduced pm_reduced cd_reduced ct_reduced : Value} {f_dot : Addr} {od_dot an_dot : Option Addr} {sl_dot : Array (Option Value)} {oc_dot kV_dot dc_dot pm_dot cd_dot ct_dot : Value} {f_check_whole_to : Addr} {od_check_whole_to an_check_whole_to : Option Addr} {sl_check_whole_to : Array (Option Value)} {oc_check_whole_to kV_check_whole_to dc_check_whole_to pm_check_whole_to cd_check_whole_to ct_check_whole_to : Value} {f_is_kind : Addr} {od_is_kind an_is_kind : Option Addr} {sl_is_kind : Array (Option Value)} {oc_is_kind kV_is_kind dc_is_kind pm_is_kind cd_is_kind ct_is_kind : Value} {f_check_kind : Addr} {od_check_kind an_check_kind : Option Addr} {sl_check_kind : Array (Option Value)} {oc_check_kind kV_check_kind dc_check_kind pm_check_kind cd_check_kind ct_check_kind : Value} {f_is_setting : Addr} {od_is_setting an_is_setting : Option Addr} {sl_is_setting : Array (Option Value)} {oc_is_setting kV_is_setting dc_is_setting pm_is_setting cd_is_setting ct_is_setting : Value} {f_check_setting : Addr} {od_check_setting an_check_setting : Option Addr} {sl_check_setting : Array (Option Value)} {oc_check_setting kV_check_setting dc_check_setting pm_check_setting cd_check_setting ct_check_setting : Value} {f__first_sign : Addr} {od__first_sign an__first_sign : Option Addr} {sl__first_sign : Array (Option Value)} {oc__first_sign kV__first_sign dc__first_sign pm__first_sign cd__first_sign ct__first_sign : Value} {f_is_turn : Addr} {od_is_turn an_is_turn : Option Addr} {sl_is_turn : Array (Option Value)} {oc_is_turn kV_is_turn dc_is_turn pm_is_turn cd_is_turn ct_is_turn : Value} {f_check_turn : Addr} {od_check_turn an_check_turn : Option Addr} {sl_check_turn : Array (Option Value)} {oc_check_turn kV_check_turn dc_check_turn pm_check_turn cd_check_turn ct_check_turn : Value} {f__along : Addr} {od__along an__along : Option Addr} {sl__along : Array (Option Value)} {oc__along kV__along dc__along pm__along cd__along ct__along : Value} {f_turn_along : Addr} {od_turn_along an_turn_along : Option Addr} {sl_turn_along : Array (Option Value)} {oc_turn_along kV_turn_along dc_turn_along pm_turn_along cd_turn_along ct_turn_along : Value} {f_turn_about : Addr} {od_turn_about an_turn_about : Option Addr} {sl_turn_about : Array (Option Value)} {oc_turn_about kV_turn_about dc_turn_about pm_turn_about cd_turn_about ct_turn_about : Value} {f__quaternion_product : Addr} {od__quaternion_product an__quaternion_product : Option Addr} {sl__quaternion_product : Array (Option Value)} {oc__quaternion_product kV__quaternion_product dc__quaternion_product pm__quaternion_product cd__quaternion_product ct__quaternion_product : Value} {f_joined_turns : Addr} {od_joined_turns an_joined_turns : Option Addr} {sl_joined_turns : Array (Option Value)} {oc_joined_turns kV_joined_turns dc_joined_turns pm_joined_turns cd_joined_turns ct_joined_turns : Value} {f_turn_back : Addr} {od_turn_back an_turn_back : Option Addr} {sl_turn_back : Array (Option Value)} {oc_turn_back kV_turn_back dc_turn_back pm_turn_back cd_turn_back ct_turn_back : Value} {f_turn_times : Addr} {od_turn_times an_turn_times : Option Addr} {sl_turn_times : Array (Option Value)} {oc_turn_times kV_turn_times dc_turn_times pm_turn_times cd_turn_times ct_turn_times : Value} {f__law_source : Addr} {od__law_source an__law_source : Option Addr} {sl__law_source : Array (Option Value)} {oc__law_source kV__law_source dc__law_source pm__law_source cd__law_source ct__law_source : Value} {f__law_draw : Addr} {od__law_draw an__law_draw : Option Addr} {sl__law_draw : Array (Option Value)} {oc__law_draw kV__law_draw dc__law_draw pm__law_draw cd__law_draw ct__law_draw : Value} {f__law_pick : Addr} {od__law_pick an__law_pick : Option Addr} {sl__law_pick : Array (Option Value)} {oc__law_pick kV__law_pick dc__law_pick pm__law_pick cd__law_pick ct__law_pick : Value} {f__law_about : Addr} {od__law_about an__law_about : Option Addr} {sl__law_about : Array (Option Value)} {oc__law_about kV__law_about dc__law_about pm__law_about cd__law_about ct__law_about : Value} {f__law_common : Addr} {od__law_common an__law_common : Option Addr} {sl__law_common : Array (Option Value)} {oc__law_common kV__law_common dc__law_common pm__law_common cd__law_common ct__law_common : Value} {f__law_low : Addr} {od__law_low an__law_low : Option Addr} {sl__law_low : Array (Option Value)} {oc__law_low kV__law_low dc__law_low pm__law_low cd__law_low ct__law_low : Value} {f__law_along : Addr} {od__law_along an__law_along : Option Addr} {sl__law_along : Array (Option Value)} {oc__law_along kV__law_along dc__law_along pm__law_along cd__law_along ct__law_along : Value} {f__law_mult : Addr} {od__law_mult an__law_mult : Option Addr} {sl__law_mult : Array (Option Value)} {oc__law_mult kV__law_mult dc__law_mult pm__law_mult cd__law_mult ct__law_mult : Value} {f__law_both : Addr} {od__law_both an__law_both : Option Addr} {sl__law_both : Array (Option Value)} {oc__law_both kV__law_both dc__law_both pm__law_both cd__law_both ct__law_both : Value} {f__law_spin : Addr} {od__law_spin an__law_spin : Option Addr} {sl__law_spin : Array (Option Value)} {oc__law_spin kV__law_spin dc__law_spin pm__law_spin cd__law_spin ct__law_spin : Value} {f__law_kind : Addr} {od__law_kind an__law_kind : Option Addr} {sl__law_kind : Array (Option Value)} {oc__law_kind kV__law_kind dc__law_kind pm__law_kind cd__law_kind ct__law_kind : Value} {f__law_slot : Addr} {od__law_slot an__law_slot : Option Addr} {sl__law_slot : Array (Option Value)} {oc__law_slot kV__law_slot dc__law_slot pm__law_slot cd__law_slot ct__law_slot : Value} {f__law_number : Addr} {od__law_number an__law_number : Option Addr} {sl__law_number : Array (Option Value)} {oc__law_number kV__law_number dc__law_number pm__law_number cd__law_number ct__law_number : Value} {f__law_four : Addr} {od__law_four an__law_four : Option Addr} {sl__law_four : Array (Option Value)} {oc__law_four kV__law_four dc__law_four pm__law_four cd__law_four ct__law_four : Value} {f__law_power : Addr} {od__law_power an__law_power : Option Addr} {sl__law_power : Array (Option Value)} {oc__law_power kV__law_power dc__law_power pm__law_power cd__law_power ct__law_power : Value} {f__law_are_told : Addr} {od__law_are_told an__law_are_told : Option Addr} {sl__law_are_told : Array (Option Value)} {oc__law_are_told kV__law_are_told dc__law_are_told pm__law_are_told cd__law_are_told ct__law_are_told : Value} {f__law_right : Addr} {od__law_right an__law_right : Option Addr} {sl__law_right : Array (Option Value)} {oc__law_right kV__law_right dc__law_right pm__law_right cd__law_right ct__law_right : Value} {f_law : Addr} {od_law an_law : Option Addr} {sl_law : Array (Option Value)} {oc_law kV_law dc_law pm_law cd_law ct_law : Value} {tk_q_STILL1 : Tok} {tk_q_STILL2 : Tok} {tk_q_STILL3 : Tok} {tk_q_STILL4 : Tok} {a_q_STILL4 : Addr} {dd_q_STILL4 : Option Addr} {n_q_STILL4 : Nat} {sl_q_STILL4 : Array (Option Value)} {tk_q_MOST_TIMES1 : Tok} (X : K.In h) (G : h.Ns mainGlobals mg) (hfa : mg "law" = some (.ref fa))
    (a_is_whole : PySem.W.nsIn K mainGlobals "is_whole" = some (some (.ref f_is_whole)))
    (l_is_whole : K.lookup f_is_whole = some ⟨oc_is_whole, od_is_whole, .func (PySem.W.fnOf "is_whole" "is_whole" (defArgs s_is_whole) (defBody s_is_whole) (defScope s_is_whole) .none kV_is_whole dc_is_whole pm_is_whole an_is_whole cd_is_whole ct_is_whole), sl_is_whole⟩)
    (c_is_whole : PySem.W.codeIn K cd_is_whole "is_whole" = true)
    (k_is_whole : PySem.W.keepIn K (.ref f_is_whole) = true)
    (a_is_row : PySem.W.nsIn K mainGlobals "is_row" = some (some (.ref f_is_row)))
    (l_is_row : K.lookup f_is_row = some ⟨oc_is_row, od_is_row, .func (PySem.W.fnOf "is_row" "is_row" (defArgs s_is_row) (defBody s_is_row) (defScope s_is_row) .none kV_is_row dc_is_row pm_is_row an_is_row cd_is_row ct_is_row), sl_is_row⟩)
    (c_is_row : PySem.W.codeIn K cd_is_row "is_row" = true)
    (k_is_row : PySem.W.keepIn K (.ref f_is_row) = true)
    (a_divisor_of : PySem.W.nsIn K mainGlobals "divisor_of" = some (some (.ref f_divisor_of)))
    (l_divisor_of : K.lookup f_divisor_of = some ⟨oc_divisor_of, od_divisor_of, .func (PySem.W.fnOf "divisor_of" "divisor_of" (defArgs s_divisor_of) (defBody s_divisor_of) (defScope s_divisor_of) .none kV_divisor_of dc_divisor_of pm_divisor_of an_divisor_of cd_divisor_of ct_divisor_of), sl_divisor_of⟩)
    (c_divisor_of : PySem.W.codeIn K cd_divisor_of "divisor_of" = true)
    (k_divisor_of : PySem.W.keepIn K (.ref f_divisor_of) = true)
    (a_is_reduced_row : PySem.W.nsIn K mainGlobals "is_reduced_row" = some (some (.ref f_is_reduced_row)))
    (l_is_reduced_row : K.lookup f_is_reduced_row = some ⟨oc_is_reduced_row, od_is_reduced_row, .func (PySem.W.fnOf "is_reduced_row" "is_reduced_row" (defArgs s_is_reduced_row) (defBody s_is_reduced_row) (defScope s_is_reduced_row) .none kV_is_reduced_row dc_is_reduced_row pm_is_reduced_row an_is_reduced_row cd_is_reduced_row ct_is_reduced_row), sl_is_reduced_row⟩)
    (c_is_reduced_row : PySem.W.codeIn K cd_is_reduced_row "is_reduced_row" = true)
    (k_is_reduced_row : PySem.W.keepIn K (.ref f_is_reduced_row) = true)
    (a_reduced : PySem.W.nsIn K mainGlobals "reduced" = some (some (.ref f_reduced)))
    (l_reduced : K.lookup f_reduced = some ⟨oc_reduced, od_reduced, .func (PySem.W.fnOf "reduced" "reduced" (defArgs s_reduced) (defBody s_reduced) (defScope s_reduced) .none kV_reduced dc_reduced pm_reduced an_reduced cd_reduced ct_reduced), sl_reduced⟩)
    (c_reduced : PySem.W.codeIn K cd_reduced "reduced" = true)
    (k_reduced : PySem.W.keepIn K (.ref f_reduced) = true)
    (a_dot : PySem.W.nsIn K mainGlobals "dot" = some (some (.ref f_dot)))
    (l_dot : K.lookup f_dot = some ⟨oc_dot, od_dot, .func (PySem.W.fnOf "dot" "dot" (defArgs s_dot) (defBody s_dot) (defScope s_dot) .none kV_dot dc_dot pm_dot an_dot cd_dot ct_dot), sl_dot⟩)
    (c_dot : PySem.W.codeIn K cd_dot "dot" = true)
    (k_dot : PySem.W.keepIn K (.ref f_dot) = true)
    (a_check_whole_to : PySem.W.nsIn K mainGlobals "check_whole_to" = some (some (.ref f_check_whole_to)))
    (l_check_whole_to : K.lookup f_check_whole_to = some ⟨oc_check_whole_to, od_check_whole_to, .func (PySem.W.fnOf "check_whole_to" "check_whole_to" (defArgs s_check_whole_to) (defBody s_check_whole_to) (defScope s_check_whole_to) .none kV_check_whole_to dc_check_whole_to pm_check_whole_to an_check_whole_to cd_check_whole_to ct_check_whole_to), sl_check_whole_to⟩)
    (c_check_whole_to : PySem.W.codeIn K cd_check_whole_to "check_whole_to" = true)
    (k_check_whole_to : PySem.W.keepIn K (.ref f_check_whole_to) = true)
    (a_is_kind : PySem.W.nsIn K mainGlobals "is_kind" = some (some (.ref f_is_kind)))
    (l_is_kind : K.lookup f_is_kind = some ⟨oc_is_kind, od_is_kind, .func (PySem.W.fnOf "is_kind" "is_kind" (defArgs s_is_kind) (defBody s_is_kind) (defScope s_is_kind) .none kV_is_kind dc_is_kind pm_is_kind an_is_kind cd_is_kind ct_is_kind), sl_is_kind⟩)
    (c_is_kind : PySem.W.codeIn K cd_is_kind "is_kind" = true)
    (k_is_kind : PySem.W.keepIn K (.ref f_is_kind) = true)
    (a_check_kind : PySem.W.nsIn K mainGlobals "check_kind" = some (some (.ref f_check_kind)))
    (l_check_kind : K.lookup f_check_kind = some ⟨oc_check_kind, od_check_kind, .func (PySem.W.fnOf "check_kind" "check_kind" (defArgs s_check_kind) (defBody s_check_kind) (defScope s_check_kind) .none kV_check_kind dc_check_kind pm_check_kind an_check_kind cd_check_kind ct_check_kind), sl_check_kind⟩)
    (c_check_kind : PySem.W.codeIn K cd_check_kind "check_kind" = true)
    (k_check_kind : PySem.W.keepIn K (.ref f_check_kind) = true)
    (a_is_setting : PySem.W.nsIn K mainGlobals "is_setting" = some (some (.ref f_is_setting)))
    (l_is_setting : K.lookup f_is_setting = some ⟨oc_is_setting, od_is_setting, .func (PySem.W.fnOf "is_setting" "is_setting" (defArgs s_is_setting) (defBody s_is_setting) (defScope s_is_setting) .none kV_is_setting dc_is_setting pm_is_setting an_is_setting cd_is_setting ct_is_setting), sl_is_setting⟩)
    (c_is_setting : PySem.W.codeIn K cd_is_setting "is_setting" = true)
    (k_is_setting : PySem.W.keepIn K (.ref f_is_setting) = true)
    (a_check_setting : PySem.W.nsIn K mainGlobals "check_setting" = some (some (.ref f_check_setting)))
    (l_check_setting : K.lookup f_check_setting = some ⟨oc_check_setting, od_check_setting, .func (PySem.W.fnOf "check_setting" "check_setting" (defArgs s_check_setting) (defBody s_check_setting) (defScope s_check_setting) .none kV_check_setting dc_check_setting pm_check_setting an_check_setting cd_check_setting ct_check_setting), sl_check_setting⟩)
    (c_check_setting : PySem.W.codeIn K cd_check_setting "check_setting" = true)
    (k_check_setting : PySem.W.keepIn K (.ref f_check_setting) = true)
    (a__first_sign : PySem.W.nsIn K mainGlobals "_first_sign" = some (some (.ref f__first_sign)))
    (l__first_sign : K.lookup f__first_sign = some ⟨oc__first_sign, od__first_sign, .func (PySem.W.fnOf "_first_sign" "_first_sign" (defArgs s__first_sign) (defBody s__first_sign) (defScope s__first_sign) .none kV__first_sign dc__first_sign pm__first_sign an__first_sign cd__first_sign ct__first_sign), sl__first_sign⟩)
    (c__first_sign : PySem.W.codeIn K cd__first_sign "_first_sign" = true)
    (k__first_sign : PySem.W.keepIn K (.ref f__first_sign) = true)
    (a_is_turn : PySem.W.nsIn K mainGlobals "is_turn" = some (some (.ref f_is_turn)))
    (l_is_turn : K.lookup f_is_turn = some ⟨oc_is_turn, od_is_turn, .func (PySem.W.fnOf "is_turn" "is_turn" (defArgs s_is_turn) (defBody s_is_turn) (defScope s_is_turn) .none kV_is_turn dc_is_turn pm_is_turn an_is_turn cd_is_turn ct_is_turn), sl_is_turn⟩)
    (c_is_turn : PySem.W.codeIn K cd_is_turn "is_turn" = true)
    (k_is_turn : PySem.W.keepIn K (.ref f_is_turn) = true)
    (a_check_turn : PySem.W.nsIn K mainGlobals "check_turn" = some (some (.ref f_check_turn)))
    (l_check_turn : K.lookup f_check_turn = some ⟨oc_check_turn, od_check_turn, .func (PySem.W.fnOf "check_turn" "check_turn" (defArgs s_check_turn) (defBody s_check_turn) (defScope s_check_turn) .none kV_check_turn dc_check_turn pm_check_turn an_check_turn cd_check_turn ct_check_turn), sl_check_turn⟩)
    (c_check_turn : PySem.W.codeIn K cd_check_turn "check_turn" = true)
    (k_check_turn : PySem.W.keepIn K (.ref f_check_turn) = true)
    (a__along : PySem.W.nsIn K mainGlobals "_along" = some (some (.ref f__along)))
    (l__along : K.lookup f__along = some ⟨oc__along, od__along, .func (PySem.W.fnOf "_along" "_along" (defArgs s__along) (defBody s__along) (defScope s__along) .none kV__along dc__along pm__along an__along cd__along ct__along), sl__along⟩)
    (c__along : PySem.W.codeIn K cd__along "_along" = true)
    (k__along : PySem.W.keepIn K (.ref f__along) = true)
    (a_turn_along : PySem.W.nsIn K mainGlobals "turn_along" = some (some (.ref f_turn_along)))
    (l_turn_along : K.lookup f_turn_along = some ⟨oc_turn_along, od_turn_along, .func (PySem.W.fnOf "turn_along" "turn_along" (defArgs s_turn_along) (defBody s_turn_along) (defScope s_turn_along) .none kV_turn_along dc_turn_along pm_turn_along an_turn_along cd_turn_along ct_turn_along), sl_turn_along⟩)
    (c_turn_along : PySem.W.codeIn K cd_turn_along "turn_along" = true)
    (k_turn_along : PySem.W.keepIn K (.ref f_turn_along) = true)
    (a_turn_about : PySem.W.nsIn K mainGlobals "turn_about" = some (some (.ref f_turn_about)))
    (l_turn_about : K.lookup f_turn_about = some ⟨oc_turn_about, od_turn_about, .func (PySem.W.fnOf "turn_about" "turn_about" (defArgs s_turn_about) (defBody s_turn_about) (defScope s_turn_about) .none kV_turn_about dc_turn_about pm_turn_about an_turn_about cd_turn_about ct_turn_about), sl_turn_about⟩)
    (c_turn_about : PySem.W.codeIn K cd_turn_about "turn_about" = true)
    (k_turn_about : PySem.W.keepIn K (.ref f_turn_about) = true)
    (a__quaternion_product : PySem.W.nsIn K mainGlobals "_quaternion_product" = some (some (.ref f__quaternion_product)))
    (l__quaternion_product : K.lookup f__quaternion_product = some ⟨oc__quaternion_product, od__quaternion_product, .func (PySem.W.fnOf "_quaternion_product" "_quaternion_product" (defArgs s__quaternion_product) (defBody s__quaternion_product) (defScope s__quaternion_product) .none kV__quaternion_product dc__quaternion_product pm__quaternion_product an__quaternion_product cd__quaternion_product ct__quaternion_product), sl__quaternion_product⟩)
    (c__quaternion_product : PySem.W.codeIn K cd__quaternion_product "_quaternion_product" = true)
    (k__quaternion_product : PySem.W.keepIn K (.ref f__quaternion_product) = true)
    (a_joined_turns : PySem.W.nsIn K mainGlobals "joined_turns" = some (some (.ref f_joined_turns)))
    (l_joined_turns : K.lookup f_joined_turns = some ⟨oc_joined_turns, od_joined_turns, .func (PySem.W.fnOf "joined_turns" "joined_turns" (defArgs s_joined_turns) (defBody s_joined_turns) (defScope s_joined_turns) .none kV_joined_turns dc_joined_turns pm_joined_turns an_joined_turns cd_joined_turns ct_joined_turns), sl_joined_turns⟩)
    (c_joined_turns : PySem.W.codeIn K cd_joined_turns "joined_turns" = true)
    (k_joined_turns : PySem.W.keepIn K (.ref f_joined_turns) = true)
    (a_turn_back : PySem.W.nsIn K mainGlobals "turn_back" = some (some (.ref f_turn_back)))
    (l_turn_back : K.lookup f_turn_back = some ⟨oc_turn_back, od_turn_back, .func (PySem.W.fnOf "turn_back" "turn_back" (defArgs s_turn_back) (defBody s_turn_back) (defScope s_turn_back) .none kV_turn_back dc_turn_back pm_turn_back an_turn_back cd_turn_back ct_turn_back), sl_turn_back⟩)
    (c_turn_back : PySem.W.codeIn K cd_turn_back "turn_back" = true)
    (k_turn_back : PySem.W.keepIn K (.ref f_turn_back) = true)
    (a_turn_times : PySem.W.nsIn K mainGlobals "turn_times" = some (some (.ref f_turn_times)))
    (l_turn_times : K.lookup f_turn_times = some ⟨oc_turn_times, od_turn_times, .func (PySem.W.fnOf "turn_times" "turn_times" (defArgs s_turn_times) (defBody s_turn_times) (defScope s_turn_times) .none kV_turn_times dc_turn_times pm_turn_times an_turn_times cd_turn_times ct_turn_times), sl_turn_times⟩)
    (c_turn_times : PySem.W.codeIn K cd_turn_times "turn_times" = true)
    (k_turn_times : PySem.W.keepIn K (.ref f_turn_times) = true)
    (a__law_source : PySem.W.nsIn K mainGlobals "_law_source" = some (some (.ref f__law_source)))
    (l__law_source : K.lookup f__law_source = some ⟨oc__law_source, od__law_source, .func (PySem.W.fnOf "_law_source" "_law_source" (defArgs s__law_source) (defBody s__law_source) (defScope s__law_source) .none kV__law_source dc__law_source pm__law_source an__law_source cd__law_source ct__law_source), sl__law_source⟩)
    (c__law_source : PySem.W.codeIn K cd__law_source "_law_source" = true)
    (k__law_source : PySem.W.keepIn K (.ref f__law_source) = true)
    (a__law_draw : PySem.W.nsIn K mainGlobals "_law_draw" = some (some (.ref f__law_draw)))
    (l__law_draw : K.lookup f__law_draw = some ⟨oc__law_draw, od__law_draw, .func (PySem.W.fnOf "_law_draw" "_law_draw" (defArgs s__law_draw) (defBody s__law_draw) (defScope s__law_draw) .none kV__law_draw dc__law_draw pm__law_draw an__law_draw cd__law_draw ct__law_draw), sl__law_draw⟩)
    (c__law_draw : PySem.W.codeIn K cd__law_draw "_law_draw" = true)
    (k__law_draw : PySem.W.keepIn K (.ref f__law_draw) = true)
    (a__law_pick : PySem.W.nsIn K mainGlobals "_law_pick" = some (some (.ref f__law_pick)))
    (l__law_pick : K.lookup f__law_pick = some ⟨oc__law_pick, od__law_pick, .func (PySem.W.fnOf "_law_pick" "_law_pick" (defArgs s__law_pick) (defBody s__law_pick) (defScope s__law_pick) .none kV__law_pick dc__law_pick pm__law_pick an__law_pick cd__law_pick ct__law_pick), sl__law_pick⟩)
    (c__law_pick : PySem.W.codeIn K cd__law_pick "_law_pick" = true)
    (k__law_pick : PySem.W.keepIn K (.ref f__law_pick) = true)
    (a__law_about : PySem.W.nsIn K mainGlobals "_law_about" = some (some (.ref f__law_about)))
    (l__law_about : K.lookup f__law_about = some ⟨oc__law_about, od__law_about, .func (PySem.W.fnOf "_law_about" "_law_about" (defArgs s__law_about) (defBody s__law_about) (defScope s__law_about) .none kV__law_about dc__law_about pm__law_about an__law_about cd__law_about ct__law_about), sl__law_about⟩)
    (c__law_about : PySem.W.codeIn K cd__law_about "_law_about" = true)
    (k__law_about : PySem.W.keepIn K (.ref f__law_about) = true)
    (a__law_common : PySem.W.nsIn K mainGlobals "_law_common" = some (some (.ref f__law_common)))
    (l__law_common : K.lookup f__law_common = some ⟨oc__law_common, od__law_common, .func (PySem.W.fnOf "_law_common" "_law_common" (defArgs s__law_common) (defBody s__law_common) (defScope s__law_common) .none kV__law_common dc__law_common pm__law_common an__law_common cd__law_common ct__law_common), sl__law_common⟩)
    (c__law_common : PySem.W.codeIn K cd__law_common "_law_common" = true)
    (k__law_common : PySem.W.keepIn K (.ref f__law_common) = true)
    (a__law_low : PySem.W.nsIn K mainGlobals "_law_low" = some (some (.ref f__law_low)))
    (l__law_low : K.lookup f__law_low = some ⟨oc__law_low, od__law_low, .func (PySem.W.fnOf "_law_low" "_law_low" (defArgs s__law_low) (defBody s__law_low) (defScope s__law_low) .none kV__law_low dc__law_low pm__law_low an__law_low cd__law_low ct__law_low), sl__law_low⟩)
    (c__law_low : PySem.W.codeIn K cd__law_low "_law_low" = true)
    (k__law_low : PySem.W.keepIn K (.ref f__law_low) = true)
    (a__law_along : PySem.W.nsIn K mainGlobals "_law_along" = some (some (.ref f__law_along)))
    (l__law_along : K.lookup f__law_along = some ⟨oc__law_along, od__law_along, .func (PySem.W.fnOf "_law_along" "_law_along" (defArgs s__law_along) (defBody s__law_along) (defScope s__law_along) .none kV__law_along dc__law_along pm__law_along an__law_along cd__law_along ct__law_along), sl__law_along⟩)
    (c__law_along : PySem.W.codeIn K cd__law_along "_law_along" = true)
    (k__law_along : PySem.W.keepIn K (.ref f__law_along) = true)
    (a__law_mult : PySem.W.nsIn K mainGlobals "_law_mult" = some (some (.ref f__law_mult)))
    (l__law_mult : K.lookup f__law_mult = some ⟨oc__law_mult, od__law_mult, .func (PySem.W.fnOf "_law_mult" "_law_mult" (defArgs s__law_mult) (defBody s__law_mult) (defScope s__law_mult) .none kV__law_mult dc__law_mult pm__law_mult an__law_mult cd__law_mult ct__law_mult), sl__law_mult⟩)
    (c__law_mult : PySem.W.codeIn K cd__law_mult "_law_mult" = true)
    (k__law_mult : PySem.W.keepIn K (.ref f__law_mult) = true)
    (a__law_both : PySem.W.nsIn K mainGlobals "_law_both" = some (some (.ref f__law_both)))
    (l__law_both : K.lookup f__law_both = some ⟨oc__law_both, od__law_both, .func (PySem.W.fnOf "_law_both" "_law_both" (defArgs s__law_both) (defBody s__law_both) (defScope s__law_both) .none kV__law_both dc__law_both pm__law_both an__law_both cd__law_both ct__law_both), sl__law_both⟩)
    (c__law_both : PySem.W.codeIn K cd__law_both "_law_both" = true)
    (k__law_both : PySem.W.keepIn K (.ref f__law_both) = true)
    (a__law_spin : PySem.W.nsIn K mainGlobals "_law_spin" = some (some (.ref f__law_spin)))
    (l__law_spin : K.lookup f__law_spin = some ⟨oc__law_spin, od__law_spin, .func (PySem.W.fnOf "_law_spin" "_law_spin" (defArgs s__law_spin) (defBody s__law_spin) (defScope s__law_spin) .none kV__law_spin dc__law_spin pm__law_spin an__law_spin cd__law_spin ct__law_spin), sl__law_spin⟩)
    (c__law_spin : PySem.W.codeIn K cd__law_spin "_law_spin" = true)
    (k__law_spin : PySem.W.keepIn K (.ref f__law_spin) = true)
    (a__law_kind : PySem.W.nsIn K mainGlobals "_law_kind" = some (some (.ref f__law_kind)))
    (l__law_kind : K.lookup f__law_kind = some ⟨oc__law_kind, od__law_kind, .func (PySem.W.fnOf "_law_kind" "_law_kind" (defArgs s__law_kind) (defBody s__law_kind) (defScope s__law_kind) .none kV__law_kind dc__law_kind pm__law_kind an__law_kind cd__law_kind ct__law_kind), sl__law_kind⟩)
    (c__law_kind : PySem.W.codeIn K cd__law_kind "_law_kind" = true)
    (k__law_kind : PySem.W.keepIn K (.ref f__law_kind) = true)
    (a__law_slot : PySem.W.nsIn K mainGlobals "_law_slot" = some (some (.ref f__law_slot)))
    (l__law_slot : K.lookup f__law_slot = some ⟨oc__law_slot, od__law_slot, .func (PySem.W.fnOf "_law_slot" "_law_slot" (defArgs s__law_slot) (defBody s__law_slot) (defScope s__law_slot) .none kV__law_slot dc__law_slot pm__law_slot an__law_slot cd__law_slot ct__law_slot), sl__law_slot⟩)
    (c__law_slot : PySem.W.codeIn K cd__law_slot "_law_slot" = true)
    (k__law_slot : PySem.W.keepIn K (.ref f__law_slot) = true)
    (a__law_number : PySem.W.nsIn K mainGlobals "_law_number" = some (some (.ref f__law_number)))
    (l__law_number : K.lookup f__law_number = some ⟨oc__law_number, od__law_number, .func (PySem.W.fnOf "_law_number" "_law_number" (defArgs s__law_number) (defBody s__law_number) (defScope s__law_number) .none kV__law_number dc__law_number pm__law_number an__law_number cd__law_number ct__law_number), sl__law_number⟩)
    (c__law_number : PySem.W.codeIn K cd__law_number "_law_number" = true)
    (k__law_number : PySem.W.keepIn K (.ref f__law_number) = true)
    (a__law_four : PySem.W.nsIn K mainGlobals "_law_four" = some (some (.ref f__law_four)))
    (l__law_four : K.lookup f__law_four = some ⟨oc__law_four, od__law_four, .func (PySem.W.fnOf "_law_four" "_law_four" (defArgs s__law_four) (defBody s__law_four) (defScope s__law_four) .none kV__law_four dc__law_four pm__law_four an__law_four cd__law_four ct__law_four), sl__law_four⟩)
    (c__law_four : PySem.W.codeIn K cd__law_four "_law_four" = true)
    (k__law_four : PySem.W.keepIn K (.ref f__law_four) = true)
    (a__law_power : PySem.W.nsIn K mainGlobals "_law_power" = some (some (.ref f__law_power)))
    (l__law_power : K.lookup f__law_power = some ⟨oc__law_power, od__law_power, .func (PySem.W.fnOf "_law_power" "_law_power" (defArgs s__law_power) (defBody s__law_power) (defScope s__law_power) .none kV__law_power dc__law_power pm__law_power an__law_power cd__law_power ct__law_power), sl__law_power⟩)
    (c__law_power : PySem.W.codeIn K cd__law_power "_law_power" = true)
    (k__law_power : PySem.W.keepIn K (.ref f__law_power) = true)
    (a__law_are_told : PySem.W.nsIn K mainGlobals "_law_are_told" = some (some (.ref f__law_are_told)))
    (l__law_are_told : K.lookup f__law_are_told = some ⟨oc__law_are_told, od__law_are_told, .func (PySem.W.fnOf "_law_are_told" "_law_are_told" (defArgs s__law_are_told) (defBody s__law_are_told) (defScope s__law_are_told) .none kV__law_are_told dc__law_are_told pm__law_are_told an__law_are_told cd__law_are_told ct__law_are_told), sl__law_are_told⟩)
    (c__law_are_told : PySem.W.codeIn K cd__law_are_told "_law_are_told" = true)
    (k__law_are_told : PySem.W.keepIn K (.ref f__law_are_told) = true)
    (a__law_right : PySem.W.nsIn K mainGlobals "_law_right" = some (some (.ref f__law_right)))
    (l__law_right : K.lookup f__law_right = some ⟨oc__law_right, od__law_right, .func (PySem.W.fnOf "_law_right" "_law_right" (defArgs s__law_right) (defBody s__law_right) (defScope s__law_right) .none kV__law_right dc__law_right pm__law_right an__law_right cd__law_right ct__law_right), sl__law_right⟩)
    (c__law_right : PySem.W.codeIn K cd__law_right "_law_right" = true)
    (k__law_right : PySem.W.keepIn K (.ref f__law_right) = true)
    (a_law : PySem.W.nsIn K mainGlobals "law" = some (some (.ref f_law)))
    (l_law : K.lookup f_law = some ⟨oc_law, od_law, .func (PySem.W.fnOf "law" "law" (defArgs s_law) (defBody s_law) (defScope s_law) .none kV_law dc_law pm_law an_law cd_law ct_law), sl_law⟩)
    (c_law : PySem.W.codeIn K cd_law "law" = true)
    (k_law : PySem.W.keepIn K (.ref f_law) = true)
    (z_gcd : PySem.W.nsIn K mainGlobals "gcd" = some (some (.builtin "math.gcd")))
    (z_abs : PySem.W.nsIn K mainGlobals "abs" = some none)
    (z_all : PySem.W.nsIn K mainGlobals "all" = some none)
    (z_divmod : PySem.W.nsIn K mainGlobals "divmod" = some none)
    (z_int : PySem.W.nsIn K mainGlobals "int" = some none)
    (z_len : PySem.W.nsIn K mainGlobals "len" = some none)
    (z_list : PySem.W.nsIn K mainGlobals "list" = some none)
    (z_max : PySem.W.nsIn K mainGlobals "max" = some none)
    (z_min : PySem.W.nsIn K mainGlobals "min" = some none)
    (z_range : PySem.W.nsIn K mainGlobals "range" = some none)
    (z_repr : PySem.W.nsIn K mainGlobals "repr" = some none)
    (z_sum : PySem.W.nsIn K mainGlobals "sum" = some none)
    (z_tuple : PySem.W.nsIn K mainGlobals "tuple" = some none)
    (z_type : PySem.W.nsIn K mainGlobals "type" = some none)
    (z_zip : PySem.W.nsIn K mainGlobals "zip" = some none)
    (y__STILL : PySem.W.nsIn K mainGlobals "_STILL" = some (some (.ref a_q_STILL4)))
    (t_q_STILL4 : K.lookup a_q_STILL4 = some ⟨.type "tuple", dd_q_STILL4, .seq #[.int (1) tk_q_STILL1, .int (0) tk_q_STILL2, .int (0) tk_q_STILL3, .int (0) tk_q_STILL4] n_q_STILL4, sl_q_STILL4⟩)
    (y__MOST_TIMES : PySem.W.nsIn K mainGlobals "_MOST_TIMES" = some (some (.int (24) tk_q_MOST_TIMES1))) :
    ∃ fd : FuncData, (∀ (s : Shared) (v : Value), BindsTo s fd ⟨[v], []⟩ [("_law_script", v)]) ∧ ∀ base : Heap, K.In base → base.Ns mainGlobals mg → FnG l.prog w K mg base 9 fa fd ["_law_script"] F_law := by
  have e := hfa.symm.trans (PySem.W.mg_of X G a_law)
  cases e
  have U_is_whole := fun_mk (st := s_is_whole) l_is_whole c_is_whole k_is_whole
  have U_is_row := fun_mk (st := s_is_row) l_is_row c_is_row k_is_row
  have U_divisor_of := fun_mk (st := s_divisor_of) l_divisor_of c_divisor_of k_divisor_of
  have U_is_reduced_row := fun_mk (st := s_is_reduced_row) l_is_reduced_row c_is_reduced_row k_is_reduced_row
  have U_reduced := fun_mk (st := s_reduced) l_reduced c_reduced k_reduced
  have U_dot := fun_mk (st := s_dot) l_dot c_dot k_dot
  have U_check_whole_to := fun_mk (st := s_check_whole_to) l_check_whole_to c_check_whole_to k_check_whole_to
  have U_is_kind := fun_mk (st := s_is_kind) l_is_kind c_is_kind k_is_kind
  have U_check_kind := fun_mk (st := s_check_kind) l_check_kind c_check_kind k_check_kind
  have U_is_setting := fun_mk (st := s_is_setting) l_is_setting c_is_setting k_is_setting
  have U_check_setting := fun_mk (st := s_check_setting) l_check_setting c_check_setting k_check_setting
  have U__first_sign := fun_mk (st := s__first_sign) l__first_sign c__first_sign k__first_sign
  have U_is_turn := fun_mk (st := s_is_turn) l_is_turn c_is_turn k_is_turn
  have U_check_turn := fun_mk (st := s_check_turn) l_check_turn c_check_turn k_check_turn
  have U__along := fun_mk (st := s__along) l__along c__along k__along
  have U_turn_along := fun_mk (st := s_turn_along) l_turn_along c_turn_along k_turn_along
  have U_turn_about := fun_mk (st := s_turn_about) l_turn_about c_turn_about k_turn_about
  have U__quaternion_product := fun_mk (st := s__quaternion_product) l__quaternion_product c__quaternion_product k__quaternion_product
  have U_joined_turns := fun_mk (st := s_joined_turns) l_joined_turns c_joined_turns k_joined_turns
  have U_turn_back := fun_mk (st := s_turn_back) l_turn_back c_turn_back k_turn_back
  have U_turn_times := fun_mk (st := s_turn_times) l_turn_times c_turn_times k_turn_times
  have U__law_source := fun_mk (st := s__law_source) l__law_source c__law_source k__law_source
  have U__law_draw := fun_mk (st := s__law_draw) l__law_draw c__law_draw k__law_draw
  have U__law_pick := fun_mk (st := s__law_pick) l__law_pick c__law_pick k__law_pick
  have U__law_about := fun_mk (st := s__law_about) l__law_about c__law_about k__law_about
  have U__law_common := fun_mk (st := s__law_common) l__law_common c__law_common k__law_common
  have U__law_low := fun_mk (st := s__law_low) l__law_low c__law_low k__law_low
  have U__law_along := fun_mk (st := s__law_along) l__law_along c__law_along k__law_along
  have U__law_mult := fun_mk (st := s__law_mult) l__law_mult c__law_mult k__law_mult
  have U__law_both := fun_mk (st := s__law_both) l__law_both c__law_both k__law_both
  have U__law_spin := fun_mk (st := s__law_spin) l__law_spin c__law_spin k__law_spin
  have U__law_kind := fun_mk (st := s__law_kind) l__law_kind c__law_kind k__law_kind
  have U__law_slot := fun_mk (st := s__law_slot) l__law_slot c__law_slot k__law_slot
  have U__law_number := fun_mk (st := s__law_number) l__law_number c__law_number k__law_number
  have U__law_four := fun_mk (st := s__law_four) l__law_four c__law_four k__law_four
  have U__law_power := fun_mk (st := s__law_power) l__law_power c__law_power k__law_power
  have U__law_are_told := fun_mk (st := s__law_are_told) l__law_are_told c__law_are_told k__law_are_told
  have U__law_right := fun_mk (st := s__law_right) l__law_right c__law_right k__law_right
  have U_law := fun_mk (st := s_law) l_law c_law k_law
  have T : Tx K mg := ⟨PySem.W.mg_of X G z_gcd, PySem.W.mg_none_of X G z_abs, PySem.W.mg_none_of X G z_all, PySem.W.mg_none_of X G z_divmod, PySem.W.mg_none_of X G z_int, PySem.W.mg_none_of X G z_len, PySem.W.mg_none_of X G z_list, PySem.W.mg_none_of X G z_max, PySem.W.mg_none_of X G z_min, PySem.W.mg_none_of X G z_range, PySem.W.mg_none_of X G z_repr, PySem.W.mg_none_of X G z_sum, PySem.W.mg_none_of X G z_tuple, PySem.W.mg_none_of X G z_type, PySem.W.mg_none_of X G z_zip, ⟨.ref a_q_STILL4, _, PySem.W.mg_of X G y__STILL, rfl, fun _ => (dp_kt (vs := [.int (1), .int (0), .int (0), .int (0)]) t_q_STILL4 (by show 4 ≤ sizeLine; decide) (.cons ⟨_, rfl⟩ (.cons ⟨_, rfl⟩ (.cons ⟨_, rfl⟩ (.cons ⟨_, rfl⟩ .nil)))) fun _ => (.cons (.int _) (.cons (.int _) (.cons (.int _) (.cons (.int _) .nil)))))⟩, ⟨.int (24), _, PySem.W.mg_of X G y__MOST_TIMES, ⟨_, rfl⟩, fun _ => (.int _)⟩⟩
  refine ⟨PySem.W.fnOf "law" "law" (defArgs s_law) (defBody s_law) (defScope s_law) .none kV_law dc_law pm_law an_law cd_law ct_law, fun s v => .of_eq rfl, fun base _ _ => ?_⟩
  have C_is_whole : At l.prog w K mg base 1 "is_whole" ["value"] F_is_whole := at_mk U_is_whole (PySem.W.mg_of X G a_is_whole) (ok_is_whole U_is_whole T ) fun _ _ _ _ _ _ us hl i hi => bk_is_whole us hl i hi
  have C_is_row : At l.prog w K mg base 2 "is_row" ["value", "many"] F_is_row := at_mk U_is_row (PySem.W.mg_of X G a_is_row) (ok_is_row U_is_row T C_is_whole) fun _ _ _ _ _ _ us hl i hi => bk_is_row us hl i hi
  have C_divisor_of : At l.prog w K mg base 1 "divisor_of" ["numbers"] F_divisor_of := at_mk U_divisor_of (PySem.W.mg_of X G a_divisor_of) (ok_divisor_of U_divisor_of T ) fun _ _ _ _ _ _ us hl i hi => bk_divisor_of us hl i hi
  have C_is_reduced_row : At l.prog w K mg base 3 "is_reduced_row" ["value", "many"] F_is_reduced_row := at_mk U_is_reduced_row (PySem.W.mg_of X G a_is_reduced_row) (ok_is_reduced_row U_is_reduced_row T C_divisor_of C_is_row) fun _ _ _ _ _ _ us hl i hi => bk_is_reduced_row us hl i hi
  have C_reduced : At l.prog w K mg base 2 "reduced" ["numbers"] F_reduced := at_mk U_reduced (PySem.W.mg_of X G a_reduced) (ok_reduced U_reduced T C_divisor_of) fun _ _ _ _ _ _ us hl i hi => bk_reduced us hl i hi
  have C_dot : At l.prog w K mg base 1 "dot" ["row", "other"] F_dot := at_mk U_dot (PySem.W.mg_of X G a_dot) (ok_dot U_dot T ) fun _ _ _ _ _ _ us hl i hi => bk_dot us hl i hi
  have C_check_whole_to : At l.prog w K mg base 2 "check_whole_to" ["value", "most"] F_check_whole_to := at_mk U_check_whole_to (PySem.W.mg_of X G a_check_whole_to) (ok_check_whole_to U_check_whole_to T C_is_whole) fun _ _ _ _ _ _ us hl i hi => bk_check_whole_to us hl i hi
  have C_is_kind : At l.prog w K mg base 4 "is_kind" ["value"] F_is_kind := at_mk U_is_kind (PySem.W.mg_of X G a_is_kind) (ok_is_kind U_is_kind T C_dot C_is_reduced_row) fun _ _ _ _ _ _ us hl i hi => bk_is_kind us hl i hi
  have C_check_kind : At l.prog w K mg base 5 "check_kind" ["value"] F_check_kind := at_mk U_check_kind (PySem.W.mg_of X G a_check_kind) (ok_check_kind U_check_kind T C_is_kind) fun _ _ _ _ _ _ us hl i hi => bk_check_kind us hl i hi
  have C_is_setting : At l.prog w K mg base 4 "is_setting" ["value"] F_is_setting := at_mk U_is_setting (PySem.W.mg_of X G a_is_setting) (ok_is_setting U_is_setting T C_is_reduced_row) fun _ _ _ _ _ _ us hl i hi => bk_is_setting us hl i hi
  have C_check_setting : At l.prog w K mg base 5 "check_setting" ["value"] F_check_setting := at_mk U_check_setting (PySem.W.mg_of X G a_check_setting) (ok_check_setting U_check_setting T C_is_setting) fun _ _ _ _ _ _ us hl i hi => bk_check_setting us hl i hi
  have C__first_sign : At l.prog w K mg base 1 "_first_sign" ["row"] F__first_sign := at_mk U__first_sign (PySem.W.mg_of X G a__first_sign) (ok__first_sign U__first_sign T ) fun _ _ _ _ _ _ us hl i hi => bk__first_sign us hl i hi
  have C_is_turn : At l.prog w K mg base 4 "is_turn" ["value"] F_is_turn := at_mk U_is_turn (PySem.W.mg_of X G a_is_turn) (ok_is_turn U_is_turn T C__first_sign C_is_reduced_row) fun _ _ _ _ _ _ us hl i hi => bk_is_turn us hl i hi
  have C_check_turn : At l.prog w K mg base 5 "check_turn" ["value"] F_check_turn := at_mk U_check_turn (PySem.W.mg_of X G a_check_turn) (ok_check_turn U_check_turn T C_is_turn) fun _ _ _ _ _ _ us hl i hi => bk_check_turn us hl i hi
  have C__along : At l.prog w K mg base 3 "_along" ["row"] F__along := at_mk U__along (PySem.W.mg_of X G a__along) (ok__along U__along T C__first_sign C_reduced) fun _ _ _ _ _ _ us hl i hi => bk__along us hl i hi
  have C_turn_along : At l.prog w K mg base 4 "turn_along" ["numbers"] F_turn_along := at_mk U_turn_along (PySem.W.mg_of X G a_turn_along) (ok_turn_along U_turn_along T C__along C__first_sign C_is_row) fun _ _ _ _ _ _ us hl i hi => bk_turn_along us hl i hi
  have C_turn_about : At l.prog w K mg base 6 "turn_about" ["kind", "setting"] F_turn_about := at_mk U_turn_about (PySem.W.mg_of X G a_turn_about) (ok_turn_about U_turn_about T C__along C_check_kind C_check_setting) fun _ _ _ _ _ _ us hl i hi => bk_turn_about us hl i hi
  have C_turn_about_by10 : AtP l.prog w K mg base 6 "turn_about" ["kind", "setting"] ["setting", "kind"] [1, 0] F_turn_about := atp_mk U_turn_about (PySem.W.mg_of X G a_turn_about) (ok_turn_about U_turn_about T C__along C_check_kind C_check_setting) fun _ _ _ _ _ _ us hl => bp_turn_about_by10 us hl
  have C__quaternion_product : At l.prog w K mg base 1 "_quaternion_product" ["one", "two"] F__quaternion_product := at_mk U__quaternion_product (PySem.W.mg_of X G a__quaternion_product) (ok__quaternion_product U__quaternion_product T ) fun _ _ _ _ _ _ us hl i hi => bk__quaternion_product us hl i hi
  have C_joined_turns : At l.prog w K mg base 6 "joined_turns" ["turn", "other"] F_joined_turns := at_mk U_joined_turns (PySem.W.mg_of X G a_joined_turns) (ok_joined_turns U_joined_turns T C__along C__quaternion_product C_check_turn) fun _ _ _ _ _ _ us hl i hi => bk_joined_turns us hl i hi
  have C_joined_turns_by10 : AtP l.prog w K mg base 6 "joined_turns" ["turn", "other"] ["other", "turn"] [1, 0] F_joined_turns := atp_mk U_joined_turns (PySem.W.mg_of X G a_joined_turns) (ok_joined_turns U_joined_turns T C__along C__quaternion_product C_check_turn) fun _ _ _ _ _ _ us hl => bp_joined_turns_by10 us hl
  have C_turn_back : At l.prog w K mg base 6 "turn_back" ["turn"] F_turn_back := at_mk U_turn_back (PySem.W.mg_of X G a_turn_back) (ok_turn_back U_turn_back T C__along C_check_turn) fun _ _ _ _ _ _ us hl i hi => bk_turn_back us hl i hi
  have C_turn_times : At l.prog w K mg base 7 "turn_times" ["turn", "many"] F_turn_times := at_mk U_turn_times (PySem.W.mg_of X G a_turn_times) (ok_turn_times U_turn_times T C_check_turn C_check_whole_to C_joined_turns) fun _ _ _ _ _ _ us hl i hi => bk_turn_times us hl i hi
  have C_turn_times_by10 : AtP l.prog w K mg base 7 "turn_times" ["turn", "many"] ["many", "turn"] [1, 0] F_turn_times := atp_mk U_turn_times (PySem.W.mg_of X G a_turn_times) (ok_turn_times U_turn_times T C_check_turn C_check_whole_to C_joined_turns) fun _ _ _ _ _ _ us hl => bp_turn_times_by10 us hl
  have C__law_source : At l.prog w K mg base 1 "_law_source" ["_law_script", "_law_at"] F__law_source := at_mk U__law_source (PySem.W.mg_of X G a__law_source) (ok__law_source U__law_source T ) fun _ _ _ _ _ _ us hl i hi => bk__law_source us hl i hi
  have C__law_draw : At l.prog w K mg base 1 "_law_draw" ["_law_source_here", "_law_top"] F__law_draw := at_mk U__law_draw (PySem.W.mg_of X G a__law_draw) (ok__law_draw U__law_draw T ) fun _ _ _ _ _ _ us hl i hi => bk__law_draw us hl i hi
  have C__law_pick : At l.prog w K mg base 2 "_law_pick" ["_law_source_here", "_law_some"] F__law_pick := at_mk U__law_pick (PySem.W.mg_of X G a__law_pick) (ok__law_pick U__law_pick T C__law_draw) fun _ _ _ _ _ _ us hl i hi => bk__law_pick us hl i hi
  have C__law_about : At l.prog w K mg base 2 "_law_about" ["_law_source_here", "_law_most"] F__law_about := at_mk U__law_about (PySem.W.mg_of X G a__law_about) (ok__law_about U__law_about T C__law_draw) fun _ _ _ _ _ _ us hl i hi => bk__law_about us hl i hi
  have C__law_common : At l.prog w K mg base 1 "_law_common" ["_law_row"] F__law_common := at_mk U__law_common (PySem.W.mg_of X G a__law_common) (ok__law_common U__law_common T ) fun _ _ _ _ _ _ us hl i hi => bk__law_common us hl i hi
  have C__law_low : At l.prog w K mg base 2 "_law_low" ["_law_row"] F__law_low := at_mk U__law_low (PySem.W.mg_of X G a__law_low) (ok__law_low U__law_low T C__law_common) fun _ _ _ _ _ _ us hl i hi => bk__law_low us hl i hi
  have C__law_along : At l.prog w K mg base 3 "_law_along" ["_law_four_here"] F__law_along := at_mk U__law_along (PySem.W.mg_of X G a__law_along) (ok__law_along U__law_along T C__law_low) fun _ _ _ _ _ _ us hl i hi => bk__law_along us hl i hi
  have C__law_mult : At l.prog w K mg base 1 "_law_mult" ["_law_one", "_law_two"] F__law_mult := at_mk U__law_mult (PySem.W.mg_of X G a__law_mult) (ok__law_mult U__law_mult T ) fun _ _ _ _ _ _ us hl i hi => bk__law_mult us hl i hi
  have C__law_both : At l.prog w K mg base 4 "_law_both" ["_law_one", "_law_two"] F__law_both := at_mk U__law_both (PySem.W.mg_of X G a__law_both) (ok__law_both U__law_both T C__law_along C__law_mult) fun _ _ _ _ _ _ us hl i hi => bk__law_both us hl i hi
  have C__law_spin : At l.prog w K mg base 4 "_law_spin" ["_law_source_here"] F__law_spin := at_mk U__law_spin (PySem.W.mg_of X G a__law_spin) (ok__law_spin U__law_spin T C__law_about C__law_along C__law_draw C__law_pick) fun _ _ _ _ _ _ us hl i hi => bk__law_spin us hl i hi
  have C__law_kind : At l.prog w K mg base 3 "_law_kind" ["_law_source_here"] F__law_kind := at_mk U__law_kind (PySem.W.mg_of X G a__law_kind) (ok__law_kind U__law_kind T C__law_about C__law_draw C__law_low C__law_pick) fun _ _ _ _ _ _ us hl i hi => bk__law_kind us hl i hi
  have C__law_slot : At l.prog w K mg base 3 "_law_slot" ["_law_source_here"] F__law_slot := at_mk U__law_slot (PySem.W.mg_of X G a__law_slot) (ok__law_slot U__law_slot T C__law_about C__law_draw C__law_low C__law_pick) fun _ _ _ _ _ _ us hl i hi => bk__law_slot us hl i hi
  have C__law_number : At l.prog w K mg base 3 "_law_number" ["_law_source_here", "_law_most"] F__law_number := at_mk U__law_number (PySem.W.mg_of X G a__law_number) (ok__law_number U__law_number T C__law_about C__law_draw) fun _ _ _ _ _ _ us hl i hi => bk__law_number us hl i hi
  have C__law_four : At l.prog w K mg base 4 "_law_four" ["_law_source_here"] F__law_four := at_mk U__law_four (PySem.W.mg_of X G a__law_four) (ok__law_four U__law_four T C__law_number C__law_pick) fun _ _ _ _ _ _ us hl i hi => bk__law_four us hl i hi
  have C__law_power : At l.prog w K mg base 5 "_law_power" ["_law_spin_here", "_law_often"] F__law_power := at_mk U__law_power (PySem.W.mg_of X G a__law_power) (ok__law_power U__law_power T C__law_both) fun _ _ _ _ _ _ us hl i hi => bk__law_power us hl i hi
  have C__law_are_told : At l.prog w K mg base 5 "_law_are_told" ["_law_spin_here"] F__law_are_told := at_mk U__law_are_told (PySem.W.mg_of X G a__law_are_told) (ok__law_are_told U__law_are_told T C_is_turn) fun _ _ _ _ _ _ us hl i hi => bk__law_are_told us hl i hi
  have C__law_right : At l.prog w K mg base 8 "_law_right" ["_law_source_here"] F__law_right := at_mk U__law_right (PySem.W.mg_of X G a__law_right) (ok__law_right U__law_right T C__law_along C__law_are_told C__law_both C__law_draw C__law_four C__law_kind C__law_pick C__law_power C__law_slot C__law_spin C_joined_turns C_turn_about C_turn_along C_turn_back C_turn_times C_joined_turns_by10 C_turn_about_by10 C_turn_times_by10) fun _ _ _ _ _ _ us hl i hi => bk__law_right us hl i hi
  exact ok_law U_law T C__law_right C__law_source
end K26


set_option Elab.async false
set_option linter.all false
namespace Q4
/-! four whole numbers along one line -/
def g4 (a b c d : Int) : Nat := Nat.gcd (Nat.gcd (Nat.gcd (Nat.gcd 0 a.natAbs) b.natAbs) c.natAbs) d.natAbs
def m4 (a b c d : Int) : Int := if (1 : Int) > g4 a b c d then 1 else g4 a b c d
def fs (a b c d : Int) : Int := if a ≠ 0 then a else if b ≠ 0 then b else if c ≠ 0 then c else d
def sg (x : Int) : Int := if x < 0 then -1 else 1
def A (a b c d x : Int) : Int := sg (fs a b c d) * (x / m4 a b c d)
structure Red (a b c d : Int) : Prop where
  one : g4 a b c d = 1
  pos : 0 < fs a b c d
theorem m4_pos (a b c d : Int) : 0 < m4 a b c d := by
  unfold m4
  split <;> omega
theorem g4_mul (k a b c d : Int) : g4 (k * a) (k * b) (k * c) (k * d) = k.natAbs * g4 a b c d := by
  unfold g4
  simp only [Int.natAbs_mul, Nat.gcd_zero_left, Nat.gcd_mul_left]
theorem fs_mul {k : Int} (hk : k ≠ 0) (a b c d : Int) : fs (k * a) (k * b) (k * c) (k * d) = k * fs a b c d := by
  unfold fs
  by_cases ha : a = 0
  · subst ha
    by_cases hb : b = 0
    · subst hb
      by_cases hc : c = 0
      · subst hc; simp
      · simp [Int.mul_eq_zero, hk, hc]
    · simp [Int.mul_eq_zero, hk, hb]
  · simp [Int.mul_eq_zero, hk, ha]
theorem sg_mul {k x : Int} (hk : k ≠ 0) (hx : x ≠ 0) : sg (k * x) = sg k * sg x := by
  rcases Int.lt_trichotomy k 0 with h | h | h
  · rcases Int.lt_trichotomy x 0 with g | g | g
    · have := Int.mul_pos_of_neg_of_neg h g
      unfold sg; (repeat' split) <;> omega
    · exact absurd g hx
    · have := Int.mul_neg_of_neg_of_pos h g
      unfold sg; (repeat' split) <;> omega
  · exact absurd h hk
  · rcases Int.lt_trichotomy x 0 with g | g | g
    · have := Int.mul_neg_of_pos_of_neg h g
      unfold sg; (repeat' split) <;> omega
    · exact absurd g hx
    · have := Int.mul_pos h g
      unfold sg; (repeat' split) <;> omega
theorem sg_sq (x : Int) : sg x * sg x = 1 := by unfold sg; split <;> rfl
theorem sg_abs (k : Int) : sg k * k = k.natAbs := by unfold sg; split <;> omega
theorem sg_ne (x : Int) : sg x ≠ 0 := by unfold sg; split <;> omega
theorem sg_nat (x : Int) : (sg x).natAbs = 1 := by unfold sg; split <;> rfl
theorem g4_zero {a b c d : Int} (h : g4 a b c d = 0) : fs a b c d = 0 := by
  unfold g4 at h
  have h1 := Nat.gcd_eq_zero_iff.mp h
  have h2 := Nat.gcd_eq_zero_iff.mp h1.1
  have h3 := Nat.gcd_eq_zero_iff.mp h2.1
  have h4 := Nat.gcd_eq_zero_iff.mp h3.1
  have ea : a = 0 := by omega
  have eb : b = 0 := by omega
  have ec : c = 0 := by omega
  have ed : d = 0 := by omega
  subst ea eb ec ed; rfl
theorem g4_pos {a b c d : Int} (h : fs a b c d ≠ 0) : 0 < g4 a b c d := Nat.pos_of_ne_zero fun z => h (g4_zero z)
theorem m4_eq {a b c d : Int} (h : fs a b c d ≠ 0) : m4 a b c d = g4 a b c d := by
  have := g4_pos h
  unfold m4
  rw [if_neg (by omega)]
theorem g4_dvd (a b c d : Int) : (g4 a b c d : Int) ∣ a ∧ (g4 a b c d : Int) ∣ b ∧ (g4 a b c d : Int) ∣ c ∧ (g4 a b c d : Int) ∣ d := by
  have e4 := Nat.gcd_dvd (Nat.gcd (Nat.gcd (Nat.gcd 0 a.natAbs) b.natAbs) c.natAbs) d.natAbs
  have e3 := Nat.gcd_dvd (Nat.gcd (Nat.gcd 0 a.natAbs) b.natAbs) c.natAbs
  have e2 := Nat.gcd_dvd (Nat.gcd 0 a.natAbs) b.natAbs
  have e1 := Nat.gcd_dvd 0 a.natAbs
  refine ⟨?_, ?_, ?_, ?_⟩ <;> (refine Int.natAbs_dvd_natAbs.mp ?_; rw [Int.natAbs_natCast])
  · exact Nat.dvd_trans (Nat.dvd_trans (Nat.dvd_trans e4.1 e3.1) e2.1) e1.2
  · exact Nat.dvd_trans (Nat.dvd_trans e4.1 e3.1) e2.2
  · exact Nat.dvd_trans e4.1 e3.2
  · exact e4.2
theorem A_of {a b c d x y g : Int} (h : fs a b c d ≠ 0) (hg : g = g4 a b c d) (hx : x = g * y) : A a b c d x = sg (fs a b c d) * y := by
  unfold A
  have hp := g4_pos h
  rw [m4_eq h, ← hg, hx, Int.mul_ediv_cancel_left _ (by omega)]
theorem A_mul {k a b c d x : Int} (hk : k ≠ 0) (h : fs a b c d ≠ 0) (hx : (g4 a b c d : Int) ∣ x) : A (k * a) (k * b) (k * c) (k * d) (k * x) = A a b c d x := by
  obtain ⟨y, rfl⟩ := hx
  have h2 : fs (k * a) (k * b) (k * c) (k * d) ≠ 0 := by
    rw [fs_mul hk]; exact Int.mul_ne_zero hk h
  rw [A_of h rfl rfl, A_of (g := (k.natAbs * g4 a b c d : Nat)) (y := sg k * y) h2 (by rw [g4_mul]) ?_, fs_mul hk, sg_mul hk h]
  · have := sg_sq k
    grind
  · have := sg_abs k
    have := sg_sq k
    push_cast
    grind
theorem Red.ne {a b c d : Int} (r : Red a b c d) : fs a b c d ≠ 0 := by have := r.pos; omega
theorem Red.A {a b c d : Int} (r : Red a b c d) (x : Int) : A a b c d x = x := by
  have h : sg (fs a b c d) = 1 := if_neg (by have := r.pos; omega)
  rw [A_of (g := 1) r.ne (by rw [r.one]; rfl) (by rw [Int.one_mul]), h, Int.one_mul]
/-- so many times a reduced row -/
theorem Red.back {k a b c d : Int} (r : Red a b c d) (hk : k ≠ 0) : ∀ x, Q4.A (k * a) (k * b) (k * c) (k * d) (k * x) = x := fun x => by
  rw [A_mul hk r.ne (by rw [r.one]; exact Int.one_dvd x), r.A]
theorem red_A {a b c d : Int} (h : fs a b c d ≠ 0) : Red (A a b c d a) (A a b c d b) (A a b c d c) (A a b c d d) := by
  obtain ⟨⟨a', ha⟩, ⟨b', hb⟩, ⟨c', hc⟩, ⟨d', hd⟩⟩ := g4_dvd a b c d
  have hp := g4_pos h
  generalize hg : (g4 a b c d : Int) = g at ha hb hc hd
  have hg0 : g ≠ 0 := by omega
  rw [A_of h hg.symm ha, A_of h hg.symm hb, A_of h hg.symm hc, A_of h hg.symm hd]
  have e : g4 a' b' c' d' = 1 := by
    have h1 := g4_mul g a' b' c' d'
    rw [← ha, ← hb, ← hc, ← hd] at h1
    have h2 : g.natAbs = g4 a b c d := by omega
    rw [h2] at h1
    have h3 : g4 a b c d * 1 = g4 a b c d * g4 a' b' c' d' := by omega
    exact (Nat.eq_of_mul_eq_mul_left hp h3).symm
  have f : fs a b c d = g * fs a' b' c' d' := by
    have h1 := fs_mul hg0 a' b' c' d'
    rw [← ha, ← hb, ← hc, ← hd] at h1
    exact h1
  have fne : fs a' b' c' d' ≠ 0 := fun z => h (by rw [f, z, Int.mul_zero])
  have s : sg (fs a b c d) = sg (fs a' b' c' d') := by
    rw [f, sg_mul hg0 fne]
    have : sg g = 1 := if_neg (by omega)
    rw [this, Int.one_mul]
  refine ⟨?_, ?_⟩
  · rw [g4_mul, sg_nat, e]
  · rw [fs_mul (sg_ne _), s, sg_abs]
    omega
theorem fs_ne {a b c d : Int} (h : ¬ (a = 0 ∧ b = 0 ∧ c = 0 ∧ d = 0)) : fs a b c d ≠ 0 := by
  unfold fs
  by_cases ha : a = 0
  · by_cases hb : b = 0
    · by_cases hc : c = 0
      · have hd : d ≠ 0 := fun z => h ⟨ha, hb, hc, z⟩
        simp [ha, hb, hc, hd]
      · simp [ha, hb, hc]
    · simp [ha, hb]
  · simp [ha]
theorem A_le (a b c d x : Int) : (A a b c d x).natAbs ≤ x.natAbs := by
  unfold A
  rw [Int.natAbs_mul, sg_nat, Nat.one_mul]
  have hm := m4_pos a b c d
  exact Int.natAbs_ediv_le_natAbs x _
theorem fs_A {a b c d : Int} (h : fs a b c d ≠ 0) : fs (A a b c d a) (A a b c d b) (A a b c d c) (A a b c d d) ≠ 0 := (red_A h).ne
/-- the row is a number times what is told of it -/
theorem A_out {a b c d : Int} (h : fs a b c d ≠ 0) : ∃ k : Int, k ≠ 0 ∧ a = k * A a b c d a ∧ b = k * A a b c d b ∧ c = k * A a b c d c ∧ d = k * A a b c d d := by
  obtain ⟨⟨a', ha⟩, ⟨b', hb⟩, ⟨c', hc⟩, ⟨d', hd⟩⟩ := g4_dvd a b c d
  have hp := g4_pos h
  refine ⟨sg (fs a b c d) * g4 a b c d, Int.mul_ne_zero (sg_ne _) (by omega), ?_, ?_, ?_, ?_⟩
  · rw [A_of h rfl ha]; have := sg_sq (fs a b c d); grind
  · rw [A_of h rfl hb]; have := sg_sq (fs a b c d); grind
  · rw [A_of h rfl hc]; have := sg_sq (fs a b c d); grind
  · rw [A_of h rfl hd]; have := sg_sq (fs a b c d); grind
end Q4


set_option Elab.async false
set_option linter.all false
set_option maxRecDepth 100000
set_option maxHeartbeats 400000
set_option exponentiation.threshold 20000
namespace K26
open PySem PySem.Spec L2 DL Q4
abbrev T4 (a b c d : Int) : PyData := .tuple [.int a, .int b, .int c, .int d]
abbrev L4 (a b c d : Int) : PyData := .list [.int a, .int b, .int c, .int d]
def Sm (n : Nat) (x : Int) : Prop := x.natAbs < 2 ^ n
theorem Sm.mono {m n : Nat} {x : Int} (h : Sm m x) (hn : m ≤ n) : Sm n x := Nat.lt_of_lt_of_le h (Nat.pow_le_pow_right (by decide) hn)
theorem Sm.mul {m n : Nat} {x y : Int} (h : Sm m x) (g : Sm n y) : Sm (m + n) (x * y) := wide_lt h g
theorem Sm.add {m : Nat} {x y : Int} (h : Sm m x) (g : Sm m y) : Sm (m + 1) (x + y) := by unfold Sm at *; omega
theorem Sm.sub {m : Nat} {x y : Int} (h : Sm m x) (g : Sm m y) : Sm (m + 1) (x - y) := by unfold Sm at *; omega
theorem Sm.A {n : Nat} {a b c d x : Int} (h : Sm n x) : Sm n (A a b c d x) := Nat.lt_of_le_of_lt (A_le a b c d x) h
theorem Sm.log {n : Nat} {x : Int} (h : Sm n x) (h0 : 0 < n) : x.natAbs.log2 < n := PySem.Flt.log2_lt_of h0 h
theorem gMul_ok {x y : Int} (h : Sm 1000 x) (g : Sm 1000 y) : gMul (.int x) (.int y) = some (.int (x * y)) := by
  have h1 := h.log (by decide)
  have h2 := g.log (by decide)
  exact if_pos (by simp [mulOk]; omega)
theorem gDiv_ok {i m : Int} (h : 0 < m) (h2 : Sm 1000 m) : gDiv (.int i) (.int m) = some (.int (i / m)) := if_pos (by
  have := h2.log (by decide)
  simp [divOk]; omega)
theorem gEq_int (i j : Int) : gEq (.int i) (.int j) = some (.bool (i == j)) := rfl
theorem gNe_int (i j : Int) : gNe (.int i) (.int j) = some (.bool (!(i == j))) := rfl
theorem e_div (a b c d : Int) : F_divisor_of [.dat (T4 a b c d)] [] = some (.dat (.int (g4 a b c d)), []) := by
  rfl
theorem e_row (a b c d : Int) : F_is_row [.dat (T4 a b c d), .dat (.int 4)] [] = some (.dat (.bool true), []) := by
  rfl
theorem e_rrow (a b c d : Int) : F_is_reduced_row [.dat (T4 a b c d), .dat (.int 4)] [] = some (.dat (.bool ((g4 a b c d : Int) == 1)), []) := by
  simp only [mkF, fRet, fRetL, fRetN, fSkip, fSeq, fNever, fSet, fAsg, fNew, fIfS, fDrop, fPar, fSetc, fSetc2, fVar, fLit, fOp, fUn, fTup, fTup.datsOf, fLst, fNilA, fConsA, fCelA, fOfL, fTru, fAndT, fOrT, fNotT, fAndV, fOrV, fNotV, fIf, fBi, fCall, fCallL, fCallFr, callF, celOf, celsOk, norm, aName, aNil, aCons, aTup, setD, fSl, fIt, fItL, fItT, fFor, fLc, fYes, wipeD, fCix, fList, fSlL, fPart, fNoPart, fRng1, fRng2, List.length_cons, List.length_nil, List.getElem?_cons_zero, List.getElem?_cons_succ, List.getElem?_nil, List.set_cons_zero, List.set_cons_succ, List.map_cons, List.map_nil, List.cons_append, List.nil_append, List.append_nil, List.replicate, List.take_zero, List.take_nil, List.take_succ_cons, Option.bind_some, Option.map_some, Option.bind_none, Option.map_none, Nat.sub_self, Nat.reduceAdd, Nat.reduceSub, Nat.reduceLeDiff, Nat.zero_add, Nat.add_zero, and_self, and_true, true_and, if_true, if_false, reduceIte, ite_true, Bool.true_eq_false, Bool.false_eq_true, beq_self_eq_true, Bool.and_self, Bool.not_true, Bool.not_false, decide_true, decide_false, gLen, gTyIs, tyOf, gNeg, gPlus, DL.gSub, gCmp, gInt, gAbs, gTuple, gMax, gMin, gGcd, F_is_reduced_row, b_is_reduced_row, e_row, e_div, gEq_int]
theorem e_fs (a b c d : Int) : F__first_sign [.dat (T4 a b c d)] [] = some (.dat (.int (fs a b c d)), []) := by
  by_cases ha : a = 0
  · subst ha
    by_cases hb : b = 0
    · subst hb
      by_cases hc : c = 0
      · subst hc
        by_cases hd : d = 0
        · subst hd; rfl
        · have hd' : (d == 0) = false := beq_eq_false_iff_ne.mpr hd
          simp only [mkF, fRet, fRetL, fRetN, fSkip, fSeq, fNever, fSet, fAsg, fNew, fIfS, fDrop, fPar, fSetc, fSetc2, fVar, fLit, fOp, fUn, fTup, fTup.datsOf, fLst, fNilA, fConsA, fCelA, fOfL, fTru, fAndT, fOrT, fNotT, fAndV, fOrV, fNotV, fIf, fBi, fCall, fCallL, fCallFr, callF, celOf, celsOk, norm, aName, aNil, aCons, aTup, setD, fSl, fIt, fItL, fItT, fFor, fLc, fYes, wipeD, fCix, fList, fSlL, fPart, fNoPart, fRng1, fRng2, List.length_cons, List.length_nil, List.getElem?_cons_zero, List.getElem?_cons_succ, List.getElem?_nil, List.set_cons_zero, List.set_cons_succ, List.map_cons, List.map_nil, List.cons_append, List.nil_append, List.append_nil, List.replicate, List.take_zero, List.take_nil, List.take_succ_cons, Option.bind_some, Option.map_some, Option.bind_none, Option.map_none, Nat.sub_self, Nat.reduceAdd, Nat.reduceSub, Nat.reduceLeDiff, Nat.zero_add, Nat.add_zero, and_self, and_true, true_and, if_true, if_false, reduceIte, ite_true, Bool.true_eq_false, Bool.false_eq_true, beq_self_eq_true, Bool.and_self, Bool.not_true, Bool.not_false, decide_true, decide_false, gLen, gTyIs, tyOf, gNeg, gPlus, DL.gSub, gCmp, gInt, gAbs, gTuple, gMax, gMin, gGcd, F__first_sign, b__first_sign, gNe_int, forGo, hd']
          rfl
      · have hc' : (c == 0) = false := beq_eq_false_iff_ne.mpr hc
        simp only [mkF, fRet, fRetL, fRetN, fSkip, fSeq, fNever, fSet, fAsg, fNew, fIfS, fDrop, fPar, fSetc, fSetc2, fVar, fLit, fOp, fUn, fTup, fTup.datsOf, fLst, fNilA, fConsA, fCelA, fOfL, fTru, fAndT, fOrT, fNotT, fAndV, fOrV, fNotV, fIf, fBi, fCall, fCallL, fCallFr, callF, celOf, celsOk, norm, aName, aNil, aCons, aTup, setD, fSl, fIt, fItL, fItT, fFor, fLc, fYes, wipeD, fCix, fList, fSlL, fPart, fNoPart, fRng1, fRng2, List.length_cons, List.length_nil, List.getElem?_cons_zero, List.getElem?_cons_succ, List.getElem?_nil, List.set_cons_zero, List.set_cons_succ, List.map_cons, List.map_nil, List.cons_append, List.nil_append, List.append_nil, List.replicate, List.take_zero, List.take_nil, List.take_succ_cons, Option.bind_some, Option.map_some, Option.bind_none, Option.map_none, Nat.sub_self, Nat.reduceAdd, Nat.reduceSub, Nat.reduceLeDiff, Nat.zero_add, Nat.add_zero, and_self, and_true, true_and, if_true, if_false, reduceIte, ite_true, Bool.true_eq_false, Bool.false_eq_true, beq_self_eq_true, Bool.and_self, Bool.not_true, Bool.not_false, decide_true, decide_false, gLen, gTyIs, tyOf, gNeg, gPlus, DL.gSub, gCmp, gInt, gAbs, gTuple, gMax, gMin, gGcd, F__first_sign, b__first_sign, gNe_int, forGo, hc']
        simp [fs, hc]
    · have hb' : (b == 0) = false := beq_eq_false_iff_ne.mpr hb
      simp only [mkF, fRet, fRetL, fRetN, fSkip, fSeq, fNever, fSet, fAsg, fNew, fIfS, fDrop, fPar, fSetc, fSetc2, fVar, fLit, fOp, fUn, fTup, fTup.datsOf, fLst, fNilA, fConsA, fCelA, fOfL, fTru, fAndT, fOrT, fNotT, fAndV, fOrV, fNotV, fIf, fBi, fCall, fCallL, fCallFr, callF, celOf, celsOk, norm, aName, aNil, aCons, aTup, setD, fSl, fIt, fItL, fItT, fFor, fLc, fYes, wipeD, fCix, fList, fSlL, fPart, fNoPart, fRng1, fRng2, List.length_cons, List.length_nil, List.getElem?_cons_zero, List.getElem?_cons_succ, List.getElem?_nil, List.set_cons_zero, List.set_cons_succ, List.map_cons, List.map_nil, List.cons_append, List.nil_append, List.append_nil, List.replicate, List.take_zero, List.take_nil, List.take_succ_cons, Option.bind_some, Option.map_some, Option.bind_none, Option.map_none, Nat.sub_self, Nat.reduceAdd, Nat.reduceSub, Nat.reduceLeDiff, Nat.zero_add, Nat.add_zero, and_self, and_true, true_and, if_true, if_false, reduceIte, ite_true, Bool.true_eq_false, Bool.false_eq_true, beq_self_eq_true, Bool.and_self, Bool.not_true, Bool.not_false, decide_true, decide_false, gLen, gTyIs, tyOf, gNeg, gPlus, DL.gSub, gCmp, gInt, gAbs, gTuple, gMax, gMin, gGcd, F__first_sign, b__first_sign, gNe_int, forGo, hb']
      simp [fs, hb]
  · have ha' : (a == 0) = false := beq_eq_false_iff_ne.mpr ha
    simp only [mkF, fRet, fRetL, fRetN, fSkip, fSeq, fNever, fSet, fAsg, fNew, fIfS, fDrop, fPar, fSetc, fSetc2, fVar, fLit, fOp, fUn, fTup, fTup.datsOf, fLst, fNilA, fConsA, fCelA, fOfL, fTru, fAndT, fOrT, fNotT, fAndV, fOrV, fNotV, fIf, fBi, fCall, fCallL, fCallFr, callF, celOf, celsOk, norm, aName, aNil, aCons, aTup, setD, fSl, fIt, fItL, fItT, fFor, fLc, fYes, wipeD, fCix, fList, fSlL, fPart, fNoPart, fRng1, fRng2, List.length_cons, List.length_nil, List.getElem?_cons_zero, List.getElem?_cons_succ, List.getElem?_nil, List.set_cons_zero, List.set_cons_succ, List.map_cons, List.map_nil, List.cons_append, List.nil_append, List.append_nil, List.replicate, List.take_zero, List.take_nil, List.take_succ_cons, Option.bind_some, Option.map_some, Option.bind_none, Option.map_none, Nat.sub_self, Nat.reduceAdd, Nat.reduceSub, Nat.reduceLeDiff, Nat.zero_add, Nat.add_zero, and_self, and_true, true_and, if_true, if_false, reduceIte, ite_true, Bool.true_eq_false, Bool.false_eq_true, beq_self_eq_true, Bool.and_self, Bool.not_true, Bool.not_false, decide_true, decide_false, gLen, gTyIs, tyOf, gNeg, gPlus, DL.gSub, gCmp, gInt, gAbs, gTuple, gMax, gMin, gGcd, F__first_sign, b__first_sign, gNe_int, forGo, ha']
    simp [fs, ha]
theorem g_le {g : Nat} {x : Int} (h : (g : Int) ∣ x) (hx : x ≠ 0) : g ≤ x.natAbs := Nat.le_of_dvd (Int.natAbs_pos.mpr hx) (by
  have := Int.natAbs_dvd_natAbs.mpr h
  rwa [Int.natAbs_natCast] at this)
theorem g4_le {a b c d : Int} (h : Sm 1000 a ∧ Sm 1000 b ∧ Sm 1000 c ∧ Sm 1000 d) : Sm 1000 (m4 a b c d) := by
  unfold m4 Sm
  split
  · decide
  · by_cases hz : fs a b c d = 0
    · have h0 : a = 0 ∧ b = 0 ∧ c = 0 ∧ d = 0 := by
        refine Classical.byContradiction fun n => fs_ne n hz
      obtain ⟨rfl, rfl, rfl, rfl⟩ := h0
      decide
    · have hg := g4_dvd a b c d
      rw [Int.natAbs_natCast]
      unfold Sm at h
      by_cases ha : a = 0
      · by_cases hb : b = 0
        · by_cases hc : c = 0
          · have hd : d ≠ 0 := fun z => by subst ha hb hc z; exact hz rfl
            exact Nat.lt_of_le_of_lt (g_le hg.2.2.2 hd) h.2.2.2
          · exact Nat.lt_of_le_of_lt (g_le hg.2.2.1 hc) h.2.2.1
        · exact Nat.lt_of_le_of_lt (g_le hg.2.1 hb) h.2.1
      · exact Nat.lt_of_le_of_lt (g_le hg.1 ha) h.1
theorem e_reduced {a b c d : Int} (h : Sm 1000 a ∧ Sm 1000 b ∧ Sm 1000 c ∧ Sm 1000 d) : F_reduced [.dat (T4 a b c d)] [] = some (.dat (T4 (a / m4 a b c d) (b / m4 a b c d) (c / m4 a b c d) (d / m4 a b c d)), []) := by
  have h1 := m4_pos a b c d
  have h2 := g4_le h
  have hm : (if (1 : Int) > g4 a b c d then (1 : Int) else g4 a b c d) = m4 a b c d := rfl
  simp only [mkF, fRet, fRetL, fRetN, fSkip, fSeq, fNever, fSet, fAsg, fNew, fIfS, fDrop, fPar, fSetc, fSetc2, fVar, fLit, fOp, fUn, fTup, fTup.datsOf, fLst, fNilA, fConsA, fCelA, fOfL, fTru, fAndT, fOrT, fNotT, fAndV, fOrV, fNotV, fIf, fBi, fCall, fCallL, fCallFr, callF, celOf, celsOk, norm, aName, aNil, aCons, aTup, setD, fSl, fIt, fItL, fItT, fFor, fLc, fYes, wipeD, fCix, fList, fSlL, fPart, fNoPart, fRng1, fRng2, List.length_cons, List.length_nil, List.getElem?_cons_zero, List.getElem?_cons_succ, List.getElem?_nil, List.set_cons_zero, List.set_cons_succ, List.map_cons, List.map_nil, List.cons_append, List.nil_append, List.append_nil, List.replicate, List.take_zero, List.take_nil, List.take_succ_cons, Option.bind_some, Option.map_some, Option.bind_none, Option.map_none, Nat.sub_self, Nat.reduceAdd, Nat.reduceSub, Nat.reduceLeDiff, Nat.zero_add, Nat.add_zero, and_self, and_true, true_and, if_true, if_false, reduceIte, ite_true, Bool.true_eq_false, Bool.false_eq_true, beq_self_eq_true, Bool.and_self, Bool.not_true, Bool.not_false, decide_true, decide_false, gLen, gTyIs, tyOf, gNeg, gPlus, DL.gSub, gCmp, gInt, gAbs, gTuple, gMax, gMin, gGcd, F_reduced, b_reduced, e_div, hm, lcGo, gDiv_ok h1 h2, LIM]
def S4 (n : Nat) (a b c d : Int) : Prop := Sm n a ∧ Sm n b ∧ Sm n c ∧ Sm n d
theorem S4.mono {m n : Nat} {a b c d : Int} (h : S4 m a b c d) (hn : m ≤ n) : S4 n a b c d := ⟨h.1.mono hn, h.2.1.mono hn, h.2.2.1.mono hn, h.2.2.2.mono hn⟩
abbrev A4 (a b c d : Int) : PyData := T4 (A a b c d a) (A a b c d b) (A a b c d c) (A a b c d d)
theorem sm_div {a m : Int} (h : Sm 1000 a) : Sm 1000 (a / m) := Nat.lt_of_le_of_lt (Int.natAbs_ediv_le_natAbs a m) h
theorem sm1 : Sm 1000 1 := by unfold Sm; decide
theorem smn : Sm 1000 (-1) := by unfold Sm; decide
theorem e_along {a b c d : Int} (h : S4 1000 a b c d) : F__along [.dat (T4 a b c d)] [] = some (.dat (A4 a b c d), []) := by
  have h1 : Sm 1000 (a / m4 a b c d) := sm_div h.1
  have h2 : Sm 1000 (b / m4 a b c d) := sm_div h.2.1
  have h3 : Sm 1000 (c / m4 a b c d) := sm_div h.2.2.1
  have h4 : Sm 1000 (d / m4 a b c d) := sm_div h.2.2.2
  by_cases hf : fs a b c d < 0
  · simp only [mkF, fRet, fRetL, fRetN, fSkip, fSeq, fNever, fSet, fAsg, fNew, fIfS, fDrop, fPar, fSetc, fSetc2, fVar, fLit, fOp, fUn, fTup, fTup.datsOf, fLst, fNilA, fConsA, fCelA, fOfL, fTru, fAndT, fOrT, fNotT, fAndV, fOrV, fNotV, fIf, fBi, fCall, fCallL, fCallFr, callF, celOf, celsOk, norm, aName, aNil, aCons, aTup, setD, fSl, fIt, fItL, fItT, fFor, fLc, fYes, wipeD, fCix, fList, fSlL, fPart, fNoPart, fRng1, fRng2, List.length_cons, List.length_nil, List.getElem?_cons_zero, List.getElem?_cons_succ, List.getElem?_nil, List.set_cons_zero, List.set_cons_succ, List.map_cons, List.map_nil, List.cons_append, List.nil_append, List.append_nil, List.replicate, List.take_zero, List.take_nil, List.take_succ_cons, Option.bind_some, Option.map_some, Option.bind_none, Option.map_none, Nat.sub_self, Nat.reduceAdd, Nat.reduceSub, Nat.reduceLeDiff, Nat.zero_add, Nat.add_zero, and_self, and_true, true_and, if_true, if_false, reduceIte, ite_true, Bool.true_eq_false, Bool.false_eq_true, beq_self_eq_true, Bool.and_self, Bool.not_true, Bool.not_false, decide_true, decide_false, gLen, gTyIs, tyOf, gNeg, gPlus, DL.gSub, gCmp, gInt, gAbs, gTuple, gMax, gMin, gGcd, F__along, b__along, e_fs, e_reduced h, lcGo, hf, decide_true, gMul_ok smn, h1, h2, h3, h4, LIM]
    simp [A, sg, hf]
  · simp only [mkF, fRet, fRetL, fRetN, fSkip, fSeq, fNever, fSet, fAsg, fNew, fIfS, fDrop, fPar, fSetc, fSetc2, fVar, fLit, fOp, fUn, fTup, fTup.datsOf, fLst, fNilA, fConsA, fCelA, fOfL, fTru, fAndT, fOrT, fNotT, fAndV, fOrV, fNotV, fIf, fBi, fCall, fCallL, fCallFr, callF, celOf, celsOk, norm, aName, aNil, aCons, aTup, setD, fSl, fIt, fItL, fItT, fFor, fLc, fYes, wipeD, fCix, fList, fSlL, fPart, fNoPart, fRng1, fRng2, List.length_cons, List.length_nil, List.getElem?_cons_zero, List.getElem?_cons_succ, List.getElem?_nil, List.set_cons_zero, List.set_cons_succ, List.map_cons, List.map_nil, List.cons_append, List.nil_append, List.append_nil, List.replicate, List.take_zero, List.take_nil, List.take_succ_cons, Option.bind_some, Option.map_some, Option.bind_none, Option.map_none, Nat.sub_self, Nat.reduceAdd, Nat.reduceSub, Nat.reduceLeDiff, Nat.zero_add, Nat.add_zero, and_self, and_true, true_and, if_true, if_false, reduceIte, ite_true, Bool.true_eq_false, Bool.false_eq_true, beq_self_eq_true, Bool.and_self, Bool.not_true, Bool.not_false, decide_true, decide_false, gLen, gTyIs, tyOf, gNeg, gPlus, DL.gSub, gCmp, gInt, gAbs, gTuple, gMax, gMin, gGcd, F__along, b__along, e_fs, e_reduced h, lcGo, hf, decide_false, gMul_ok sm1, h1, h2, h3, h4, LIM]
    simp [A, sg, hf]
theorem e_turn {a b c d : Int} (r : Red a b c d) : F_is_turn [.dat (T4 a b c d)] [] = some (.dat (.bool true), []) := by
  have h1 : ((g4 a b c d : Int) == 1) = true := by rw [r.one]; rfl
  have h2 := r.pos
  simp only [mkF, fRet, fRetL, fRetN, fSkip, fSeq, fNever, fSet, fAsg, fNew, fIfS, fDrop, fPar, fSetc, fSetc2, fVar, fLit, fOp, fUn, fTup, fTup.datsOf, fLst, fNilA, fConsA, fCelA, fOfL, fTru, fAndT, fOrT, fNotT, fAndV, fOrV, fNotV, fIf, fBi, fCall, fCallL, fCallFr, callF, celOf, celsOk, norm, aName, aNil, aCons, aTup, setD, fSl, fIt, fItL, fItT, fFor, fLc, fYes, wipeD, fCix, fList, fSlL, fPart, fNoPart, fRng1, fRng2, List.length_cons, List.length_nil, List.getElem?_cons_zero, List.getElem?_cons_succ, List.getElem?_nil, List.set_cons_zero, List.set_cons_succ, List.map_cons, List.map_nil, List.cons_append, List.nil_append, List.append_nil, List.replicate, List.take_zero, List.take_nil, List.take_succ_cons, Option.bind_some, Option.map_some, Option.bind_none, Option.map_none, Nat.sub_self, Nat.reduceAdd, Nat.reduceSub, Nat.reduceLeDiff, Nat.zero_add, Nat.add_zero, and_self, and_true, true_and, if_true, if_false, reduceIte, ite_true, Bool.true_eq_false, Bool.false_eq_true, beq_self_eq_true, Bool.and_self, Bool.not_true, Bool.not_false, decide_true, decide_false, gLen, gTyIs, tyOf, gNeg, gPlus, DL.gSub, gCmp, gInt, gAbs, gTuple, gMax, gMin, gGcd, F_is_turn, b_is_turn, e_rrow, e_fs, h1, h2]
theorem e_check {a b c d : Int} (r : Red a b c d) : F_check_turn [.dat (T4 a b c d)] [] = some (.dat .none, []) := by
  simp only [mkF, fRet, fRetL, fRetN, fSkip, fSeq, fNever, fSet, fAsg, fNew, fIfS, fDrop, fPar, fSetc, fSetc2, fVar, fLit, fOp, fUn, fTup, fTup.datsOf, fLst, fNilA, fConsA, fCelA, fOfL, fTru, fAndT, fOrT, fNotT, fAndV, fOrV, fNotV, fIf, fBi, fCall, fCallL, fCallFr, callF, celOf, celsOk, norm, aName, aNil, aCons, aTup, setD, fSl, fIt, fItL, fItT, fFor, fLc, fYes, wipeD, fCix, fList, fSlL, fPart, fNoPart, fRng1, fRng2, List.length_cons, List.length_nil, List.getElem?_cons_zero, List.getElem?_cons_succ, List.getElem?_nil, List.set_cons_zero, List.set_cons_succ, List.map_cons, List.map_nil, List.cons_append, List.nil_append, List.append_nil, List.replicate, List.take_zero, List.take_nil, List.take_succ_cons, Option.bind_some, Option.map_some, Option.bind_none, Option.map_none, Nat.sub_self, Nat.reduceAdd, Nat.reduceSub, Nat.reduceLeDiff, Nat.zero_add, Nat.add_zero, and_self, and_true, true_and, if_true, if_false, reduceIte, ite_true, Bool.true_eq_false, Bool.false_eq_true, beq_self_eq_true, Bool.and_self, Bool.not_true, Bool.not_false, decide_true, decide_false, gLen, gTyIs, tyOf, gNeg, gPlus, DL.gSub, gCmp, gInt, gAbs, gTuple, gMax, gMin, gGcd, F_check_turn, b_check_turn, e_turn r]
def q0 (a b c d e f g h : Int) : Int := a * e - b * f - c * g - d * h
def q1 (a b c d e f g h : Int) : Int := a * f + b * e + c * h - d * g
def q2 (a b c d e f g h : Int) : Int := a * g - b * h + c * e + d * f
def q3 (a b c d e f g h : Int) : Int := a * h + b * g - c * f + d * e
abbrev Q (a b c d e f g h : Int) : PyData := T4 (q0 a b c d e f g h) (q1 a b c d e f g h) (q2 a b c d e f g h) (q3 a b c d e f g h)
theorem e_qp {a b c d e f g h : Int} (s : S4 1000 a b c d) (t : S4 1000 e f g h) : F__quaternion_product [.dat (T4 a b c d), .dat (T4 e f g h)] [] = some (.dat (Q a b c d e f g h), []) := by
  obtain ⟨s1, s2, s3, s4⟩ := s
  obtain ⟨t1, t2, t3, t4⟩ := t
  simp only [mkF, fRet, fRetL, fRetN, fSkip, fSeq, fNever, fSet, fAsg, fNew, fIfS, fDrop, fPar, fSetc, fSetc2, fVar, fLit, fOp, fUn, fTup, fTup.datsOf, fLst, fNilA, fConsA, fCelA, fOfL, fTru, fAndT, fOrT, fNotT, fAndV, fOrV, fNotV, fIf, fBi, fCall, fCallL, fCallFr, callF, celOf, celsOk, norm, aName, aNil, aCons, aTup, setD, fSl, fIt, fItL, fItT, fFor, fLc, fYes, wipeD, fCix, fList, fSlL, fPart, fNoPart, fRng1, fRng2, List.length_cons, List.length_nil, List.getElem?_cons_zero, List.getElem?_cons_succ, List.getElem?_nil, List.set_cons_zero, List.set_cons_succ, List.map_cons, List.map_nil, List.cons_append, List.nil_append, List.append_nil, List.replicate, List.take_zero, List.take_nil, List.take_succ_cons, Option.bind_some, Option.map_some, Option.bind_none, Option.map_none, Nat.sub_self, Nat.reduceAdd, Nat.reduceSub, Nat.reduceLeDiff, Nat.zero_add, Nat.add_zero, and_self, and_true, true_and, if_true, if_false, reduceIte, ite_true, Bool.true_eq_false, Bool.false_eq_true, beq_self_eq_true, Bool.and_self, Bool.not_true, Bool.not_false, decide_true, decide_false, gLen, gTyIs, tyOf, gNeg, gPlus, DL.gSub, gCmp, gInt, gAbs, gTuple, gMax, gMin, gGcd, F__quaternion_product, b__quaternion_product, gMul_ok, s1, s2, s3, s4, t1, t2, t3, t4, LIM]
  rfl
theorem s4_q {m n : Nat} {a b c d e f g h : Int} (s : S4 m a b c d) (t : S4 n e f g h) : S4 (m + n + 3) (q0 a b c d e f g h) (q1 a b c d e f g h) (q2 a b c d e f g h) (q3 a b c d e f g h) := by
  obtain ⟨s1, s2, s3, s4⟩ := s
  obtain ⟨t1, t2, t3, t4⟩ := t
  have u : ∀ {k : Nat} {x : Int}, Sm k x → Sm (k + 1) x := fun h => h.mono (by omega)
  exact ⟨(((s1.mul t1).sub (s2.mul t2)).sub (u (s3.mul t3))).sub (u (u (s4.mul t4))), (((s1.mul t2).add (s2.mul t1)).add (u (s3.mul t4))).sub (u (u (s4.mul t3))),
    (((s1.mul t3).sub (s2.mul t4)).add (u (s3.mul t1))).add (u (u (s4.mul t2))), (((s1.mul t4).add (s2.mul t3)).sub (u (s3.mul t2))).add (u (u (s4.mul t1)))⟩
theorem S4.A {n : Nat} {a b c d : Int} (h : S4 n a b c d) : S4 n (A a b c d a) (A a b c d b) (A a b c d c) (A a b c d d) := ⟨Sm.A h.1, Sm.A h.2.1, Sm.A h.2.2.1, Sm.A h.2.2.2⟩
abbrev AQ (a b c d e f g h : Int) : PyData := A4 (q0 a b c d e f g h) (q1 a b c d e f g h) (q2 a b c d e f g h) (q3 a b c d e f g h)
theorem e_join {a b c d e f g h : Int} (r : Red a b c d) (r2 : Red e f g h) (s : S4 400 a b c d) (t : S4 400 e f g h) : F_joined_turns [.dat (T4 a b c d), .dat (T4 e f g h)] [] = some (.dat (AQ e f g h a b c d), []) := by
  simp only [mkF, fRet, fRetL, fRetN, fSkip, fSeq, fNever, fSet, fAsg, fNew, fIfS, fDrop, fPar, fSetc, fSetc2, fVar, fLit, fOp, fUn, fTup, fTup.datsOf, fLst, fNilA, fConsA, fCelA, fOfL, fTru, fAndT, fOrT, fNotT, fAndV, fOrV, fNotV, fIf, fBi, fCall, fCallL, fCallFr, callF, celOf, celsOk, norm, aName, aNil, aCons, aTup, setD, fSl, fIt, fItL, fItT, fFor, fLc, fYes, wipeD, fCix, fList, fSlL, fPart, fNoPart, fRng1, fRng2, List.length_cons, List.length_nil, List.getElem?_cons_zero, List.getElem?_cons_succ, List.getElem?_nil, List.set_cons_zero, List.set_cons_succ, List.map_cons, List.map_nil, List.cons_append, List.nil_append, List.append_nil, List.replicate, List.take_zero, List.take_nil, List.take_succ_cons, Option.bind_some, Option.map_some, Option.bind_none, Option.map_none, Nat.sub_self, Nat.reduceAdd, Nat.reduceSub, Nat.reduceLeDiff, Nat.zero_add, Nat.add_zero, and_self, and_true, true_and, if_true, if_false, reduceIte, ite_true, Bool.true_eq_false, Bool.false_eq_true, beq_self_eq_true, Bool.and_self, Bool.not_true, Bool.not_false, decide_true, decide_false, gLen, gTyIs, tyOf, gNeg, gPlus, DL.gSub, gCmp, gInt, gAbs, gTuple, gMax, gMin, gGcd, F_joined_turns, b_joined_turns, e_check r, e_check r2, e_qp (t.mono (by decide)) (s.mono (by decide)), e_along ((s4_q t s).mono (by decide))]
theorem A_zero (a b c d : Int) : A a b c d 0 = 0 := by unfold A; simp
/-! the law's own -/
abbrev WT : FT := (fTru (fOp gNe (fVar 4) (fLit (.int 0))))
abbrev WB : FS := (fPar 3 4 (fConsA (fVar 4) (fConsA (fOp gMod (fBi gInt (fConsA (fVar 3) fNilA)) (fVar 4)) fNilA)))
theorem gMod_ok {i j : Int} (h : 0 < j) : gMod (.int i) (.int j) = some (.int (i % j)) := if_pos h
theorem w_gcd (x0 x1 x2 : Option SV) (cs : Cs) : ∀ (n p q : Nat), q < n → whileGo WT WB n ⟨[x0, x1, x2, some (.dat (.int p)), some (.dat (.int q))], cs⟩ = some (.nx ⟨[x0, x1, x2, some (.dat (.int (Nat.gcd p q : Nat))), some (.dat (.int (0 : Nat)))], cs⟩)
  | 0, p, q, h => absurd h (Nat.not_lt_zero q)
  | n + 1, p, q, h => by
    by_cases hq : q = 0
    · subst hq
      simp only [mkF, fRet, fRetL, fRetN, fSkip, fSeq, fNever, fSet, fAsg, fNew, fIfS, fDrop, fPar, fSetc, fSetc2, fVar, fLit, fOp, fUn, fTup, fTup.datsOf, fLst, fNilA, fConsA, fCelA, fOfL, fTru, fAndT, fOrT, fNotT, fAndV, fOrV, fNotV, fIf, fBi, fCall, fCallL, fCallFr, callF, celOf, celsOk, norm, aName, aNil, aCons, aTup, setD, fSl, fIt, fItL, fItT, fFor, fLc, fYes, wipeD, fCix, fList, fSlL, fPart, fNoPart, fRng1, fRng2, List.length_cons, List.length_nil, List.getElem?_cons_zero, List.getElem?_cons_succ, List.getElem?_nil, List.set_cons_zero, List.set_cons_succ, List.map_cons, List.map_nil, List.cons_append, List.nil_append, List.append_nil, List.replicate, List.take_zero, List.take_nil, List.take_succ_cons, Option.bind_some, Option.map_some, Option.bind_none, Option.map_none, Nat.sub_self, Nat.reduceAdd, Nat.reduceSub, Nat.reduceLeDiff, Nat.zero_add, Nat.add_zero, and_self, and_true, true_and, if_true, if_false, reduceIte, ite_true, Bool.true_eq_false, Bool.false_eq_true, beq_self_eq_true, Bool.and_self, Bool.not_true, Bool.not_false, decide_true, decide_false, gLen, gTyIs, tyOf, gNeg, gPlus, DL.gSub, gCmp, gInt, gAbs, gTuple, gMax, gMin, gGcd, whileGo, gNe_int, Nat.gcd_zero_right, Int.natCast_zero, Int.ofNat_zero]
    · have hq' : ((q : Int) == 0) = false := beq_eq_false_iff_ne.mpr (by omega)
      have hm : (0 : Int) < q := by omega
      have hl : p % q < n := by have := Nat.mod_lt p (Nat.pos_of_ne_zero hq); omega
      have ih := w_gcd x0 x1 x2 cs n q (p % q) hl
      have eg : Nat.gcd q (p % q) = Nat.gcd p q := by rw [Nat.gcd_comm, ← Nat.gcd_rec, Nat.gcd_comm]
      rw [eg] at ih
      have ec : ((p : Int) % (q : Int)) = ((p % q : Nat) : Int) := rfl
      simp only [mkF, fRet, fRetL, fRetN, fSkip, fSeq, fNever, fSet, fAsg, fNew, fIfS, fDrop, fPar, fSetc, fSetc2, fVar, fLit, fOp, fUn, fTup, fTup.datsOf, fLst, fNilA, fConsA, fCelA, fOfL, fTru, fAndT, fOrT, fNotT, fAndV, fOrV, fNotV, fIf, fBi, fCall, fCallL, fCallFr, callF, celOf, celsOk, norm, aName, aNil, aCons, aTup, setD, fSl, fIt, fItL, fItT, fFor, fLc, fYes, wipeD, fCix, fList, fSlL, fPart, fNoPart, fRng1, fRng2, List.length_cons, List.length_nil, List.getElem?_cons_zero, List.getElem?_cons_succ, List.getElem?_nil, List.set_cons_zero, List.set_cons_succ, List.map_cons, List.map_nil, List.cons_append, List.nil_append, List.append_nil, List.replicate, List.take_zero, List.take_nil, List.take_succ_cons, Option.bind_some, Option.map_some, Option.bind_none, Option.map_none, Nat.sub_self, Nat.reduceAdd, Nat.reduceSub, Nat.reduceLeDiff, Nat.zero_add, Nat.add_zero, and_self, and_true, true_and, if_true, if_false, reduceIte, ite_true, Bool.true_eq_false, Bool.false_eq_true, beq_self_eq_true, Bool.and_self, Bool.not_true, Bool.not_false, decide_true, decide_false, gLen, gTyIs, tyOf, gNeg, gPlus, DL.gSub, gCmp, gInt, gAbs, gTuple, gMax, gMin, gGcd, whileGo, gNe_int, hq', gMod_ok hm, ec, ih]
theorem c_step' {x0 x3 x4 : Option SV} {m : Nat} {a : Int} (h : Sm 1000 a) : (fSeq (fPar 3 4 (fConsA (fVar 1) (fConsA (fBi gAbs (fConsA (fVar 2) fNilA)) fNilA))) (fSeq (fWhile WT WB) (fSet 1 (fVar 3)))) ⟨[x0, some (.dat (.int m)), some (.dat (.int a)), x3, x4], []⟩ =
    some (.nx ⟨[x0, some (.dat (.int (Nat.gcd m a.natAbs : Nat))), some (.dat (.int a)), some (.dat (.int (Nat.gcd m a.natAbs : Nat))), some (.dat (.int (0 : Nat)))], []⟩) := by
  have hF : a.natAbs < FUEL := by
    unfold FUEL
    exact Nat.lt_of_lt_of_le h (Nat.pow_le_pow_right (by decide) (by decide : 1000 ≤ 10000))
  have ea : (if a < 0 then -a else a) = ((a.natAbs : Nat) : Int) := by split <;> omega
  have w := w_gcd x0 (some (.dat (.int m))) (some (.dat (.int a))) [] FUEL m a.natAbs hF
  simp only [mkF, fRet, fRetL, fRetN, fSkip, fSeq, fNever, fSet, fAsg, fNew, fIfS, fDrop, fPar, fSetc, fSetc2, fVar, fLit, fOp, fUn, fTup, fTup.datsOf, fLst, fNilA, fConsA, fCelA, fOfL, fTru, fAndT, fOrT, fNotT, fAndV, fOrV, fNotV, fIf, fBi, fCall, fCallL, fCallFr, callF, celOf, celsOk, norm, aName, aNil, aCons, aTup, setD, fSl, fIt, fItL, fItT, fFor, fLc, fYes, wipeD, fCix, fList, fSlL, fPart, fNoPart, fRng1, fRng2, List.length_cons, List.length_nil, List.getElem?_cons_zero, List.getElem?_cons_succ, List.getElem?_nil, List.set_cons_zero, List.set_cons_succ, List.map_cons, List.map_nil, List.cons_append, List.nil_append, List.append_nil, List.replicate, List.take_zero, List.take_nil, List.take_succ_cons, Option.bind_some, Option.map_some, Option.bind_none, Option.map_none, Nat.sub_self, Nat.reduceAdd, Nat.reduceSub, Nat.reduceLeDiff, Nat.zero_add, Nat.add_zero, and_self, and_true, true_and, if_true, if_false, reduceIte, ite_true, Bool.true_eq_false, Bool.false_eq_true, beq_self_eq_true, Bool.and_self, Bool.not_true, Bool.not_false, decide_true, decide_false, gLen, gTyIs, tyOf, gNeg, gPlus, DL.gSub, gCmp, gInt, gAbs, gTuple, gMax, gMin, gGcd, fWhile, ea, w]
inductive R4 (a b c d : Int) : PyData → Prop
  | t : R4 a b c d (T4 a b c d)
  | l : R4 a b c d (L4 a b c d)
abbrev CB : FS := (fSeq (fPar 3 4 (fConsA (fVar 1) (fConsA (fBi gAbs (fConsA (fVar 2) fNilA)) fNilA))) (fSeq (fWhile WT WB) (fSet 1 (fVar 3))))
theorem c_for {a b c d : Int} (x0 : Option SV) (h : S4 1000 a b c d) : ∃ x2 x3 x4, forGo (aName 2) CB [.int a, .int b, .int c, .int d] ⟨[x0, some (.dat (.int (0 : Nat))), none, none, none], []⟩ = some (.nx ⟨[x0, some (.dat (.int (g4 a b c d))), x2, x3, x4], []⟩) := by
  obtain ⟨h1, h2, h3, h4⟩ := h
  refine ⟨some (.dat (.int d)), some (.dat (.int (g4 a b c d))), some (.dat (.int (0 : Nat))), ?_⟩
  simp only [forGo, aName, setD, List.set_cons_zero, List.set_cons_succ, Option.bind_some, c_step' h1, c_step' h2, c_step' h3, c_step' h4]
  rfl
theorem e_lcommon {a b c d : Int} {r : PyData} (hr : R4 a b c d r) (h : S4 1000 a b c d) : F__law_common [.dat r] [] = some (.dat (.int (g4 a b c d)), []) := by
  obtain ⟨x2, x3, x4, e⟩ := c_for (some (.dat r)) h
  have e0 : b__law_common = (fSeq (fSet 1 (fLit (.int (0 : Nat)))) (fSeq (fFor (fIt (fVar 0)) (aName 2) CB) (fRet (fVar 1)))) := rfl
  cases hr <;> simp only [F__law_common, mkF, e0, fSeq, fSet, fLit, fFor, fIt, fVar, List.length_cons, List.length_nil, List.map_cons, List.map_nil, List.replicate, List.cons_append, List.nil_append, List.set_cons_zero, List.set_cons_succ, List.getElem?_cons_zero, List.getElem?_cons_succ, Option.bind_some, Option.map_some, e, fRet, Nat.reduceAdd, Nat.reduceSub, and_self, if_true, List.take_zero, Nat.zero_add]
theorem m4' (a b c d : Int) : (if (g4 a b c d : Int) > 1 then (g4 a b c d : Int) else 1) = m4 a b c d := by unfold m4; split <;> split <;> omega
theorem e_llow {a b c d : Int} {r : PyData} (hr : R4 a b c d r) (h : S4 1000 a b c d) : F__law_low [.dat r] [] = some (.dat (T4 (a / m4 a b c d) (b / m4 a b c d) (c / m4 a b c d) (d / m4 a b c d)), []) := by
  have h1 := m4_pos a b c d
  have h2 := g4_le h
  have h3 := e_lcommon hr h
  cases hr <;> simp only [mkF, fRet, fRetL, fRetN, fSkip, fSeq, fNever, fSet, fAsg, fNew, fIfS, fDrop, fPar, fSetc, fSetc2, fVar, fLit, fOp, fUn, fTup, fTup.datsOf, fLst, fNilA, fConsA, fCelA, fOfL, fTru, fAndT, fOrT, fNotT, fAndV, fOrV, fNotV, fIf, fBi, fCall, fCallL, fCallFr, callF, celOf, celsOk, norm, aName, aNil, aCons, aTup, setD, fSl, fIt, fItL, fItT, fFor, fLc, fYes, wipeD, fCix, fList, fSlL, fPart, fNoPart, fRng1, fRng2, List.length_cons, List.length_nil, List.getElem?_cons_zero, List.getElem?_cons_succ, List.getElem?_nil, List.set_cons_zero, List.set_cons_succ, List.map_cons, List.map_nil, List.cons_append, List.nil_append, List.append_nil, List.replicate, List.take_zero, List.take_nil, List.take_succ_cons, Option.bind_some, Option.map_some, Option.bind_none, Option.map_none, Nat.sub_self, Nat.reduceAdd, Nat.reduceSub, Nat.reduceLeDiff, Nat.zero_add, Nat.add_zero, and_self, and_true, true_and, if_true, if_false, reduceIte, ite_true, Bool.true_eq_false, Bool.false_eq_true, beq_self_eq_true, Bool.and_self, Bool.not_true, Bool.not_false, decide_true, decide_false, gLen, gTyIs, tyOf, gNeg, gPlus, DL.gSub, gCmp, gInt, gAbs, gTuple, gMax, gMin, gGcd, F__law_low, b__law_low, h3, m4', lcGo, gDiv_ok h1 h2, LIM]
theorem lc_filter (x0 x1 x2 : Option SV) (c : Cs) : ∀ xs : List Int, lcGo (aName 3) (fTru (fOp gNe (fVar 3) (fLit (.int 0)))) (fVar 3) [x0, x1, x2, none] (xs.map PyData.int) c = some ((xs.filter fun x => !(x == 0)).map PyData.int, c)
  | [] => rfl
  | x :: xs => by
    have ih := lc_filter x0 x1 x2 c xs
    cases hx : (x == 0)
    · simp only [mkF, fRet, fRetL, fRetN, fSkip, fSeq, fNever, fSet, fAsg, fNew, fIfS, fDrop, fPar, fSetc, fSetc2, fVar, fLit, fOp, fUn, fTup, fTup.datsOf, fLst, fNilA, fConsA, fCelA, fOfL, fTru, fAndT, fOrT, fNotT, fAndV, fOrV, fNotV, fIf, fBi, fCall, fCallL, fCallFr, callF, celOf, celsOk, norm, aName, aNil, aCons, aTup, setD, fSl, fIt, fItL, fItT, fFor, fLc, fYes, wipeD, fCix, fList, fSlL, fPart, fNoPart, fRng1, fRng2, List.length_cons, List.length_nil, List.getElem?_cons_zero, List.getElem?_cons_succ, List.getElem?_nil, List.set_cons_zero, List.set_cons_succ, List.map_cons, List.map_nil, List.cons_append, List.nil_append, List.append_nil, List.replicate, List.take_zero, List.take_nil, List.take_succ_cons, Option.bind_some, Option.map_some, Option.bind_none, Option.map_none, Nat.sub_self, Nat.reduceAdd, Nat.reduceSub, Nat.reduceLeDiff, Nat.zero_add, Nat.add_zero, and_self, and_true, true_and, if_true, if_false, reduceIte, ite_true, Bool.true_eq_false, Bool.false_eq_true, beq_self_eq_true, Bool.and_self, Bool.not_true, Bool.not_false, decide_true, decide_false, gLen, gTyIs, tyOf, gNeg, gPlus, DL.gSub, gCmp, gInt, gAbs, gTuple, gMax, gMin, gGcd, lcGo, gNe_int, hx, ih]
      simp [hx]
    · simp only [mkF, fRet, fRetL, fRetN, fSkip, fSeq, fNever, fSet, fAsg, fNew, fIfS, fDrop, fPar, fSetc, fSetc2, fVar, fLit, fOp, fUn, fTup, fTup.datsOf, fLst, fNilA, fConsA, fCelA, fOfL, fTru, fAndT, fOrT, fNotT, fAndV, fOrV, fNotV, fIf, fBi, fCall, fCallL, fCallFr, callF, celOf, celsOk, norm, aName, aNil, aCons, aTup, setD, fSl, fIt, fItL, fItT, fFor, fLc, fYes, wipeD, fCix, fList, fSlL, fPart, fNoPart, fRng1, fRng2, List.length_cons, List.length_nil, List.getElem?_cons_zero, List.getElem?_cons_succ, List.getElem?_nil, List.set_cons_zero, List.set_cons_succ, List.map_cons, List.map_nil, List.cons_append, List.nil_append, List.append_nil, List.replicate, List.take_zero, List.take_nil, List.take_succ_cons, Option.bind_some, Option.map_some, Option.bind_none, Option.map_none, Nat.sub_self, Nat.reduceAdd, Nat.reduceSub, Nat.reduceLeDiff, Nat.zero_add, Nat.add_zero, and_self, and_true, true_and, if_true, if_false, reduceIte, ite_true, Bool.true_eq_false, Bool.false_eq_true, beq_self_eq_true, Bool.and_self, Bool.not_true, Bool.not_false, decide_true, decide_false, gLen, gTyIs, tyOf, gNeg, gPlus, DL.gSub, gCmp, gInt, gAbs, gTuple, gMax, gMin, gGcd, lcGo, gNe_int, hx, ih]
      simp [hx]
theorem at0 {x : PyData} {xs : List PyData} : atI (x :: xs) 0 = some x := by
  have : (0 : Int) < ((x :: xs).length : Nat) := by simp only [List.length_cons]; omega
  unfold atI ixN
  rw [if_pos (by decide), if_pos this]; rfl
theorem lead_fs {a b c d : Int} (h : fs a b c d ≠ 0) : atI (([a, b, c, d].filter fun x => !(x == 0)).map PyData.int) 0 = some (.int (fs a b c d)) := by
  by_cases ha : a = 0
  · subst ha
    by_cases hb : b = 0
    · subst hb
      by_cases hc : c = 0
      · subst hc
        have hd : d ≠ 0 := fun z => by subst z; exact h rfl
        have hd' : (d == 0) = false := beq_eq_false_iff_ne.mpr hd
        simp only [List.filter_cons, hd', beq_self_eq_true, Bool.not_true, Bool.not_false, if_true, if_false, Bool.false_eq_true, List.map_cons, at0]
        rfl
      · have hc' : (c == 0) = false := beq_eq_false_iff_ne.mpr hc
        simp only [List.filter_cons, hc', beq_self_eq_true, Bool.not_true, Bool.not_false, if_true, if_false, Bool.false_eq_true, List.map_cons, at0]
        simp [fs, hc]
    · have hb' : (b == 0) = false := beq_eq_false_iff_ne.mpr hb
      simp only [List.filter_cons, hb', beq_self_eq_true, Bool.not_true, Bool.not_false, if_true, if_false, Bool.false_eq_true, List.map_cons, at0]
      simp [fs, hb]
  · have ha' : (a == 0) = false := beq_eq_false_iff_ne.mpr ha
    simp only [List.filter_cons, ha', Bool.not_false, if_true, List.map_cons, at0]
    simp [fs, ha]
theorem lc_neg (x0 x1 x2 : Option SV) (cs : Cs) (a b c d : Int) : lcGo (aName 3) fYes (fOp DL.gSub (fLit (.int 0)) (fVar 3)) [x0, x1, x2, none] [.int a, .int b, .int c, .int d] cs = some ([.int (0 - a), .int (0 - b), .int (0 - c), .int (0 - d)], cs) := by
  rfl
theorem e_lalong {a b c d : Int} {r : PyData} (hr : R4 a b c d r) (h : S4 1000 a b c d) (hf : fs a b c d ≠ 0) : F__law_along [.dat r] [] = some (.dat (A4 a b c d), []) := by
  have hl := e_llow hr h
  obtain ⟨⟨a', ha⟩, ⟨b', hb⟩, ⟨c', hc⟩, ⟨d', hd⟩⟩ := g4_dvd a b c d
  have hg := g4_pos hf
  have hgz : (g4 a b c d : Int) ≠ 0 := by omega
  have em := m4_eq hf
  have ea : a / m4 a b c d = a' := by rw [em]; exact Int.ediv_eq_of_eq_mul_right hgz ha
  have eb : b / m4 a b c d = b' := by rw [em]; exact Int.ediv_eq_of_eq_mul_right hgz hb
  have ec : c / m4 a b c d = c' := by rw [em]; exact Int.ediv_eq_of_eq_mul_right hgz hc
  have ed : d / m4 a b c d = d' := by rw [em]; exact Int.ediv_eq_of_eq_mul_right hgz hd
  have ef : fs a b c d = g4 a b c d * fs a' b' c' d' := by
    have h1 := fs_mul hgz a' b' c' d'
    rw [← ha, ← hb, ← hc, ← hd] at h1
    exact h1
  have fne : fs a' b' c' d' ≠ 0 := fun z => hf (by rw [ef, z, Int.mul_zero])
  have es : sg (fs a b c d) = sg (fs a' b' c' d') := by
    rw [ef, sg_mul hgz fne]
    have : sg (g4 a b c d : Int) = 1 := if_neg (by omega)
    rw [this, Int.one_mul]
  have le := lead_fs fne
  have e4 : A4 a b c d = T4 (sg (fs a' b' c' d') * a') (sg (fs a' b' c' d') * b') (sg (fs a' b' c' d') * c') (sg (fs a' b' c' d') * d') := by
    unfold A4 A
    rw [ea, eb, ec, ed, es]
  rw [ea, eb, ec, ed] at hl
  have lf := lc_filter (some (.dat r)) (some (.dat (T4 a' b' c' d'))) none [] [a', b', c', d']
  simp only [List.map_cons, List.map_nil] at lf
  rw [e4]
  by_cases hp : 0 < fs a' b' c' d'
  · have e1 : sg (fs a' b' c' d') = 1 := if_neg (by omega)
    simp only [mkF, fRet, fRetL, fRetN, fSkip, fSeq, fNever, fSet, fAsg, fNew, fIfS, fDrop, fPar, fSetc, fSetc2, fVar, fLit, fOp, fUn, fTup, fTup.datsOf, fLst, fNilA, fConsA, fCelA, fOfL, fTru, fAndT, fOrT, fNotT, fAndV, fOrV, fNotV, fIf, fBi, fCall, fCallL, fCallFr, callF, celOf, celsOk, norm, aName, aNil, aCons, aTup, setD, fSl, fIt, fItL, fItT, fFor, fLc, fYes, wipeD, fCix, fList, fSlL, fPart, fNoPart, fRng1, fRng2, List.length_cons, List.length_nil, List.getElem?_cons_zero, List.getElem?_cons_succ, List.getElem?_nil, List.set_cons_zero, List.set_cons_succ, List.map_cons, List.map_nil, List.cons_append, List.nil_append, List.append_nil, List.replicate, List.take_zero, List.take_nil, List.take_succ_cons, Option.bind_some, Option.map_some, Option.bind_none, Option.map_none, Nat.sub_self, Nat.reduceAdd, Nat.reduceSub, Nat.reduceLeDiff, Nat.zero_add, Nat.add_zero, and_self, and_true, true_and, if_true, if_false, reduceIte, ite_true, Bool.true_eq_false, Bool.false_eq_true, beq_self_eq_true, Bool.and_self, Bool.not_true, Bool.not_false, decide_true, decide_false, gLen, gTyIs, tyOf, gNeg, gPlus, DL.gSub, gCmp, gInt, gAbs, gTuple, gMax, gMin, gGcd, F__law_along, b__law_along, hl, lf, le, gIx, hp, decide_true, LIM, e1, Int.one_mul]
  · have e1 : sg (fs a' b' c' d') = -1 := if_pos (by omega)
    simp only [mkF, fRet, fRetL, fRetN, fSkip, fSeq, fNever, fSet, fAsg, fNew, fIfS, fDrop, fPar, fSetc, fSetc2, fVar, fLit, fOp, fUn, fTup, fTup.datsOf, fLst, fNilA, fConsA, fCelA, fOfL, fTru, fAndT, fOrT, fNotT, fAndV, fOrV, fNotV, fIf, fBi, fCall, fCallL, fCallFr, callF, celOf, celsOk, norm, aName, aNil, aCons, aTup, setD, fSl, fIt, fItL, fItT, fFor, fLc, fYes, wipeD, fCix, fList, fSlL, fPart, fNoPart, fRng1, fRng2, List.length_cons, List.length_nil, List.getElem?_cons_zero, List.getElem?_cons_succ, List.getElem?_nil, List.set_cons_zero, List.set_cons_succ, List.map_cons, List.map_nil, List.cons_append, List.nil_append, List.append_nil, List.replicate, List.take_zero, List.take_nil, List.take_succ_cons, Option.bind_some, Option.map_some, Option.bind_none, Option.map_none, Nat.sub_self, Nat.reduceAdd, Nat.reduceSub, Nat.reduceLeDiff, Nat.zero_add, Nat.add_zero, and_self, and_true, true_and, if_true, if_false, reduceIte, ite_true, Bool.true_eq_false, Bool.false_eq_true, beq_self_eq_true, Bool.and_self, Bool.not_true, Bool.not_false, decide_true, decide_false, gLen, gTyIs, tyOf, gNeg, gPlus, DL.gSub, gCmp, gInt, gAbs, gTuple, gMax, gMin, gGcd, F__law_along, b__law_along, hl, lf, le, gIx, hp, decide_false, lc_neg, LIM, e1, Int.zero_sub, Int.neg_mul, Int.one_mul]

theorem e_lmult {a b c d e f g h : Int} (s : S4 1000 a b c d) (t : S4 1000 e f g h) : F__law_mult [.dat (T4 a b c d), .dat (T4 e f g h)] [] = some (.dat (Q a b c d e f g h), []) := by
  obtain ⟨s1, s2, s3, s4⟩ := s
  obtain ⟨t1, t2, t3, t4⟩ := t
  simp only [mkF, fRet, fRetL, fRetN, fSkip, fSeq, fNever, fSet, fAsg, fNew, fIfS, fDrop, fPar, fSetc, fSetc2, fVar, fLit, fOp, fUn, fTup, fTup.datsOf, fLst, fNilA, fConsA, fCelA, fOfL, fTru, fAndT, fOrT, fNotT, fAndV, fOrV, fNotV, fIf, fBi, fCall, fCallL, fCallFr, callF, celOf, celsOk, norm, aName, aNil, aCons, aTup, setD, fSl, fIt, fItL, fItT, fFor, fLc, fYes, wipeD, fCix, fList, fSlL, fPart, fNoPart, fRng1, fRng2, List.length_cons, List.length_nil, List.getElem?_cons_zero, List.getElem?_cons_succ, List.getElem?_nil, List.set_cons_zero, List.set_cons_succ, List.map_cons, List.map_nil, List.cons_append, List.nil_append, List.append_nil, List.replicate, List.take_zero, List.take_nil, List.take_succ_cons, Option.bind_some, Option.map_some, Option.bind_none, Option.map_none, Nat.sub_self, Nat.reduceAdd, Nat.reduceSub, Nat.reduceLeDiff, Nat.zero_add, Nat.add_zero, and_self, and_true, true_and, if_true, if_false, reduceIte, ite_true, Bool.true_eq_false, Bool.false_eq_true, beq_self_eq_true, Bool.and_self, Bool.not_true, Bool.not_false, decide_true, decide_false, gLen, gTyIs, tyOf, gNeg, gPlus, DL.gSub, gCmp, gInt, gAbs, gTuple, gMax, gMin, gGcd, F__law_mult, b__law_mult, gMul_ok, s1, s2, s3, s4, t1, t2, t3, t4, LIM]
  rfl
theorem e_lboth {a b c d e f g h : Int} (s : S4 400 a b c d) (t : S4 400 e f g h) (hf : fs (q0 e f g h a b c d) (q1 e f g h a b c d) (q2 e f g h a b c d) (q3 e f g h a b c d) ≠ 0) : F__law_both [.dat (T4 a b c d), .dat (T4 e f g h)] [] = some (.dat (AQ e f g h a b c d), []) := by
  have em := e_lmult (t.mono (by decide : 400 ≤ 1000)) (s.mono (by decide : 400 ≤ 1000))
  have el := e_lalong R4.t ((s4_q t s).mono (by decide : 400 + 400 + 3 ≤ 1000)) hf
  simp only [mkF, fRet, fRetL, fRetN, fSkip, fSeq, fNever, fSet, fAsg, fNew, fIfS, fDrop, fPar, fSetc, fSetc2, fVar, fLit, fOp, fUn, fTup, fTup.datsOf, fLst, fNilA, fConsA, fCelA, fOfL, fTru, fAndT, fOrT, fNotT, fAndV, fOrV, fNotV, fIf, fBi, fCall, fCallL, fCallFr, callF, celOf, celsOk, norm, aName, aNil, aCons, aTup, setD, fSl, fIt, fItL, fItT, fFor, fLc, fYes, wipeD, fCix, fList, fSlL, fPart, fNoPart, fRng1, fRng2, List.length_cons, List.length_nil, List.getElem?_cons_zero, List.getElem?_cons_succ, List.getElem?_nil, List.set_cons_zero, List.set_cons_succ, List.map_cons, List.map_nil, List.cons_append, List.nil_append, List.append_nil, List.replicate, List.take_zero, List.take_nil, List.take_succ_cons, Option.bind_some, Option.map_some, Option.bind_none, Option.map_none, Nat.sub_self, Nat.reduceAdd, Nat.reduceSub, Nat.reduceLeDiff, Nat.zero_add, Nat.add_zero, and_self, and_true, true_and, if_true, if_false, reduceIte, ite_true, Bool.true_eq_false, Bool.false_eq_true, beq_self_eq_true, Bool.and_self, Bool.not_true, Bool.not_false, decide_true, decide_false, gLen, gTyIs, tyOf, gNeg, gPlus, DL.gSub, gCmp, gInt, gAbs, gTuple, gMax, gMin, gGcd, F__law_both, b__law_both, em, el]
theorem eqv4 (a b c d e f g h : Int) : PyData.eqv (T4 a b c d) (T4 e f g h) = (a == e && (b == f && (c == g && (d == h && true)))) := by
  simp only [PyData.eqv, PyData.eqvAll]
theorem eqvl4 (a b c d e f g h : Int) : PyData.eqv (L4 a b c d) (L4 e f g h) = (a == e && (b == f && (c == g && (d == h && true)))) := by
  simp only [PyData.eqv, PyData.eqvAll]
theorem sh4 (a b c d : Int) : SeqAt.shaped (T4 a b c d) = true := by
  rfl
theorem shl4 (a b c d : Int) : SeqAt.shaped (L4 a b c d) = true := by
  rfl
theorem eq44 (a b c d e f g h : Int) : gEq (T4 a b c d) (T4 e f g h) = some (.bool (a == e && (b == f && (c == g && (d == h && true))))) := by
  unfold gEq; rw [if_pos ⟨sh4 .., sh4 ..⟩, eqv4]
theorem ne44 (a b c d e f g h : Int) : gNe (T4 a b c d) (T4 e f g h) = some (.bool (!(a == e && (b == f && (c == g && (d == h && true)))))) := by
  unfold gNe; rw [if_pos ⟨sh4 .., sh4 ..⟩, eqv4]
theorem nel4 (a b c d e f g h : Int) : gNe (L4 a b c d) (L4 e f g h) = some (.bool (!(a == e && (b == f && (c == g && (d == h && true)))))) := by
  unfold gNe; rw [if_pos ⟨shl4 .., shl4 ..⟩, eqvl4]
theorem eq_self (a b c d : Int) : gEq (T4 a b c d) (T4 a b c d) = some (.bool true) := by
  rw [eq44]; simp
theorem ne_self (a b c d : Int) : gNe (T4 a b c d) (T4 a b c d) = some (.bool false) := by
  rw [ne44]; simp
theorem eq_null {a b c d : Int} (h : fs a b c d ≠ 0) : gEq (T4 a b c d) (T4 0 0 0 0) = some (.bool false) := by
  rw [eq44]
  congr 2
  by_cases ha : a = 0
  · by_cases hb : b = 0
    · by_cases hc : c = 0
      · have hd : d ≠ 0 := fun z => by subst ha hb hc z; exact h rfl
        simp [hd]
      · simp [hc]
    · simp [hb]
  · simp [ha]
theorem ne_nil : gNe (.list []) (.list []) = some (.bool false) := rfl
theorem showable_T4 {a b c d : Int} (s : S4 1000 a b c d) : (T4 a b c d).showable = true := by
  have h1 := s.1.log (by decide)
  have h2 := s.2.1.log (by decide)
  have h3 := s.2.2.1.log (by decide)
  have h4 := s.2.2.2.log (by decide)
  simp only [PyData.showable, PyData.showableAll, Bool.and_eq_true, decide_eq_true_eq, and_true]
  refine ⟨?_, ?_, ?_, ?_⟩ <;> omega
theorem len_int {x : Int} (h : Sm 400 x) : (PyData.shown (.int x)).length ≤ 401 := by
  have := int_text_length_le (k := 400) (by decide) (h.log (by decide))
  show (Str.ofString (toString x)).length ≤ 401
  rw [ofString_length]; exact this
theorem wt_int {x : Int} (h : Sm 400 x) : PyData.weight (.int x) ≤ 401 := by
  have := h.log (by decide)
  simp only [PyData.weight]
  split <;> omega
theorem wt_T4 {a b c d : Int} (s : S4 400 a b c d) : (T4 a b c d).weight ≤ 1608 := by
  have h1 := wt_int s.1
  have h2 := wt_int s.2.1
  have h3 := wt_int s.2.2.1
  have h4 := wt_int s.2.2.2
  show (PyData.int a).weight + 1 + ((PyData.int b).weight + 1 + ((PyData.int c).weight + 1 + ((PyData.int d).weight + 1 + 0))) ≤ 1608
  omega
theorem lv_T4 {a b c d : Int} (s : S4 400 a b c d) : (T4 a b c d).leavesShort 401 = true := by
  have h1 := len_int s.1
  have h2 := len_int s.2.1
  have h3 := len_int s.2.2.1
  have h4 := len_int s.2.2.2
  simp only [PyData.leavesShort, PyData.leavesShortAll, h1, h2, h3, h4, decide_true, Bool.and_true]
theorem shownOk_T4 {a b c d : Int} (s : S4 400 a b c d) : shownOk (T4 a b c d) = true := by
  have h1 := showable_T4 (s.mono (by decide : 400 ≤ 1000))
  have h2 := PyData.shown_le 401 (by decide) _ (lv_T4 s)
  have h3 := wt_T4 s
  have h4 : (T4 a b c d).shown.length ≤ sizeLine := by rw [sizeLine_eq]; omega
  have h5 : (T4 a b c d).depth = 1 := rfl
  have h6 : (T4 a b c d).hasDict = false := rfl
  unfold shownOk
  rw [h1, h6, decide_eq_true h4, h5]; rfl
structure Fine (w : Nat) (d : PyData) : Prop where
  sh : d.showable = true
  lv : d.leavesShort 401 = true
  wt : d.weight ≤ w
  nd : d.hasDict = false
theorem Fine.t4 {a b c d : Int} (s : S4 400 a b c d) : Fine 1608 (T4 a b c d) := ⟨showable_T4 (s.mono (by decide : 400 ≤ 1000)), lv_T4 s, wt_T4 s, rfl⟩
theorem Fine.two {u v : Nat} {x y : PyData} (h : Fine u x) (g : Fine v y) : Fine (u + v + 2) (.tuple [x, y]) := by
  refine ⟨?_, ?_, ?_, ?_⟩
  · simp only [PyData.showable, PyData.showableAll, h.sh, g.sh, Bool.and_true]
  · simp only [PyData.leavesShort, PyData.leavesShortAll, h.lv, g.lv, Bool.and_true]
  · have := h.wt
    have := g.wt
    show x.weight + 1 + (y.weight + 1 + 0) ≤ _
    omega
  · simp only [PyData.hasDict, PyData.hasDictAll, h.nd, g.nd, Bool.or_false]
theorem Fine.three {u v w : Nat} {x y z : PyData} (h : Fine u x) (g : Fine v y) (k : Fine w z) : Fine (u + v + w + 3) (.list [x, y, z]) := by
  refine ⟨?_, ?_, ?_, ?_⟩
  · simp only [PyData.showable, PyData.showableAll, h.sh, g.sh, k.sh, Bool.and_true]
  · simp only [PyData.leavesShort, PyData.leavesShortAll, h.lv, g.lv, k.lv, Bool.and_true]
  · have := h.wt
    have := g.wt
    have := k.wt
    show x.weight + 1 + (y.weight + 1 + (z.weight + 1 + 0)) ≤ _
    omega
  · simp only [PyData.hasDict, PyData.hasDictAll, h.nd, g.nd, k.nd, Bool.or_false]
theorem Fine.ok {w : Nat} {d : PyData} (h : Fine w d) (hw : w ≤ 40000) (hd : d.depth ≤ 60) : shownOk d = true := by
  have h2 := PyData.shown_le 401 (by decide) _ h.lv
  have h3 := h.wt
  have h4 : d.shown.length ≤ sizeLine := by rw [sizeLine_eq]; omega
  unfold shownOk
  rw [h.sh, h.nd, decide_eq_true h4, decide_eq_true hd]; rfl
theorem repr_T4 {a b c d : Int} (s : S4 400 a b c d) : gRepr [T4 a b c d] = some (.str (T4 a b c d).shown) := if_pos (shownOk_T4 s)
abbrev P2 (x y : PyData) : PyData := .tuple [x, y]
theorem repr_3 {a b c d e f g h a' b' c' d' e' f' g' h' : Int} (s : S4 400 a b c d) (t : S4 400 e f g h) (s' : S4 400 a' b' c' d') (t' : S4 400 e' f' g' h') :
    gRepr [.list [P2 (T4 a b c d) (T4 e f g h), P2 (T4 a b c d) (T4 e f g h), P2 (T4 a' b' c' d') (T4 e' f' g' h')]] = some (.str (PyData.list [P2 (T4 a b c d) (T4 e f g h), P2 (T4 a b c d) (T4 e f g h), P2 (T4 a' b' c' d') (T4 e' f' g' h')]).shown) :=
  if_pos (Fine.ok (((Fine.t4 s).two (Fine.t4 t)).three ((Fine.t4 s).two (Fine.t4 t)) ((Fine.t4 s').two (Fine.t4 t'))) (by decide) (Nat.le_of_ble_eq_true rfl))
def SOk (x : Str) : Prop := ∀ c ∈ x.cps.toList, c < 0x110000
theorem SOk.app {x y : Str} (h : SOk x) (g : SOk y) : SOk (x ++ y) := fun c m => by
  rcases PyProof.Rows.mem_cps_append.mp m with m | m
  · exact h c m
  · exact g c m
theorem SOk.str (s : String) : SOk (Str.ofString s) := fun c m => by
  rw [PyProof.Rows.signs_ofString] at m
  obtain ⟨k, _, rfl⟩ := List.mem_map.mp m
  exact k.valid.elim (fun h => by have : k.toNat < 0xd800 := h; omega) (fun h => h.2)
theorem SOk.int (i : Int) : SOk (PyData.shown (.int i)) := SOk.str _
theorem SOk.from : ∀ (ts : List Str) (k : Nat) (acc : Str), SOk acc → (∀ t ∈ ts, SOk t) → SOk (textFrom k acc ts)
  | [], k, acc, h, _ => h
  | t :: r, k, acc, h, g => SOk.from r (k + 1) _ ((h.app (by split <;> exact SOk.str _)).app (g t (List.mem_cons_self ..))) fun u hu => g u (List.mem_cons_of_mem _ hu)
theorem SOk.list (ts : List Str) (g : ∀ t ∈ ts, SOk t) : SOk (listText ts) := (SOk.from ts 0 _ (SOk.str "[") g).app (SOk.str "]")
theorem SOk.join : ∀ (ts : List Str), (∀ t ∈ ts, SOk t) → SOk (Str.join ", " ts)
  | [], _ => fun c m => by cases m
  | [x], g => g x (List.mem_cons_self ..)
  | x :: y :: r, g => ((g x (List.mem_cons_self ..)).app (SOk.str ", ")).app (SOk.join (y :: r) fun u hu => g u (List.mem_cons_of_mem _ hu))
theorem SOk.tup (ts : List Str) (g : ∀ t ∈ ts, SOk t) : SOk (tupleText ts) := ((SOk.str "(").app (SOk.join ts g)).app (by split <;> exact SOk.str _)
theorem SOk.cons {t : Str} {ts : List Str} (h : SOk t) (g : ∀ u ∈ ts, SOk u) : ∀ u ∈ t :: ts, SOk u := fun u m => by
  rcases List.mem_cons.mp m with rfl | m
  · exact h
  · exact g u m
theorem SOk.nil : ∀ u ∈ ([] : List Str), SOk u := fun u m => by cases m
theorem sok_T4 (a b c d : Int) : SOk (T4 a b c d).shown := SOk.tup _ (SOk.cons (SOk.int a) (SOk.cons (SOk.int b) (SOk.cons (SOk.int c) (SOk.cons (SOk.int d) SOk.nil))))
theorem sok_two {x y : PyData} (h : SOk x.shown) (g : SOk y.shown) : SOk (P2 x y).shown := SOk.tup _ (SOk.cons h (SOk.cons g SOk.nil))
theorem sok_three {x y z : PyData} (h : SOk x.shown) (g : SOk y.shown) (k : SOk z.shown) : SOk (PyData.list [x, y, z]).shown := SOk.list _ (SOk.cons h (SOk.cons g (SOk.cons k SOk.nil)))
theorem eq_str {x : Str} (h : SOk x) : gEq (.str x) (.str x) = some (.bool true) := by
  have h1 : PyData.strOk x = true := by
    unfold PyData.strOk
    rw [Array.all_eq_true']
    intro c m
    exact decide_eq_true (h c (Array.mem_toList_iff.mpr m))
  have h2 : SeqAt.shaped (.str x) = true := by
    unfold SeqAt.shaped
    rw [show (PyData.str x).canLay0 = PyData.strOk x from rfl, h1]; rfl
  unfold gEq
  rw [if_pos ⟨h2, h2⟩]
  simp only [PyData.eqv, beq_self_eq_true]
theorem e_lfix {a b c d : Int} (r : Red a b c d) (s : S4 1000 a b c d) : F__law_along [.dat (T4 a b c d)] [] = some (.dat (T4 a b c d), []) := by
  have e := e_lalong R4.t s r.ne
  unfold A4 at e
  rwa [r.A, r.A, r.A, r.A] at e
theorem ix0 {x : PyData} {xs : List PyData} : gIx (.tuple (x :: xs)) (.int 0) = some x := by
  show atI (x :: xs) 0 = some x
  exact at0
theorem ix1 {x y : PyData} : gIx (.tuple [x, y]) (.int 1) = some y := rfl
theorem g4_self (a b c d : Int) : (g4 a b c d : Int) ∣ a := (g4_dvd a b c d).1
theorem par_fs {l N u0 u1 u2 u3 s0 s1 s2 s3 : Int} (r : Red s0 s1 s2 s3) (hl : l ≠ 0) (hN : N ≠ 0) (h0 : l * u0 = N * s0) (h1 : l * u1 = N * s1) (h2 : l * u2 = N * s2) (h3 : l * u3 = N * s3) : fs u0 u1 u2 u3 ≠ 0 := by
  have e := fs_mul hl u0 u1 u2 u3
  rw [h0, h1, h2, h3, fs_mul hN] at e
  intro z
  rw [z, Int.mul_zero] at e
  exact Int.mul_ne_zero hN r.ne e
theorem par_A {l N u0 u1 u2 u3 s0 s1 s2 s3 : Int} (r : Red s0 s1 s2 s3) (hl : l ≠ 0) (hN : N ≠ 0) (h0 : l * u0 = N * s0) (h1 : l * u1 = N * s1) (h2 : l * u2 = N * s2) (h3 : l * u3 = N * s3) : A4 u0 u1 u2 u3 = T4 s0 s1 s2 s3 := by
  have hf := par_fs r hl hN h0 h1 h2 h3
  have hd := g4_dvd u0 u1 u2 u3
  have k0 := A_mul hl hf hd.1
  have k1 := A_mul hl hf hd.2.1
  have k2 := A_mul hl hf hd.2.2.1
  have k3 := A_mul hl hf hd.2.2.2
  rw [h0, h1, h2, h3, r.back hN] at k0 k1 k2 k3
  unfold A4
  rw [← k0, ← k1, ← k2, ← k3]
theorem sq2 {x y : Int} (h : ¬ (x = 0 ∧ y = 0)) : x * x + y * y ≠ 0 := by
  have h1 : 0 ≤ x * x := by
    rcases Int.le_total 0 x with g | g
    · exact Int.mul_nonneg g g
    · exact Int.mul_nonneg_of_nonpos_of_nonpos g g
  have h2 : 0 ≤ y * y := by
    rcases Int.le_total 0 y with g | g
    · exact Int.mul_nonneg g g
    · exact Int.mul_nonneg_of_nonpos_of_nonpos g g
  intro z
  have hx : x * x = 0 := by omega
  have hy : y * y = 0 := by omega
  exact h ⟨by rcases Int.mul_eq_zero.mp hx with g | g <;> exact g, by rcases Int.mul_eq_zero.mp hy with g | g <;> exact g⟩
theorem red_s : Red 1 0 0 0 := ⟨by unfold g4; rfl, by unfold fs; decide⟩
structure Src (k : Nat) (a s n : Int) : Prop where
  a0 : 0 ≤ a
  s0 : 0 ≤ s
  s1 : s < 2147483629
  n0 : 0 ≤ n
  n1 : n ≤ (k : Int)
abbrev L3 (a s n : Int) : List PyData := [.int a, .int s, .int n]
theorem dm_ok {i j : Int} (h : 0 < j) (h2 : Sm 1000 j) : gDivmod [.int i, .int j] = some (.tuple [.int (i / j), .int (i % j)]) := if_pos (by
  have := h2.log (by decide)
  have e : Builtin.divisionGoesByPylong i j = false := by
    unfold Builtin.divisionGoesByPylong
    have hz : (j == 0) = false := beq_eq_false_iff_ne.mpr (by omega)
    simp only [hz]
    have : ¬ (j.natAbs.log2 / 30 + 1 > 300) := by omega
    simp [this]
  unfold divmodOk
  rw [e, decide_eq_true h]; rfl)
theorem sm_of {x : Int} (h0 : 0 ≤ x) (h1 : x < 2 ^ 60) : Sm 1000 x := Nat.lt_of_lt_of_le (show x.natAbs < 2 ^ 60 by omega) (Nat.pow_le_pow_right (by decide) (by decide))
theorem at3_0 (a s n : PyData) : atI [a, s, n] 0 = some a := rfl
theorem at3_1 (a s n : PyData) : atI [a, s, n] 1 = some s := rfl
theorem at3_2 (a s n : PyData) : atI [a, s, n] 2 = some n := rfl
theorem ixN3_0 : ixN 3 0 = some 0 := rfl
theorem ixN3_1 : ixN 3 1 = some 1 := rfl
theorem ixN3_2 : ixN 3 2 = some 2 := rfl
theorem gMul_sm {x y : Int} (h0 : 0 ≤ x) (h1 : x < 2 ^ 60) (g0 : 0 ≤ y) (g1 : y < 2 ^ 60) : gMul (.int x) (.int y) = some (.int (x * y)) := gMul_ok (sm_of h0 h1) (sm_of g0 g1)
theorem e_draw {k : Nat} {a s n top : Int} (hs : Src k a s n) (hk : k ≤ 1000) (ht : 0 < top) (ht2 : top < 2 ^ 50) :
    ∃ v a' s' n', F__law_draw [.cel 0, .dat (.int top)] [L3 a s n] = some (.dat (.int v), [L3 a' s' n']) ∧ Src (k + 1) a' s' n' ∧ 0 ≤ v ∧ v < top := by
  obtain ⟨ha, h0, h1, h2, h3⟩ := hs
  have st := sm_of (by omega) (by omega : top < 2 ^ 60)
  by_cases hp : 0 < a
  · refine ⟨a % top, a / top, s, n, ?_, ⟨Int.ediv_nonneg ha (by omega), h0, h1, h2, by push_cast; omega⟩, Int.emod_nonneg _ (by omega), Int.emod_lt_of_pos _ ht⟩
    have hd := dm_ok (i := a) ht st
    simp only [mkF, fRet, fRetL, fRetN, fSkip, fSeq, fNever, fSet, fAsg, fNew, fIfS, fDrop, fPar, fSetc, fSetc2, fVar, fLit, fOp, fUn, fTup, fTup.datsOf, fLst, fNilA, fConsA, fCelA, fOfL, fTru, fAndT, fOrT, fNotT, fAndV, fOrV, fNotV, fIf, fBi, fCall, fCallL, fCallFr, callF, celOf, celsOk, norm, aName, aNil, aCons, aTup, setD, fSl, fIt, fItL, fItT, fFor, fLc, fYes, wipeD, fCix, fList, fSlL, fPart, fNoPart, fRng1, fRng2, List.length_cons, List.length_nil, List.getElem?_cons_zero, List.getElem?_cons_succ, List.getElem?_nil, List.set_cons_zero, List.set_cons_succ, List.map_cons, List.map_nil, List.cons_append, List.nil_append, List.append_nil, List.replicate, List.take_zero, List.take_nil, List.take_succ_cons, Option.bind_some, Option.map_some, Option.bind_none, Option.map_none, Nat.sub_self, Nat.reduceAdd, Nat.reduceSub, Nat.reduceLeDiff, Nat.zero_add, Nat.add_zero, and_self, and_true, true_and, if_true, if_false, reduceIte, ite_true, Bool.true_eq_false, Bool.false_eq_true, beq_self_eq_true, Bool.and_self, Bool.not_true, Bool.not_false, decide_true, decide_false, gLen, gTyIs, tyOf, gNeg, gPlus, DL.gSub, gCmp, gInt, gAbs, gTuple, gMax, gMin, gGcd, F__law_draw, b__law_draw, fSetc2, at3_0, at3_1, at3_2, ixN3_0, hp, hd, LIM]
  · have p1 : (0 : Int) < 2147483587 := by decide
    have p2 : (0 : Int) < 2147483629 := by decide
    have m1 := gMul_sm h0 (by omega : s < 2 ^ 60) (by decide : (0 : Int) ≤ 16807) (by decide)
    have m2 := gMul_sm (by omega : 0 ≤ n + 1) (by omega : n + 1 < 2 ^ 60) (by decide : (0 : Int) ≤ 65539) (by decide)
    have d1 := fun i : Int => gMod_ok (i := i) p1
    have d2 := fun i : Int => gMod_ok (i := i) p2
    have d3 := fun i : Int => gMod_ok (i := i) ht
    generalize hx : (s * 16807 + (n + 1) * 65539) % 2147483587 = x
    have x0 : 0 ≤ x := by omega
    have x1 : x < 2147483587 := by omega
    have q1 : gDiv (.int x) (.int 11) = some (.int (x / 11)) := gDiv_ok (by decide) (sm_of (by decide) (by decide))
    have m3 := gMul_sm (by decide : (0 : Int) ≤ 2) (by decide) (by omega : 0 ≤ x / 11) (by omega)
    have m4 := gMul_sm x0 (by omega) (by omega : 0 ≤ 2 * (x / 11) + 30011) (by omega)
    generalize hy : (x * (2 * (x / 11) + 30011) + (n + 1)) % 2147483629 = y
    have q2 : gDiv (.int y) (.int 257) = some (.int (y / 257)) := gDiv_ok (by decide) (sm_of (by decide) (by decide))
    refine ⟨y / 257 % top, a, y, n + 1, ?_, ⟨ha, by omega, by omega, by omega, by push_cast; omega⟩, Int.emod_nonneg _ (by omega), Int.emod_lt_of_pos _ ht⟩
    simp only [mkF, fRet, fRetL, fRetN, fSkip, fSeq, fNever, fSet, fAsg, fNew, fIfS, fDrop, fPar, fSetc, fSetc2, fVar, fLit, fOp, fUn, fTup, fTup.datsOf, fLst, fNilA, fConsA, fCelA, fOfL, fTru, fAndT, fOrT, fNotT, fAndV, fOrV, fNotV, fIf, fBi, fCall, fCallL, fCallFr, callF, celOf, celsOk, norm, aName, aNil, aCons, aTup, setD, fSl, fIt, fItL, fItT, fFor, fLc, fYes, wipeD, fCix, fList, fSlL, fPart, fNoPart, fRng1, fRng2, List.length_cons, List.length_nil, List.getElem?_cons_zero, List.getElem?_cons_succ, List.getElem?_nil, List.set_cons_zero, List.set_cons_succ, List.map_cons, List.map_nil, List.cons_append, List.nil_append, List.append_nil, List.replicate, List.take_zero, List.take_nil, List.take_succ_cons, Option.bind_some, Option.map_some, Option.bind_none, Option.map_none, Nat.sub_self, Nat.reduceAdd, Nat.reduceSub, Nat.reduceLeDiff, Nat.zero_add, Nat.add_zero, and_self, and_true, true_and, if_true, if_false, reduceIte, ite_true, Bool.true_eq_false, Bool.false_eq_true, beq_self_eq_true, Bool.and_self, Bool.not_true, Bool.not_false, decide_true, decide_false, gLen, gTyIs, tyOf, gNeg, gPlus, DL.gSub, gCmp, gInt, gAbs, gTuple, gMax, gMin, gGcd, F__law_draw, b__law_draw, fSetc2, at3_0, at3_1, at3_2, ixN3_0, ixN3_1, ixN3_2, hp, m1, m2, d1, d2, hx, q1, m3, m4, hy, q2, d3, LIM]
theorem atI_in {xs : List PyData} {v : Int} (h0 : 0 ≤ v) (h1 : v < (xs.length : Nat)) : ∃ x, x ∈ xs ∧ atI xs v = some x := by
  have hl : v.toNat < xs.length := by omega
  refine ⟨xs[v.toNat], List.getElem_mem hl, ?_⟩
  unfold atI ixN
  rw [if_pos h0, if_pos h1]
  exact List.getElem?_eq_getElem hl
theorem e_pick {k : Nat} {a s n : Int} {xs : List PyData} (hs : Src k a s n) (hk : k ≤ 1000) (h0 : 0 < xs.length) (h1 : xs.length < 2 ^ 40) :
    ∃ x a' s' n', F__law_pick [.cel 0, .dat (.tuple xs)] [L3 a s n] = some (.dat x, [L3 a' s' n']) ∧ Src (k + 1) a' s' n' ∧ x ∈ xs := by
  obtain ⟨v, a', s', n', e, hs', v0, v1⟩ := e_draw (top := (xs.length : Nat)) hs hk (by omega) (by omega)
  obtain ⟨x, hx, ex⟩ := atI_in v0 v1
  refine ⟨x, a', s', n', ?_, hs', hx⟩
  simp only [mkF, fRet, fRetL, fRetN, fSkip, fSeq, fNever, fSet, fAsg, fNew, fIfS, fDrop, fPar, fSetc, fSetc2, fVar, fLit, fOp, fUn, fTup, fTup.datsOf, fLst, fNilA, fConsA, fCelA, fOfL, fTru, fAndT, fOrT, fNotT, fAndV, fOrV, fNotV, fIf, fBi, fCall, fCallL, fCallFr, callF, celOf, celsOk, norm, aName, aNil, aCons, aTup, setD, fSl, fIt, fItL, fItT, fFor, fLc, fYes, wipeD, fCix, fList, fSlL, fPart, fNoPart, fRng1, fRng2, List.length_cons, List.length_nil, List.getElem?_cons_zero, List.getElem?_cons_succ, List.getElem?_nil, List.set_cons_zero, List.set_cons_succ, List.map_cons, List.map_nil, List.cons_append, List.nil_append, List.append_nil, List.replicate, List.take_zero, List.take_nil, List.take_succ_cons, Option.bind_some, Option.map_some, Option.bind_none, Option.map_none, Nat.sub_self, Nat.reduceAdd, Nat.reduceSub, Nat.reduceLeDiff, Nat.zero_add, Nat.add_zero, and_self, and_true, true_and, if_true, if_false, reduceIte, ite_true, Bool.true_eq_false, Bool.false_eq_true, beq_self_eq_true, Bool.and_self, Bool.not_true, Bool.not_false, decide_true, decide_false, gLen, gTyIs, tyOf, gNeg, gPlus, DL.gSub, gCmp, gInt, gAbs, gTuple, gMax, gMin, gGcd, F__law_pick, b__law_pick, e, gIx, ex]
theorem e_about {k : Nat} {a s n most : Int} (hs : Src k a s n) (hk : k ≤ 1000) (h0 : 0 ≤ most) (h1 : most < 2 ^ 40) :
    ∃ v a' s' n', F__law_about [.cel 0, .dat (.int most)] [L3 a s n] = some (.dat (.int v), [L3 a' s' n']) ∧ Src (k + 1) a' s' n' ∧ -most ≤ v ∧ v ≤ most := by
  obtain ⟨v, a', s', n', e, hs', v0, v1⟩ := e_draw (top := 2 * most + 1) hs hk (by omega) (by omega)
  refine ⟨v - most, a', s', n', ?_, hs', by omega, by omega⟩
  have m1 := gMul_sm (by decide : (0 : Int) ≤ 2) (by decide) h0 (by omega)
  simp only [mkF, fRet, fRetL, fRetN, fSkip, fSeq, fNever, fSet, fAsg, fNew, fIfS, fDrop, fPar, fSetc, fSetc2, fVar, fLit, fOp, fUn, fTup, fTup.datsOf, fLst, fNilA, fConsA, fCelA, fOfL, fTru, fAndT, fOrT, fNotT, fAndV, fOrV, fNotV, fIf, fBi, fCall, fCallL, fCallFr, callF, celOf, celsOk, norm, aName, aNil, aCons, aTup, setD, fSl, fIt, fItL, fItT, fFor, fLc, fYes, wipeD, fCix, fList, fSlL, fPart, fNoPart, fRng1, fRng2, List.length_cons, List.length_nil, List.getElem?_cons_zero, List.getElem?_cons_succ, List.getElem?_nil, List.set_cons_zero, List.set_cons_succ, List.map_cons, List.map_nil, List.cons_append, List.nil_append, List.append_nil, List.replicate, List.take_zero, List.take_nil, List.take_succ_cons, Option.bind_some, Option.map_some, Option.bind_none, Option.map_none, Nat.sub_self, Nat.reduceAdd, Nat.reduceSub, Nat.reduceLeDiff, Nat.zero_add, Nat.add_zero, and_self, and_true, true_and, if_true, if_false, reduceIte, ite_true, Bool.true_eq_false, Bool.false_eq_true, beq_self_eq_true, Bool.and_self, Bool.not_true, Bool.not_false, decide_true, decide_false, gLen, gTyIs, tyOf, gNeg, gPlus, DL.gSub, gCmp, gInt, gAbs, gTuple, gMax, gMin, gGcd, F__law_about, b__law_about, m1, e]
theorem pow6 : gPow (.int 10) (.int 6) = some (.int 1000000) := rfl
theorem e_number {k : Nat} {a s n most : Int} (hs : Src k a s n) (hk : k ≤ 998) (h0 : 0 ≤ most) (h1 : most ≤ 1000) :
    ∃ v a' s' n', F__law_number [.cel 0, .dat (.int most)] [L3 a s n] = some (.dat (.int v), [L3 a' s' n']) ∧ Src (k + 2) a' s' n' ∧ Sm 50 v := by
  by_cases hp : 0 < most
  · obtain ⟨v, a', s', n', e, hs', v0, v1⟩ := e_about hs (by omega) h0 (by omega)
    refine ⟨v, a', s', n', ?_, ⟨hs'.a0, hs'.s0, hs'.s1, hs'.n0, by have := hs'.n1; omega⟩, by unfold Sm; omega⟩
    simp only [mkF, fRet, fRetL, fRetN, fSkip, fSeq, fNever, fSet, fAsg, fNew, fIfS, fDrop, fPar, fSetc, fSetc2, fVar, fLit, fOp, fUn, fTup, fTup.datsOf, fLst, fNilA, fConsA, fCelA, fOfL, fTru, fAndT, fOrT, fNotT, fAndV, fOrV, fNotV, fIf, fBi, fCall, fCallL, fCallFr, callF, celOf, celsOk, norm, aName, aNil, aCons, aTup, setD, fSl, fIt, fItL, fItT, fFor, fLc, fYes, wipeD, fCix, fList, fSlL, fPart, fNoPart, fRng1, fRng2, List.length_cons, List.length_nil, List.getElem?_cons_zero, List.getElem?_cons_succ, List.getElem?_nil, List.set_cons_zero, List.set_cons_succ, List.map_cons, List.map_nil, List.cons_append, List.nil_append, List.append_nil, List.replicate, List.take_zero, List.take_nil, List.take_succ_cons, Option.bind_some, Option.map_some, Option.bind_none, Option.map_none, Nat.sub_self, Nat.reduceAdd, Nat.reduceSub, Nat.reduceLeDiff, Nat.zero_add, Nat.add_zero, and_self, and_true, true_and, if_true, if_false, reduceIte, ite_true, Bool.true_eq_false, Bool.false_eq_true, beq_self_eq_true, Bool.and_self, Bool.not_true, Bool.not_false, decide_true, decide_false, gLen, gTyIs, tyOf, gNeg, gPlus, DL.gSub, gCmp, gInt, gAbs, gTuple, gMax, gMin, gGcd, F__law_number, b__law_number, hp, e]
  · obtain ⟨v, a', s', n', e, hs', v0, v1⟩ := e_about (most := 999999) hs (by omega) (by decide) (by decide)
    obtain ⟨v2, a2, s2, n2, e2, hs2, w0, w1⟩ := e_draw (top := 1000000) hs' (by omega) (by decide) (by decide)
    refine ⟨v * 1000000 + v2, a2, s2, n2, ?_, hs2, by unfold Sm; omega⟩
    have m1 : gMul (.int v) (.int 1000000) = some (.int (v * 1000000)) := gMul_ok (show v.natAbs < 2 ^ 1000 from Nat.lt_of_lt_of_le (show v.natAbs < 2 ^ 60 by omega) (Nat.pow_le_pow_right (by decide) (by decide))) (sm_of (by decide) (by decide))
    simp only [mkF, fRet, fRetL, fRetN, fSkip, fSeq, fNever, fSet, fAsg, fNew, fIfS, fDrop, fPar, fSetc, fSetc2, fVar, fLit, fOp, fUn, fTup, fTup.datsOf, fLst, fNilA, fConsA, fCelA, fOfL, fTru, fAndT, fOrT, fNotT, fAndV, fOrV, fNotV, fIf, fBi, fCall, fCallL, fCallFr, callF, celOf, celsOk, norm, aName, aNil, aCons, aTup, setD, fSl, fIt, fItL, fItT, fFor, fLc, fYes, wipeD, fCix, fList, fSlL, fPart, fNoPart, fRng1, fRng2, List.length_cons, List.length_nil, List.getElem?_cons_zero, List.getElem?_cons_succ, List.getElem?_nil, List.set_cons_zero, List.set_cons_succ, List.map_cons, List.map_nil, List.cons_append, List.nil_append, List.append_nil, List.replicate, List.take_zero, List.take_nil, List.take_succ_cons, Option.bind_some, Option.map_some, Option.bind_none, Option.map_none, Nat.sub_self, Nat.reduceAdd, Nat.reduceSub, Nat.reduceLeDiff, Nat.zero_add, Nat.add_zero, and_self, and_true, true_and, if_true, if_false, reduceIte, ite_true, Bool.true_eq_false, Bool.false_eq_true, beq_self_eq_true, Bool.and_self, Bool.not_true, Bool.not_false, decide_true, decide_false, gLen, gTyIs, tyOf, gNeg, gPlus, DL.gSub, gCmp, gInt, gAbs, gTuple, gMax, gMin, gGcd, F__law_number, b__law_number, hp, e, pow6, m1, e2]
theorem ne_null {a b c d : Int} : gNe (L4 a b c d) (L4 0 0 0 0) = some (.bool (decide (¬ (a = 0 ∧ b = 0 ∧ c = 0 ∧ d = 0)))) := by
  rw [nel4]
  congr 2
  by_cases h : a = 0 ∧ b = 0 ∧ c = 0 ∧ d = 0
  · obtain ⟨rfl, rfl, rfl, rfl⟩ := h
    rfl
  · rw [decide_eq_true h]
    by_cases ha : a = 0
    · by_cases hb : b = 0
      · by_cases hc : c = 0
        · have hd : d ≠ 0 := fun z => h ⟨ha, hb, hc, z⟩
          simp [hd]
        · simp [hc]
      · simp [hb]
    · simp [ha]
theorem along_or {a b c d : Int} (s : S4 10 a b c d) : gNe (L4 a b c d) (L4 0 0 0 0) = some (.bool false) ∨ (gNe (L4 a b c d) (L4 0 0 0 0) = some (.bool true) ∧ ∃ e f g h, F__law_along [.dat (L4 a b c d)] [] = some (.dat (T4 e f g h), []) ∧ Red e f g h ∧ S4 10 e f g h) := by
  by_cases h : a = 0 ∧ b = 0 ∧ c = 0 ∧ d = 0
  · left
    rw [ne_null, decide_eq_false (fun n => n h)]
  · right
    refine ⟨by rw [ne_null, decide_eq_true h], _, _, _, _, e_lalong R4.l (s.mono (by decide)) (fs_ne h), red_A (fs_ne h), s.A⟩
theorem s4_small {a b c d : Int} (ha : Sm 50 a) (hb : Sm 50 b) (hc : Sm 50 c) (hd : Sm 50 d) : S4 60 a b c d := ⟨ha.mono (by decide), hb.mono (by decide), hc.mono (by decide), hd.mono (by decide)⟩
theorem red_l : Red 0 0 0 1 := ⟨by unfold g4; rfl, by unfold fs; decide⟩
abbrev SFr : FS := (fRet (fIf (fTru (fOp gNe (fVar 1) (fOfL (fLst (fConsA (fLit (.int 0)) (fConsA (fLit (.int 0)) (fConsA (fLit (.int 0)) (fConsA (fLit (.int 0)) fNilA)))))))) (fCall F__law_along (fConsA (fVar 1) fNilA)) (fTup (fConsA (fLit (.int 0)) (fConsA (fLit (.int 0)) (fConsA (fLit (.int 0)) (fConsA (fLit (.int 1)) fNilA)))))))
abbrev SF : FS := fFrz n0__law_spin 1 SFr
theorem sfr_ok {x0 x2 x3 x4 : Option SV} {cs : Cs} {a b c d : Int} (s : S4 10 a b c d) : ∃ e f g h, SFr ⟨[x0, some (.dat (L4 a b c d)), x2, x3, x4], cs⟩ = some (.rt (.dat (T4 e f g h)) cs) ∧ Red e f g h ∧ S4 10 e f g h := by
  rcases along_or s with h | ⟨h, e, f, g, i, ha, hr, hs⟩
  · refine ⟨0, 0, 0, 1, ?_, red_l, ⟨by unfold Sm; decide, by unfold Sm; decide, by unfold Sm; decide, by unfold Sm; decide⟩⟩
    simp only [mkF, fRet, fRetL, fRetN, fSkip, fSeq, fNever, fSet, fAsg, fNew, fIfS, fDrop, fPar, fSetc, fSetc2, fVar, fLit, fOp, fUn, fTup, fTup.datsOf, fLst, fNilA, fConsA, fCelA, fOfL, fTru, fAndT, fOrT, fNotT, fAndV, fOrV, fNotV, fIf, fBi, fCall, fCallL, fCallFr, callF, celOf, celsOk, norm, aName, aNil, aCons, aTup, setD, fSl, fIt, fItL, fItT, fFor, fLc, fYes, wipeD, fCix, fList, fSlL, fPart, fNoPart, fRng1, fRng2, List.length_cons, List.length_nil, List.getElem?_cons_zero, List.getElem?_cons_succ, List.getElem?_nil, List.set_cons_zero, List.set_cons_succ, List.map_cons, List.map_nil, List.cons_append, List.nil_append, List.append_nil, List.replicate, List.take_zero, List.take_nil, List.take_succ_cons, Option.bind_some, Option.map_some, Option.bind_none, Option.map_none, Nat.sub_self, Nat.reduceAdd, Nat.reduceSub, Nat.reduceLeDiff, Nat.zero_add, Nat.add_zero, and_self, and_true, true_and, if_true, if_false, reduceIte, ite_true, Bool.true_eq_false, Bool.false_eq_true, beq_self_eq_true, Bool.and_self, Bool.not_true, Bool.not_false, decide_true, decide_false, gLen, gTyIs, tyOf, gNeg, gPlus, DL.gSub, gCmp, gInt, gAbs, gTuple, gMax, gMin, gGcd, h, LIM]
  · refine ⟨e, f, g, i, ?_, hr, hs⟩
    simp only [mkF, fRet, fRetL, fRetN, fSkip, fSeq, fNever, fSet, fAsg, fNew, fIfS, fDrop, fPar, fSetc, fSetc2, fVar, fLit, fOp, fUn, fTup, fTup.datsOf, fLst, fNilA, fConsA, fCelA, fOfL, fTru, fAndT, fOrT, fNotT, fAndV, fOrV, fNotV, fIf, fBi, fCall, fCallL, fCallFr, callF, celOf, celsOk, norm, aName, aNil, aCons, aTup, setD, fSl, fIt, fItL, fItT, fFor, fLc, fYes, wipeD, fCix, fList, fSlL, fPart, fNoPart, fRng1, fRng2, List.length_cons, List.length_nil, List.getElem?_cons_zero, List.getElem?_cons_succ, List.getElem?_nil, List.set_cons_zero, List.set_cons_succ, List.map_cons, List.map_nil, List.cons_append, List.nil_append, List.append_nil, List.replicate, List.take_zero, List.take_nil, List.take_succ_cons, Option.bind_some, Option.map_some, Option.bind_none, Option.map_none, Nat.sub_self, Nat.reduceAdd, Nat.reduceSub, Nat.reduceLeDiff, Nat.zero_add, Nat.add_zero, and_self, and_true, true_and, if_true, if_false, reduceIte, ite_true, Bool.true_eq_false, Bool.false_eq_true, beq_self_eq_true, Bool.and_self, Bool.not_true, Bool.not_false, decide_true, decide_false, gLen, gTyIs, tyOf, gNeg, gPlus, DL.gSub, gCmp, gInt, gAbs, gTuple, gMax, gMin, gGcd, h, ha, LIM]
theorem sf1 {x2 x3 : PyData} {w : List PyData} {a b c d : Int} (s : S4 10 a b c d) : ∃ e f g h, SF ⟨[some (.cel 0), some (.cel 1), some (.dat x2), some (.dat x3), none], [w, [.int a, .int b, .int c, .int d]]⟩ = some (.rt (.dat (T4 e f g h)) [w]) ∧ Red e f g h ∧ S4 10 e f g h := by
  obtain ⟨e, f, g, h, he, hr, hs⟩ := sfr_ok (x0 := some (.cel 0)) (x2 := some (.dat x2)) (x3 := some (.dat x3)) (x4 := none) (cs := [w]) s
  exact ⟨e, f, g, h, he, hr, hs⟩
theorem sf2 {x2 x3 : PyData} {w u : List PyData} {a b c d : Int} (s : S4 10 a b c d) : ∃ e f g h, SF ⟨[some (.cel 0), some (.cel 2), some (.dat x2), some (.dat x3), none], [w, u, [.int a, .int b, .int c, .int d]]⟩ = some (.rt (.dat (T4 e f g h)) [w, u]) ∧ Red e f g h ∧ S4 10 e f g h := by
  obtain ⟨e, f, g, h, he, hr, hs⟩ := sfr_ok (x0 := some (.cel 0)) (x2 := some (.dat x2)) (x3 := some (.dat x3)) (x4 := none) (cs := [w, u]) s
  exact ⟨e, f, g, h, he, hr, hs⟩
theorem rng4 : rngOk 4 = true := rfl
theorem rd4 : rangeD 0 (Int.toNat 4) = [.int 0, .int 1, .int 2, .int 3] := rfl
theorem Src.up {k m : Nat} {a s n : Int} (h : Src k a s n) (hm : k ≤ m) : Src m a s n := ⟨h.a0, h.s0, h.s1, h.n0, by have := h.n1; omega⟩
abbrev S1 : FS := (fAsg (aTup 2 (aCons (aName 2) (aCons (aName 3) aNil))) (fTup (fConsA (fCall F__law_draw (fCelA 0 (fConsA (fLit (.int 8)) fNilA))) (fConsA (fCall F__law_pick (fCelA 0 (fConsA (fTup (fConsA (fLit (.int 1)) (fConsA (fLit (.int 1)) (fConsA (fLit (.int 2)) (fConsA (fLit (.int 3)) (fConsA (fLit (.int 9)) (fConsA (fLit (.int 100)) fNilA))))))) fNilA))) fNilA))))
theorem s1_ok {k : Nat} {a s n : Int} {x1 x2 x3 x4 : Option SV} (hs : Src k a s n) (hk : k ≤ 900) : ∃ w m a' s' n', S1 ⟨[some (.cel 0), x1, x2, x3, x4], [L3 a s n]⟩ = some (.nx ⟨[some (.cel 0), x1, some (.dat (.int w)), some (.dat (.int m)), x4], [L3 a' s' n']⟩) ∧ Src (k + 2) a' s' n' ∧ 0 ≤ m ∧ m ≤ 100 := by
  obtain ⟨w, a', s', n', e, hs', v0, v1⟩ := e_draw (top := 8) hs (by omega) (by decide) (by decide)
  obtain ⟨x, a2, s2, n2, e2, hs2, hx⟩ := e_pick (xs := [.int 1, .int 1, .int 2, .int 3, .int 9, .int 100]) hs' (by omega) (by decide) (by decide)
  have hm : ∃ m : Int, x = .int m ∧ 0 ≤ m ∧ m ≤ 100 := by
    simp only [List.mem_cons, List.not_mem_nil, or_false] at hx
    rcases hx with rfl | rfl | rfl | rfl | rfl | rfl <;> exact ⟨_, rfl, by decide, by decide⟩
  obtain ⟨m, rfl, m0, m1⟩ := hm
  refine ⟨w, m, a2, s2, n2, ?_, hs2, m0, m1⟩
  simp only [mkF, fRet, fRetL, fRetN, fSkip, fSeq, fNever, fSet, fAsg, fNew, fIfS, fDrop, fPar, fSetc, fSetc2, fVar, fLit, fOp, fUn, fTup, fTup.datsOf, fLst, fNilA, fConsA, fCelA, fOfL, fTru, fAndT, fOrT, fNotT, fAndV, fOrV, fNotV, fIf, fBi, fCall, fCallL, fCallFr, callF, celOf, celsOk, norm, aName, aNil, aCons, aTup, setD, fSl, fIt, fItL, fItT, fFor, fLc, fYes, wipeD, fCix, fList, fSlL, fPart, fNoPart, fRng1, fRng2, List.length_cons, List.length_nil, List.getElem?_cons_zero, List.getElem?_cons_succ, List.getElem?_nil, List.set_cons_zero, List.set_cons_succ, List.map_cons, List.map_nil, List.cons_append, List.nil_append, List.append_nil, List.replicate, List.take_zero, List.take_nil, List.take_succ_cons, Option.bind_some, Option.map_some, Option.bind_none, Option.map_none, Nat.sub_self, Nat.reduceAdd, Nat.reduceSub, Nat.reduceLeDiff, Nat.zero_add, Nat.add_zero, and_self, and_true, true_and, if_true, if_false, reduceIte, ite_true, Bool.true_eq_false, Bool.false_eq_true, beq_self_eq_true, Bool.and_self, Bool.not_true, Bool.not_false, decide_true, decide_false, gLen, gTyIs, tyOf, gNeg, gPlus, DL.gSub, gCmp, gInt, gAbs, gTuple, gMax, gMin, gGcd, e, e2, LIM]
abbrev S2 : FS := (fNew 1 (fLc (fRng1 (fConsA (fLit (.int 4)) fNilA)) (aName 4) fYes (fCall F__law_about (fCelA 0 (fConsA (fVar 3) fNilA))) [4]))
theorem s2_ok {k : Nat} {a s n m : Int} {x2 x4 : Option SV} (hs : Src k a s n) (hk : k ≤ 900) (m0 : 0 ≤ m) (m1 : m ≤ 100) : ∃ p q r t a' s' n', S2 ⟨[some (.cel 0), none, x2, some (.dat (.int m)), none], [L3 a s n]⟩ = some (.nx ⟨[some (.cel 0), some (.cel 1), x2, some (.dat (.int m)), none], [L3 a' s' n', [.int p, .int q, .int r, .int t]]⟩) ∧ Src (k + 4) a' s' n' ∧ S4 10 p q r t := by
  obtain ⟨p, a1, s1, n1, e1, h1, p0, p1⟩ := e_about hs (by omega) m0 (by omega)
  obtain ⟨q, a2, s2, n2, e2, h2, q0, q1⟩ := e_about h1 (by omega) m0 (by omega)
  obtain ⟨r, a3, s3, n3, e3, h3, r0, r1⟩ := e_about h2 (by omega) m0 (by omega)
  obtain ⟨t, a4, s4, n4, e4, h4, t0, t1⟩ := e_about h3 (by omega) m0 (by omega)
  refine ⟨p, q, r, t, a4, s4, n4, ?_, h4, ⟨by unfold Sm; omega, by unfold Sm; omega, by unfold Sm; omega, by unfold Sm; omega⟩⟩
  simp only [mkF, fRet, fRetL, fRetN, fSkip, fSeq, fNever, fSet, fAsg, fNew, fIfS, fDrop, fPar, fSetc, fSetc2, fVar, fLit, fOp, fUn, fTup, fTup.datsOf, fLst, fNilA, fConsA, fCelA, fOfL, fTru, fAndT, fOrT, fNotT, fAndV, fOrV, fNotV, fIf, fBi, fCall, fCallL, fCallFr, callF, celOf, celsOk, norm, aName, aNil, aCons, aTup, setD, fSl, fIt, fItL, fItT, fFor, fLc, fYes, wipeD, fCix, fList, fSlL, fPart, fNoPart, fRng1, fRng2, List.length_cons, List.length_nil, List.getElem?_cons_zero, List.getElem?_cons_succ, List.getElem?_nil, List.set_cons_zero, List.set_cons_succ, List.map_cons, List.map_nil, List.cons_append, List.nil_append, List.append_nil, List.replicate, List.take_zero, List.take_nil, List.take_succ_cons, Option.bind_some, Option.map_some, Option.bind_none, Option.map_none, Nat.sub_self, Nat.reduceAdd, Nat.reduceSub, Nat.reduceLeDiff, Nat.zero_add, Nat.add_zero, and_self, and_true, true_and, if_true, if_false, reduceIte, ite_true, Bool.true_eq_false, Bool.false_eq_true, beq_self_eq_true, Bool.and_self, Bool.not_true, Bool.not_false, decide_true, decide_false, gLen, gTyIs, tyOf, gNeg, gPlus, DL.gSub, gCmp, gInt, gAbs, gTuple, gMax, gMin, gGcd, lcGo, rng4, rd4, e1, e2, e3, e4, LIM]
abbrev PK : FE := (fCall F__law_pick (fCelA 0 (fConsA (fTup (fConsA (fTup (fConsA (fLit (.int 1)) (fConsA (fLit (.int 1)) (fConsA (fLit (.int 1)) (fConsA (fLit (.int 1)) fNilA))))) (fConsA (fTup (fConsA (fLit (.int 1)) (fConsA (fLit (.int 1)) (fConsA (fLit (.int 0)) (fConsA (fLit (.int 0)) fNilA))))) (fConsA (fTup (fConsA (fLit (.int 3)) (fConsA (fLit (.int 1)) (fConsA (fLit (.int 1)) (fConsA (fLit (.int 1)) fNilA))))) (fConsA (fTup (fConsA (fLit (.int 0)) (fConsA (fLit (.int 1)) (fConsA (fLit (.int 1)) (fConsA (fLit (.int 0)) fNilA))))) (fConsA (fTup (fConsA (fLit (.int 1)) (fConsA (fLit (.int 0)) (fConsA (fLit (.int 0)) (fConsA (fLit (.int 0)) fNilA))))) (fConsA (fTup (fConsA (fLit (.int 1)) (fConsA (fLit (.int 0)) (fConsA (fLit (.int 0)) (fConsA (fLit (.int 1)) fNilA))))) fNilA))))))) fNilA)))
theorem pk_ok {k : Nat} {a s n : Int} {x1 x2 x3 x4 : Option SV} {u : List PyData} (hs : Src k a s n) (hk : k ≤ 900) : ∃ e f g h a' s' n', PK ⟨[some (.cel 0), x1, x2, x3, x4], [L3 a s n, u]⟩ = some (T4 e f g h, [L3 a' s' n', u]) ∧ Src (k + 1) a' s' n' ∧ S4 10 e f g h := by
  obtain ⟨x, a', s', n', e, hs', hx⟩ := e_pick (xs := [T4 1 1 1 1, T4 1 1 0 0, T4 3 1 1 1, T4 0 1 1 0, T4 1 0 0 0, T4 1 0 0 1]) hs (by omega) (by decide) (by decide)
  have hm : ∃ p q r t, x = T4 p q r t ∧ S4 10 p q r t := by
    simp only [List.mem_cons, List.not_mem_nil, or_false] at hx
    rcases hx with rfl | rfl | rfl | rfl | rfl | rfl <;> exact ⟨_, _, _, _, rfl, by unfold Sm; decide, by unfold Sm; decide, by unfold Sm; decide, by unfold Sm; decide⟩
  obtain ⟨p, q, r, t, rfl, h4⟩ := hm
  refine ⟨p, q, r, t, a', s', n', ?_, hs', h4⟩
  simp only [mkF, fRet, fRetL, fRetN, fSkip, fSeq, fNever, fSet, fAsg, fNew, fIfS, fDrop, fPar, fSetc, fSetc2, fVar, fLit, fOp, fUn, fTup, fTup.datsOf, fLst, fNilA, fConsA, fCelA, fOfL, fTru, fAndT, fOrT, fNotT, fAndV, fOrV, fNotV, fIf, fBi, fCall, fCallL, fCallFr, callF, celOf, celsOk, norm, aName, aNil, aCons, aTup, setD, fSl, fIt, fItL, fItT, fFor, fLc, fYes, wipeD, fCix, fList, fSlL, fPart, fNoPart, fRng1, fRng2, List.length_cons, List.length_nil, List.getElem?_cons_zero, List.getElem?_cons_succ, List.getElem?_nil, List.set_cons_zero, List.set_cons_succ, List.map_cons, List.map_nil, List.cons_append, List.nil_append, List.append_nil, List.replicate, List.take_zero, List.take_nil, List.take_succ_cons, Option.bind_some, Option.map_some, Option.bind_none, Option.map_none, Nat.sub_self, Nat.reduceAdd, Nat.reduceSub, Nat.reduceLeDiff, Nat.zero_add, Nat.add_zero, and_self, and_true, true_and, if_true, if_false, reduceIte, ite_true, Bool.true_eq_false, Bool.false_eq_true, beq_self_eq_true, Bool.and_self, Bool.not_true, Bool.not_false, decide_true, decide_false, gLen, gTyIs, tyOf, gNeg, gPlus, DL.gSub, gCmp, gInt, gAbs, gTuple, gMax, gMin, gGcd, e, LIM]
theorem at4_0 (a b c d : PyData) : atI [a, b, c, d] 0 = some a := rfl
theorem at4_3 (a b c d : PyData) : atI [a, b, c, d] 3 = some d := rfl
theorem ixN4_0 : ixN 4 0 = some 0 := rfl
theorem ixN4_3 : ixN 4 3 = some 3 := rfl
abbrev SM (pk : FE) (r : FS) : FS := (fSeq (fIfS (fTru (fOp gEq (fVar 2) (fLit (.int 0)))) (fNew 1 (fList pk)) fSkip)
  (fSeq (fIfS (fTru (fOp gEq (fVar 2) (fLit (.int 1)))) (fSetc 1 (fLit (.int 0)) (fLit (.int 0))) fSkip)
  (fSeq (fIfS (fTru (fOp gEq (fVar 2) (fLit (.int 2)))) (fNew 1 (fLst (fConsA (fCix 1 (fLit (.int 0))) (fConsA (fLit (.int 0)) (fConsA (fLit (.int 0)) (fConsA (fCix 1 (fLit (.int 3))) fNilA)))))) fSkip)
  (fSeq (fIfS (fTru (fOp gEq (fVar 2) (fLit (.int 3)))) (fSetc 1 (fLit (.int 3)) (fLit (.int 0))) fSkip) r))))
theorem sm_ok {pk : FE} {r : FS} {x0 x3 x4 : Option SV} {w : Int} {u u2 : List PyData} {a b c d e f g h : Int} (hp : pk ⟨[x0, some (.cel 1), some (.dat (.int w)), x3, x4], [u, [.int a, .int b, .int c, .int d]]⟩ = some (T4 e f g h, [u2, [.int a, .int b, .int c, .int d]])) :
    (SM pk r ⟨[x0, some (.cel 1), some (.dat (.int w)), x3, x4], [u, [.int a, .int b, .int c, .int d]]⟩ = r ⟨[x0, some (.cel 2), some (.dat (.int w)), x3, x4], [u2, [.int a, .int b, .int c, .int d], [.int e, .int f, .int g, .int h]]⟩) ∨
    (SM pk r ⟨[x0, some (.cel 1), some (.dat (.int w)), x3, x4], [u, [.int a, .int b, .int c, .int d]]⟩ = r ⟨[x0, some (.cel 1), some (.dat (.int w)), x3, x4], [u, [.int 0, .int b, .int c, .int d]]⟩) ∨
    (SM pk r ⟨[x0, some (.cel 1), some (.dat (.int w)), x3, x4], [u, [.int a, .int b, .int c, .int d]]⟩ = r ⟨[x0, some (.cel 2), some (.dat (.int w)), x3, x4], [u, [.int a, .int b, .int c, .int d], [.int a, .int 0, .int 0, .int d]]⟩) ∨
    (SM pk r ⟨[x0, some (.cel 1), some (.dat (.int w)), x3, x4], [u, [.int a, .int b, .int c, .int d]]⟩ = r ⟨[x0, some (.cel 1), some (.dat (.int w)), x3, x4], [u, [.int a, .int b, .int c, .int 0]]⟩) ∨
    (SM pk r ⟨[x0, some (.cel 1), some (.dat (.int w)), x3, x4], [u, [.int a, .int b, .int c, .int d]]⟩ = r ⟨[x0, some (.cel 1), some (.dat (.int w)), x3, x4], [u, [.int a, .int b, .int c, .int d]]⟩) := by
  have c01 : ((0 : Int) == 1) = false := rfl
  have c02 : ((0 : Int) == 2) = false := rfl
  have c03 : ((0 : Int) == 3) = false := rfl
  have c10 : ((1 : Int) == 0) = false := rfl
  have c12 : ((1 : Int) == 2) = false := rfl
  have c13 : ((1 : Int) == 3) = false := rfl
  have c20 : ((2 : Int) == 0) = false := rfl
  have c21 : ((2 : Int) == 1) = false := rfl
  have c23 : ((2 : Int) == 3) = false := rfl
  have c30 : ((3 : Int) == 0) = false := rfl
  have c31 : ((3 : Int) == 1) = false := rfl
  have c32 : ((3 : Int) == 2) = false := rfl
  by_cases w0 : w = 0
  · subst w0
    refine .inl ?_
    simp only [mkF, fRet, fRetL, fRetN, fSkip, fSeq, fNever, fSet, fAsg, fNew, fIfS, fDrop, fPar, fSetc, fSetc2, fVar, fLit, fOp, fUn, fTup, fTup.datsOf, fLst, fNilA, fConsA, fCelA, fOfL, fTru, fAndT, fOrT, fNotT, fAndV, fOrV, fNotV, fIf, fBi, fCall, fCallL, fCallFr, callF, celOf, celsOk, norm, aName, aNil, aCons, aTup, setD, fSl, fIt, fItL, fItT, fFor, fLc, fYes, wipeD, fCix, fList, fSlL, fPart, fNoPart, fRng1, fRng2, List.length_cons, List.length_nil, List.getElem?_cons_zero, List.getElem?_cons_succ, List.getElem?_nil, List.set_cons_zero, List.set_cons_succ, List.map_cons, List.map_nil, List.cons_append, List.nil_append, List.append_nil, List.replicate, List.take_zero, List.take_nil, List.take_succ_cons, Option.bind_some, Option.map_some, Option.bind_none, Option.map_none, Nat.sub_self, Nat.reduceAdd, Nat.reduceSub, Nat.reduceLeDiff, Nat.zero_add, Nat.add_zero, and_self, and_true, true_and, if_true, if_false, reduceIte, ite_true, Bool.true_eq_false, Bool.false_eq_true, beq_self_eq_true, Bool.and_self, Bool.not_true, Bool.not_false, decide_true, decide_false, gLen, gTyIs, tyOf, gNeg, gPlus, DL.gSub, gCmp, gInt, gAbs, gTuple, gMax, gMin, gGcd, gEq_int, hp, c01, c02, c03, LIM]
  by_cases w1 : w = 1
  · subst w1
    refine .inr (.inl ?_)
    simp only [mkF, fRet, fRetL, fRetN, fSkip, fSeq, fNever, fSet, fAsg, fNew, fIfS, fDrop, fPar, fSetc, fSetc2, fVar, fLit, fOp, fUn, fTup, fTup.datsOf, fLst, fNilA, fConsA, fCelA, fOfL, fTru, fAndT, fOrT, fNotT, fAndV, fOrV, fNotV, fIf, fBi, fCall, fCallL, fCallFr, callF, celOf, celsOk, norm, aName, aNil, aCons, aTup, setD, fSl, fIt, fItL, fItT, fFor, fLc, fYes, wipeD, fCix, fList, fSlL, fPart, fNoPart, fRng1, fRng2, List.length_cons, List.length_nil, List.getElem?_cons_zero, List.getElem?_cons_succ, List.getElem?_nil, List.set_cons_zero, List.set_cons_succ, List.map_cons, List.map_nil, List.cons_append, List.nil_append, List.append_nil, List.replicate, List.take_zero, List.take_nil, List.take_succ_cons, Option.bind_some, Option.map_some, Option.bind_none, Option.map_none, Nat.sub_self, Nat.reduceAdd, Nat.reduceSub, Nat.reduceLeDiff, Nat.zero_add, Nat.add_zero, and_self, and_true, true_and, if_true, if_false, reduceIte, ite_true, Bool.true_eq_false, Bool.false_eq_true, beq_self_eq_true, Bool.and_self, Bool.not_true, Bool.not_false, decide_true, decide_false, gLen, gTyIs, tyOf, gNeg, gPlus, DL.gSub, gCmp, gInt, gAbs, gTuple, gMax, gMin, gGcd, gEq_int, c10, c12, c13, ixN4_0, LIM]
  by_cases w2 : w = 2
  · subst w2
    refine .inr (.inr (.inl ?_))
    simp only [mkF, fRet, fRetL, fRetN, fSkip, fSeq, fNever, fSet, fAsg, fNew, fIfS, fDrop, fPar, fSetc, fSetc2, fVar, fLit, fOp, fUn, fTup, fTup.datsOf, fLst, fNilA, fConsA, fCelA, fOfL, fTru, fAndT, fOrT, fNotT, fAndV, fOrV, fNotV, fIf, fBi, fCall, fCallL, fCallFr, callF, celOf, celsOk, norm, aName, aNil, aCons, aTup, setD, fSl, fIt, fItL, fItT, fFor, fLc, fYes, wipeD, fCix, fList, fSlL, fPart, fNoPart, fRng1, fRng2, List.length_cons, List.length_nil, List.getElem?_cons_zero, List.getElem?_cons_succ, List.getElem?_nil, List.set_cons_zero, List.set_cons_succ, List.map_cons, List.map_nil, List.cons_append, List.nil_append, List.append_nil, List.replicate, List.take_zero, List.take_nil, List.take_succ_cons, Option.bind_some, Option.map_some, Option.bind_none, Option.map_none, Nat.sub_self, Nat.reduceAdd, Nat.reduceSub, Nat.reduceLeDiff, Nat.zero_add, Nat.add_zero, and_self, and_true, true_and, if_true, if_false, reduceIte, ite_true, Bool.true_eq_false, Bool.false_eq_true, beq_self_eq_true, Bool.and_self, Bool.not_true, Bool.not_false, decide_true, decide_false, gLen, gTyIs, tyOf, gNeg, gPlus, DL.gSub, gCmp, gInt, gAbs, gTuple, gMax, gMin, gGcd, gEq_int, c20, c21, c23, at4_0, at4_3, LIM]
  by_cases w3 : w = 3
  · subst w3
    refine .inr (.inr (.inr (.inl ?_)))
    simp only [mkF, fRet, fRetL, fRetN, fSkip, fSeq, fNever, fSet, fAsg, fNew, fIfS, fDrop, fPar, fSetc, fSetc2, fVar, fLit, fOp, fUn, fTup, fTup.datsOf, fLst, fNilA, fConsA, fCelA, fOfL, fTru, fAndT, fOrT, fNotT, fAndV, fOrV, fNotV, fIf, fBi, fCall, fCallL, fCallFr, callF, celOf, celsOk, norm, aName, aNil, aCons, aTup, setD, fSl, fIt, fItL, fItT, fFor, fLc, fYes, wipeD, fCix, fList, fSlL, fPart, fNoPart, fRng1, fRng2, List.length_cons, List.length_nil, List.getElem?_cons_zero, List.getElem?_cons_succ, List.getElem?_nil, List.set_cons_zero, List.set_cons_succ, List.map_cons, List.map_nil, List.cons_append, List.nil_append, List.append_nil, List.replicate, List.take_zero, List.take_nil, List.take_succ_cons, Option.bind_some, Option.map_some, Option.bind_none, Option.map_none, Nat.sub_self, Nat.reduceAdd, Nat.reduceSub, Nat.reduceLeDiff, Nat.zero_add, Nat.add_zero, and_self, and_true, true_and, if_true, if_false, reduceIte, ite_true, Bool.true_eq_false, Bool.false_eq_true, beq_self_eq_true, Bool.and_self, Bool.not_true, Bool.not_false, decide_true, decide_false, gLen, gTyIs, tyOf, gNeg, gPlus, DL.gSub, gCmp, gInt, gAbs, gTuple, gMax, gMin, gGcd, gEq_int, c30, c31, c32, ixN4_3, LIM]
  refine .inr (.inr (.inr (.inr ?_)))
  have d0 : (w == 0) = false := beq_eq_false_iff_ne.mpr w0
  have d1 : (w == 1) = false := beq_eq_false_iff_ne.mpr w1
  have d2 : (w == 2) = false := beq_eq_false_iff_ne.mpr w2
  have d3 : (w == 3) = false := beq_eq_false_iff_ne.mpr w3
  simp only [mkF, fRet, fRetL, fRetN, fSkip, fSeq, fNever, fSet, fAsg, fNew, fIfS, fDrop, fPar, fSetc, fSetc2, fVar, fLit, fOp, fUn, fTup, fTup.datsOf, fLst, fNilA, fConsA, fCelA, fOfL, fTru, fAndT, fOrT, fNotT, fAndV, fOrV, fNotV, fIf, fBi, fCall, fCallL, fCallFr, callF, celOf, celsOk, norm, aName, aNil, aCons, aTup, setD, fSl, fIt, fItL, fItT, fFor, fLc, fYes, wipeD, fCix, fList, fSlL, fPart, fNoPart, fRng1, fRng2, List.length_cons, List.length_nil, List.getElem?_cons_zero, List.getElem?_cons_succ, List.getElem?_nil, List.set_cons_zero, List.set_cons_succ, List.map_cons, List.map_nil, List.cons_append, List.nil_append, List.append_nil, List.replicate, List.take_zero, List.take_nil, List.take_succ_cons, Option.bind_some, Option.map_some, Option.bind_none, Option.map_none, Nat.sub_self, Nat.reduceAdd, Nat.reduceSub, Nat.reduceLeDiff, Nat.zero_add, Nat.add_zero, and_self, and_true, true_and, if_true, if_false, reduceIte, ite_true, Bool.true_eq_false, Bool.false_eq_true, beq_self_eq_true, Bool.and_self, Bool.not_true, Bool.not_false, decide_true, decide_false, gLen, gTyIs, tyOf, gNeg, gPlus, DL.gSub, gCmp, gInt, gAbs, gTuple, gMax, gMin, gGcd, gEq_int, d0, d1, d2, d3, LIM]
theorem sm_zero (n : Nat) : Sm n 0 := Nat.two_pow_pos n
theorem seq_nx {a b : FS} {st st1 : Sta} (h : a st = some (.nx st1)) : fSeq a b st = b st1 := by
  unfold fSeq; rw [h]; rfl
theorem fn1 {np N n0 : Nat} {b : FS} {xs : List SV} {cs : Cs} {r : RV} {c : Cs} (h : b ⟨xs.map some ++ List.replicate (N - np) none, cs⟩ = some (.rt r c)) (hl : xs.length = np ∧ cs.length = n0) : mkF np N n0 b xs cs = some (r, c.take n0) := by
  unfold mkF; rw [if_pos hl, h]
abbrev Told (F : FnS) (k : Nat) (a s n : Int) : Prop := ∃ e f g h a' s' n', F [.cel 0] [L3 a s n] = some (.dat (T4 e f g h), [L3 a' s' n']) ∧ Src k a' s' n' ∧ Red e f g h ∧ S4 10 e f g h
theorem e_spin {k : Nat} {a s n : Int} (hs : Src k a s n) (hk : k ≤ 800) : Told F__law_spin (k + 7) a s n := by
  have e0 : b__law_spin = fSeq S1 (fSeq S2 (SM PK SF)) := rfl
  obtain ⟨w, m, a1, s1, n1, h1, g1, m0, m1⟩ := s1_ok (x1 := none) (x2 := none) (x3 := none) (x4 := none) hs (by omega)
  obtain ⟨p, q, r, t, a2, s2, n2, h2, g2, hv⟩ := s2_ok (x2 := some (.dat (.int w))) (x4 := none) g1 (by omega) m0 m1
  obtain ⟨p', q', r', t', a3, s3, n3, h3, g3, hv'⟩ := pk_ok (x1 := some (.cel 1)) (x2 := some (.dat (.int w))) (x3 := some (.dat (.int m))) (x4 := none) (u := [.int p, .int q, .int r, .int t]) g2 (by omega)
  have key : ∃ e f g h a' s' n' c, SM PK SF ⟨[some (.cel 0), some (.cel 1), some (.dat (.int w)), some (.dat (.int m)), none], [L3 a2 s2 n2, [.int p, .int q, .int r, .int t]]⟩ = some (.rt (.dat (T4 e f g h)) (L3 a' s' n' :: c)) ∧ Src (k + 7) a' s' n' ∧ Red e f g h ∧ S4 10 e f g h := by
    rcases sm_ok (r := SF) h3 with y | y | y | y | y
    · obtain ⟨e, f, g, h, he, hr, hs⟩ := sf2 (x2 := .int w) (x3 := .int m) (w := L3 a3 s3 n3) (u := [.int p, .int q, .int r, .int t]) hv'
      exact ⟨e, f, g, h, a3, s3, n3, _, y.trans he, g3.up (by omega), hr, hs⟩
    · obtain ⟨e, f, g, h, he, hr, hs⟩ := sf1 (x2 := .int w) (x3 := .int m) (w := L3 a2 s2 n2) (⟨sm_zero 10, hv.2⟩ : S4 10 0 q r t)
      exact ⟨e, f, g, h, a2, s2, n2, _, y.trans he, g2.up (by omega), hr, hs⟩
    · obtain ⟨e, f, g, h, he, hr, hs⟩ := sf2 (x2 := .int w) (x3 := .int m) (w := L3 a2 s2 n2) (u := [.int p, .int q, .int r, .int t]) (⟨hv.1, sm_zero 10, sm_zero 10, hv.2.2.2⟩ : S4 10 p 0 0 t)
      exact ⟨e, f, g, h, a2, s2, n2, _, y.trans he, g2.up (by omega), hr, hs⟩
    · obtain ⟨e, f, g, h, he, hr, hs⟩ := sf1 (x2 := .int w) (x3 := .int m) (w := L3 a2 s2 n2) (⟨hv.1, hv.2.1, hv.2.2.1, sm_zero 10⟩ : S4 10 p q r 0)
      exact ⟨e, f, g, h, a2, s2, n2, _, y.trans he, g2.up (by omega), hr, hs⟩
    · obtain ⟨e, f, g, h, he, hr, hs⟩ := sf1 (x2 := .int w) (x3 := .int m) (w := L3 a2 s2 n2) hv
      exact ⟨e, f, g, h, a2, s2, n2, _, y.trans he, g2.up (by omega), hr, hs⟩
  obtain ⟨e, f, g, h, a', s', n', c, hb, hsr, hr, h60⟩ := key
  refine ⟨e, f, g, h, a', s', n', ?_, hsr, hr, h60⟩
  have hall : b__law_spin ⟨[.cel 0].map some ++ List.replicate (5 - 1) none, [L3 a s n]⟩ = some (.rt (.dat (T4 e f g h)) (L3 a' s' n' :: c)) := by
    rw [e0]
    exact (seq_nx h1).trans ((seq_nx h2).trans hb)
  have := fn1 (n0 := 1) hall ⟨rfl, rfl⟩
  exact this
theorem cut_ints (ns : List Int) (l h : Option Int) : ∃ ms : List Int, cutD (ns.map PyData.int) l h = ms.map PyData.int := by
  unfold cutD
  rw [← List.map_drop, ← List.map_take]
  exact ⟨_, rfl⟩
abbrev MB : FS := (fSet 3 (fOp gMod (fBi gInt (fConsA (fOp gPlus (fOp gPlus (fOp gMul (fVar 3) (fLit (.int 48611))) (fOp gMod (fBi gInt (fConsA (fVar 4) fNilA)) (fLit (.int 2147483587)))) (fLit (.int 19))) fNilA)) (fLit (.int 2147483629))))
theorem mb_ok {x0 x1 x2 x5 : Option SV} {m v : Int} (h0 : 0 ≤ m) (h1 : m < 2 ^ 60) : ∃ m', MB ⟨[x0, x1, x2, some (.dat (.int m)), some (.dat (.int v)), x5], []⟩ = some (.nx ⟨[x0, x1, x2, some (.dat (.int m')), some (.dat (.int v)), x5], []⟩) ∧ 0 ≤ m' ∧ m' < 2 ^ 60 := by
  have p1 : (0 : Int) < 2147483587 := by decide
  have p2 : (0 : Int) < 2147483629 := by decide
  have d1 := fun i : Int => gMod_ok (i := i) p1
  have d2 := fun i : Int => gMod_ok (i := i) p2
  have m1 := gMul_sm h0 h1 (by decide : (0 : Int) ≤ 48611) (by decide)
  refine ⟨(m * 48611 + v % 2147483587 + 19) % 2147483629, ?_, by omega, by omega⟩
  simp only [mkF, fRet, fRetL, fRetN, fSkip, fSeq, fNever, fSet, fAsg, fNew, fIfS, fDrop, fPar, fSetc, fSetc2, fVar, fLit, fOp, fUn, fTup, fTup.datsOf, fLst, fNilA, fConsA, fCelA, fOfL, fTru, fAndT, fOrT, fNotT, fAndV, fOrV, fNotV, fIf, fBi, fCall, fCallL, fCallFr, callF, celOf, celsOk, norm, aName, aNil, aCons, aTup, setD, fSl, fIt, fItL, fItT, fFor, fLc, fYes, wipeD, fCix, fList, fSlL, fPart, fNoPart, fRng1, fRng2, List.length_cons, List.length_nil, List.getElem?_cons_zero, List.getElem?_cons_succ, List.getElem?_nil, List.set_cons_zero, List.set_cons_succ, List.map_cons, List.map_nil, List.cons_append, List.nil_append, List.append_nil, List.replicate, List.take_zero, List.take_nil, List.take_succ_cons, Option.bind_some, Option.map_some, Option.bind_none, Option.map_none, Nat.sub_self, Nat.reduceAdd, Nat.reduceSub, Nat.reduceLeDiff, Nat.zero_add, Nat.add_zero, and_self, and_true, true_and, if_true, if_false, reduceIte, ite_true, Bool.true_eq_false, Bool.false_eq_true, beq_self_eq_true, Bool.and_self, Bool.not_true, Bool.not_false, decide_true, decide_false, gLen, gTyIs, tyOf, gNeg, gPlus, DL.gSub, gCmp, gInt, gAbs, gTuple, gMax, gMin, gGcd, m1, d1, d2]
theorem ml_ok {x0 x1 x2 x5 : Option SV} : ∀ (ms : List Int) (m : Int) (x4 : Option SV), 0 ≤ m → m < 2 ^ 60 → ∃ m' x4', forGo (aName 4) MB (ms.map PyData.int) ⟨[x0, x1, x2, some (.dat (.int m)), x4, x5], []⟩ = some (.nx ⟨[x0, x1, x2, some (.dat (.int m')), x4', x5], []⟩) ∧ 0 ≤ m' ∧ m' < 2 ^ 60
  | [], m, x4, h0, h1 => ⟨m, x4, rfl, h0, h1⟩
  | v :: ms, m, x4, h0, h1 => by
    obtain ⟨m1, e1, g0, g1⟩ := mb_ok (x0 := x0) (x1 := x1) (x2 := x2) (x5 := x5) (v := v) h0 h1
    obtain ⟨m2, y4, e2, k0, k1⟩ := ml_ok (x0 := x0) (x1 := x1) (x2 := x2) (x5 := x5) ms m1 (some (.dat (.int v))) g0 g1
    refine ⟨m2, y4, ?_, k0, k1⟩
    simp only [List.map_cons, forGo, aName, setD, List.set_cons_zero, List.set_cons_succ, Option.bind_some, e1, e2]
theorem pow17 : gPow (.int 10) (.int 17) = some (.int 100000000000000000) := rfl
theorem src_own (ns : List Int) {k : Int} (h0 : 0 ≤ k) : k < (ns.length : Nat) → ∃ o : Int, atI (ns.map PyData.int) k = some (.int o) := fun h => by
  obtain ⟨x, hx, e⟩ := atI_in (xs := ns.map PyData.int) h0 (by rw [List.length_map]; exact h)
  obtain ⟨o, _, rfl⟩ := List.mem_map.mp hx
  exact ⟨o, e⟩
abbrev SB (mb : FS) : FS := (fSeq (fSet 3 (fOp gPlus (fLit (.int 60013)) (fOp gMul (fLit (.int 4001)) (fVar 1))))
  (fSeq (fFor (fIt (fSl (fVar 0) fNoPart (fPart (fLit (.int 8))))) (aName 4) mb)
  (fSeq (fSet 5 (fOp gMod (fBi gInt (fConsA (fOp gPlus (fOp gMul (fVar 3) (fLit (.int 83))) (fOp gMul (fOp gMod (fBi gInt (fConsA (fVar 2) fNilA)) (fLit (.int 2147483587))) (fLit (.int 20011)))) fNilA)) (fLit (.int 2147483629))))
  (fRetL (fLst (fConsA (fIf (fOrT (fTru (fOp (gCmp fun i j => decide (i < j)) (fVar 2) (fLit (.int 0)))) (fTru (fOp (gCmp fun i j => decide (j ≤ i)) (fVar 2) (fOp gPow (fLit (.int 10)) (fLit (.int 17)))))) (fBi gAbs (fConsA (fVar 2) fNilA)) (fLit (.int 0))) (fConsA (fVar 5) (fConsA (fLit (.int 0)) fNilA))))))))
theorem sb_ok {ns : List Int} {k o : Int} (h0 : 0 ≤ k) (h1 : k < 1000) : ∃ a s, SB MB ⟨[some (.dat (.list (ns.map PyData.int))), some (.dat (.int k)), some (.dat (.int o)), none, none, none], []⟩ = some (.rt (.new (L3 a s 0)) []) ∧ Src 0 a s 0 := by
  have p1 : (0 : Int) < 2147483587 := by decide
  have p2 : (0 : Int) < 2147483629 := by decide
  have d1 := fun i : Int => gMod_ok (i := i) p1
  have d2 := fun i : Int => gMod_ok (i := i) p2
  have m1 := gMul_sm (by decide : (0 : Int) ≤ 4001) (by decide) h0 (by omega : k < 2 ^ 60)
  obtain ⟨ms, hms⟩ := cut_ints ns none (some 8)
  obtain ⟨m, x4, e, g0, g1⟩ := ml_ok (x0 := some (.dat (.list (ns.map PyData.int)))) (x1 := some (.dat (.int k))) (x2 := some (.dat (.int o))) (x5 := none) ms (60013 + 4001 * k) none (by omega) (by omega)
  have m2 := gMul_sm g0 g1 (by decide : (0 : Int) ≤ 83) (by decide)
  have m3 := gMul_sm (by omega : 0 ≤ o % 2147483587) (by omega) (by decide : (0 : Int) ≤ 20011) (by decide)
  generalize hI : MB = mb at e ⊢
  by_cases c1 : o < 0
  · refine ⟨-o, (m * 83 + o % 2147483587 * 20011) % 2147483629, ?_, ⟨by omega, by omega, by omega, by omega, by omega⟩⟩
    simp only [mkF, fRet, fRetL, fRetN, fSkip, fSeq, fNever, fSet, fAsg, fNew, fIfS, fDrop, fPar, fSetc, fSetc2, fVar, fLit, fOp, fUn, fTup, fTup.datsOf, fLst, fNilA, fConsA, fCelA, fOfL, fTru, fAndT, fOrT, fNotT, fAndV, fOrV, fNotV, fIf, fBi, fCall, fCallL, fCallFr, callF, celOf, celsOk, norm, aName, aNil, aCons, aTup, setD, fSl, fIt, fItL, fItT, fFor, fLc, fYes, wipeD, fCix, fList, fSlL, fPart, fNoPart, fRng1, fRng2, List.length_cons, List.length_nil, List.getElem?_cons_zero, List.getElem?_cons_succ, List.getElem?_nil, List.set_cons_zero, List.set_cons_succ, List.map_cons, List.map_nil, List.cons_append, List.nil_append, List.append_nil, List.replicate, List.take_zero, List.take_nil, List.take_succ_cons, Option.bind_some, Option.map_some, Option.bind_none, Option.map_none, Nat.sub_self, Nat.reduceAdd, Nat.reduceSub, Nat.reduceLeDiff, Nat.zero_add, Nat.add_zero, and_self, and_true, true_and, if_true, if_false, reduceIte, ite_true, Bool.true_eq_false, Bool.false_eq_true, beq_self_eq_true, Bool.and_self, Bool.not_true, Bool.not_false, decide_true, decide_false, gLen, gTyIs, tyOf, gNeg, gPlus, DL.gSub, gCmp, gInt, gAbs, gTuple, gMax, gMin, gGcd, m1, hms, e, m2, m3, d1, d2, c1, LIM]
  · by_cases c2 : 100000000000000000 ≤ o
    · refine ⟨o, (m * 83 + o % 2147483587 * 20011) % 2147483629, ?_, ⟨by omega, by omega, by omega, by omega, by omega⟩⟩
      simp only [mkF, fRet, fRetL, fRetN, fSkip, fSeq, fNever, fSet, fAsg, fNew, fIfS, fDrop, fPar, fSetc, fSetc2, fVar, fLit, fOp, fUn, fTup, fTup.datsOf, fLst, fNilA, fConsA, fCelA, fOfL, fTru, fAndT, fOrT, fNotT, fAndV, fOrV, fNotV, fIf, fBi, fCall, fCallL, fCallFr, callF, celOf, celsOk, norm, aName, aNil, aCons, aTup, setD, fSl, fIt, fItL, fItT, fFor, fLc, fYes, wipeD, fCix, fList, fSlL, fPart, fNoPart, fRng1, fRng2, List.length_cons, List.length_nil, List.getElem?_cons_zero, List.getElem?_cons_succ, List.getElem?_nil, List.set_cons_zero, List.set_cons_succ, List.map_cons, List.map_nil, List.cons_append, List.nil_append, List.append_nil, List.replicate, List.take_zero, List.take_nil, List.take_succ_cons, Option.bind_some, Option.map_some, Option.bind_none, Option.map_none, Nat.sub_self, Nat.reduceAdd, Nat.reduceSub, Nat.reduceLeDiff, Nat.zero_add, Nat.add_zero, and_self, and_true, true_and, if_true, if_false, reduceIte, ite_true, Bool.true_eq_false, Bool.false_eq_true, beq_self_eq_true, Bool.and_self, Bool.not_true, Bool.not_false, decide_true, decide_false, gLen, gTyIs, tyOf, gNeg, gPlus, DL.gSub, gCmp, gInt, gAbs, gTuple, gMax, gMin, gGcd, m1, hms, e, m2, m3, d1, d2, c1, pow17, c2, LIM]
    · refine ⟨0, (m * 83 + o % 2147483587 * 20011) % 2147483629, ?_, ⟨by omega, by omega, by omega, by omega, by omega⟩⟩
      simp only [mkF, fRet, fRetL, fRetN, fSkip, fSeq, fNever, fSet, fAsg, fNew, fIfS, fDrop, fPar, fSetc, fSetc2, fVar, fLit, fOp, fUn, fTup, fTup.datsOf, fLst, fNilA, fConsA, fCelA, fOfL, fTru, fAndT, fOrT, fNotT, fAndV, fOrV, fNotV, fIf, fBi, fCall, fCallL, fCallFr, callF, celOf, celsOk, norm, aName, aNil, aCons, aTup, setD, fSl, fIt, fItL, fItT, fFor, fLc, fYes, wipeD, fCix, fList, fSlL, fPart, fNoPart, fRng1, fRng2, List.length_cons, List.length_nil, List.getElem?_cons_zero, List.getElem?_cons_succ, List.getElem?_nil, List.set_cons_zero, List.set_cons_succ, List.map_cons, List.map_nil, List.cons_append, List.nil_append, List.append_nil, List.replicate, List.take_zero, List.take_nil, List.take_succ_cons, Option.bind_some, Option.map_some, Option.bind_none, Option.map_none, Nat.sub_self, Nat.reduceAdd, Nat.reduceSub, Nat.reduceLeDiff, Nat.zero_add, Nat.add_zero, and_self, and_true, true_and, if_true, if_false, reduceIte, ite_true, Bool.true_eq_false, Bool.false_eq_true, beq_self_eq_true, Bool.and_self, Bool.not_true, Bool.not_false, decide_true, decide_false, gLen, gTyIs, tyOf, gNeg, gPlus, DL.gSub, gCmp, gInt, gAbs, gTuple, gMax, gMin, gGcd, m1, hms, e, m2, m3, d1, d2, c1, pow17, c2, LIM]
theorem e_source {ns : List Int} {k : Int} (h0 : 0 ≤ k) (h1 : k < 1000) : ∃ a s, F__law_source [.dat (.list (ns.map PyData.int)), .dat (.int k)] [] = some (.new (L3 a s 0), []) ∧ Src 0 a s 0 := by
  have m1 := gMul_sm (by decide : (0 : Int) ≤ 983) (by decide) h0 (by omega : k < 2 ^ 60)
  have e0 : b__law_source = (fSeq (fSet 2 (fIf (fTru (fOp (gCmp fun i j => decide (i < j)) (fVar 1) (fBi gLen (fConsA (fVar 0) fNilA)))) (fBi gInt (fConsA (fOp gIx (fVar 0) (fVar 1)) fNilA)) (fOp gPlus (fOp gMul (fLit (.int 983)) (fVar 1)) (fLit (.int 57))))) (SB MB)) := rfl
  have key : ∃ o, (fSet 2 (fIf (fTru (fOp (gCmp fun i j => decide (i < j)) (fVar 1) (fBi gLen (fConsA (fVar 0) fNilA)))) (fBi gInt (fConsA (fOp gIx (fVar 0) (fVar 1)) fNilA)) (fOp gPlus (fOp gMul (fLit (.int 983)) (fVar 1)) (fLit (.int 57))))) ⟨[some (.dat (.list (ns.map PyData.int))), some (.dat (.int k)), none, none, none, none], []⟩ =
      some (.nx ⟨[some (.dat (.list (ns.map PyData.int))), some (.dat (.int k)), some (.dat (.int o)), none, none, none], []⟩) := by
    by_cases hk : k < (ns.length : Nat)
    · obtain ⟨o, e⟩ := src_own ns h0 hk
      refine ⟨o, ?_⟩
      simp only [mkF, fRet, fRetL, fRetN, fSkip, fSeq, fNever, fSet, fAsg, fNew, fIfS, fDrop, fPar, fSetc, fSetc2, fVar, fLit, fOp, fUn, fTup, fTup.datsOf, fLst, fNilA, fConsA, fCelA, fOfL, fTru, fAndT, fOrT, fNotT, fAndV, fOrV, fNotV, fIf, fBi, fCall, fCallL, fCallFr, callF, celOf, celsOk, norm, aName, aNil, aCons, aTup, setD, fSl, fIt, fItL, fItT, fFor, fLc, fYes, wipeD, fCix, fList, fSlL, fPart, fNoPart, fRng1, fRng2, List.length_cons, List.length_nil, List.getElem?_cons_zero, List.getElem?_cons_succ, List.getElem?_nil, List.set_cons_zero, List.set_cons_succ, List.map_cons, List.map_nil, List.cons_append, List.nil_append, List.append_nil, List.replicate, List.take_zero, List.take_nil, List.take_succ_cons, Option.bind_some, Option.map_some, Option.bind_none, Option.map_none, Nat.sub_self, Nat.reduceAdd, Nat.reduceSub, Nat.reduceLeDiff, Nat.zero_add, Nat.add_zero, and_self, and_true, true_and, if_true, if_false, reduceIte, ite_true, Bool.true_eq_false, Bool.false_eq_true, beq_self_eq_true, Bool.and_self, Bool.not_true, Bool.not_false, decide_true, decide_false, gLen, gTyIs, tyOf, gNeg, gPlus, DL.gSub, gCmp, gInt, gAbs, gTuple, gMax, gMin, gGcd, List.length_map, hk, gIx, e]
    · refine ⟨983 * k + 57, ?_⟩
      simp only [mkF, fRet, fRetL, fRetN, fSkip, fSeq, fNever, fSet, fAsg, fNew, fIfS, fDrop, fPar, fSetc, fSetc2, fVar, fLit, fOp, fUn, fTup, fTup.datsOf, fLst, fNilA, fConsA, fCelA, fOfL, fTru, fAndT, fOrT, fNotT, fAndV, fOrV, fNotV, fIf, fBi, fCall, fCallL, fCallFr, callF, celOf, celsOk, norm, aName, aNil, aCons, aTup, setD, fSl, fIt, fItL, fItT, fFor, fLc, fYes, wipeD, fCix, fList, fSlL, fPart, fNoPart, fRng1, fRng2, List.length_cons, List.length_nil, List.getElem?_cons_zero, List.getElem?_cons_succ, List.getElem?_nil, List.set_cons_zero, List.set_cons_succ, List.map_cons, List.map_nil, List.cons_append, List.nil_append, List.append_nil, List.replicate, List.take_zero, List.take_nil, List.take_succ_cons, Option.bind_some, Option.map_some, Option.bind_none, Option.map_none, Nat.sub_self, Nat.reduceAdd, Nat.reduceSub, Nat.reduceLeDiff, Nat.zero_add, Nat.add_zero, and_self, and_true, true_and, if_true, if_false, reduceIte, ite_true, Bool.true_eq_false, Bool.false_eq_true, beq_self_eq_true, Bool.and_self, Bool.not_true, Bool.not_false, decide_true, decide_false, gLen, gTyIs, tyOf, gNeg, gPlus, DL.gSub, gCmp, gInt, gAbs, gTuple, gMax, gMin, gGcd, List.length_map, hk, m1]
  obtain ⟨o, ho⟩ := key
  obtain ⟨a, s, hb, hs⟩ := sb_ok (ns := ns) (o := o) h0 h1
  refine ⟨a, s, ?_, hs⟩
  have hall : b__law_source ⟨[.dat (.list (ns.map PyData.int)), .dat (.int k)].map some ++ List.replicate (6 - 2) none, []⟩ = some (.rt (.new (L3 a s 0)) []) := by
    rw [e0]
    exact (seq_nx ho).trans hb
  exact fn1 (n0 := 0) hall ⟨rfl, rfl⟩
end K26


set_option Elab.async false
set_option linter.all false
set_option maxRecDepth 100000
set_option maxHeartbeats 400000
set_option exponentiation.threshold 20000
namespace K26
open PySem PySem.Spec L2 DL Q4
/-! lists of turns, written out -/
theorem Fine.all : ∀ (xs : List PyData) (w : Nat), (∀ x ∈ xs, Fine w x) → PyData.showableAll xs = true ∧ PyData.leavesShortAll 401 xs = true ∧ PyData.weightAll xs ≤ (w + 1) * xs.length ∧ PyData.hasDictAll xs = false
  | [], w, _ => ⟨rfl, rfl, Nat.zero_le _, rfl⟩
  | x :: xs, w, h => by
    obtain ⟨h1, h2, h3, h4⟩ := Fine.all xs w fun y m => h y (List.mem_cons_of_mem _ m)
    have hx := h x (List.mem_cons_self ..)
    refine ⟨?_, ?_, ?_, ?_⟩
    · simp only [PyData.showableAll, hx.sh, h1, Bool.and_true]
    · simp only [PyData.leavesShortAll, hx.lv, h2, Bool.and_true]
    · have := hx.wt
      show x.weight + 1 + PyData.weightAll xs ≤ _
      rw [List.length_cons, Nat.mul_succ]
      omega
    · simp only [PyData.hasDictAll, hx.nd, h4, Bool.or_false]
theorem Fine.list {w : Nat} {xs : List PyData} (h : ∀ x ∈ xs, Fine w x) : Fine ((w + 1) * xs.length) (.list xs) := by
  obtain ⟨h1, h2, h3, h4⟩ := Fine.all xs w h
  exact ⟨h1, h2, h3, h4⟩
structure Tn (x : PyData) : Prop where
  is : ∃ a b c d, x = T4 a b c d ∧ S4 400 a b c d
theorem Tn.t {a b c d : Int} (s : S4 400 a b c d) : Tn (T4 a b c d) := ⟨_, _, _, _, rfl, s⟩
theorem Tn.fine {x : PyData} (h : Tn x) : Fine 1608 x := by
  obtain ⟨a, b, c, d, rfl, s⟩ := h.is
  exact Fine.t4 s
theorem Tn.sok {x : PyData} (h : Tn x) : SOk x.shown := by
  obtain ⟨a, b, c, d, rfl, s⟩ := h.is
  exact sok_T4 a b c d
theorem Tn.dep {x : PyData} (h : Tn x) : x.depth = 1 := by
  obtain ⟨a, b, c, d, rfl, s⟩ := h.is
  rfl
theorem dep_all : ∀ (xs : List PyData), (∀ x ∈ xs, x.depth = 1) → PyData.depthAll xs ≤ 1
  | [], _ => Nat.zero_le _
  | x :: xs, h => by
    have h1 := dep_all xs fun y m => h y (List.mem_cons_of_mem _ m)
    have h2 := h x (List.mem_cons_self ..)
    show max x.depth (PyData.depthAll xs) ≤ 1
    omega
theorem shownAll_mem : ∀ {xs : List PyData} {t : Str}, t ∈ PyData.shownAll xs → ∃ x ∈ xs, t = x.shown
  | [], t, h => by cases h
  | x :: xs, t, h => by
    rcases List.mem_cons.mp (show t ∈ x.shown :: PyData.shownAll xs from h) with e | m
    · exact ⟨x, List.mem_cons_self .., e⟩
    · obtain ⟨y, hy, e⟩ := shownAll_mem m
      exact ⟨y, List.mem_cons_of_mem _ hy, e⟩
theorem sok_list {xs : List PyData} (h : ∀ x ∈ xs, SOk x.shown) : SOk (PyData.list xs).shown := SOk.list _ fun t m => by
  obtain ⟨x, hx, e⟩ := shownAll_mem m
  rw [e]; exact h x hx
theorem ne_str {x : Str} (h : SOk x) : gNe (.str x) (.str x) = some (.bool false) := by
  have e := eq_str h
  unfold gEq at e
  split at e
  · rename_i hs
    unfold gNe
    rw [if_pos hs]
    have e2 := PyData.bool.inj (Option.some.inj e)
    rw [e2]; rfl
  · cases e
theorem rep_list {xs : List PyData} (h : ∀ x ∈ xs, Tn x) (hl : xs.length ≤ 9) : ∃ t, gRepr [.list xs] = some (.str t) ∧ gNe (.str t) (.str t) = some (.bool false) ∧ gEq (.str t) (.str t) = some (.bool true) := by
  have hk : SOk (PyData.list xs).shown := sok_list fun x m => (h x m).sok
  refine ⟨(PyData.list xs).shown, if_pos (Fine.ok (Fine.list fun x m => (h x m).fine) ?_ ?_), ne_str hk, eq_str hk⟩
  · have : (1608 + 1) * xs.length ≤ (1608 + 1) * 9 := Nat.mul_le_mul_left _ hl
    omega
  · have := dep_all xs fun x m => (h x m).dep
    show PyData.depthAll xs + 1 ≤ 60
    omega
end K26


set_option Elab.async false
set_option linter.all false
set_option maxRecDepth 100000
set_option maxHeartbeats 400000
set_option exponentiation.threshold 20000
namespace K26
open PySem PySem.Spec L2 DL Q4
/-! quaternions as rows -/
structure H4 where
  (a b c d : Int)
theorem H4.ext' {x y : H4} (h1 : x.a = y.a) (h2 : x.b = y.b) (h3 : x.c = y.c) (h4 : x.d = y.d) : x = y := by
  cases x; cases y; cases h1; cases h2; cases h3; cases h4; rfl
def H4.m (x y : H4) : H4 := ⟨q0 x.a x.b x.c x.d y.a y.b y.c y.d, q1 x.a x.b x.c x.d y.a y.b y.c y.d, q2 x.a x.b x.c x.d y.a y.b y.c y.d, q3 x.a x.b x.c x.d y.a y.b y.c y.d⟩
def H4.s (k : Int) (x : H4) : H4 := ⟨k * x.a, k * x.b, k * x.c, k * x.d⟩
def H4.f (x : H4) : Int := fs x.a x.b x.c x.d
def H4.al (x : H4) : H4 := ⟨A x.a x.b x.c x.d x.a, A x.a x.b x.c x.d x.b, A x.a x.b x.c x.d x.c, A x.a x.b x.c x.d x.d⟩
abbrev H4.T (x : H4) : PyData := T4 x.a x.b x.c x.d
def H4.R (x : H4) : Prop := Red x.a x.b x.c x.d
def H4.S (n : Nat) (x : H4) : Prop := S4 n x.a x.b x.c x.d
def H4.one : H4 := ⟨1, 0, 0, 0⟩
theorem m_assoc (x y z : H4) : (x.m y).m z = x.m (y.m z) := by
  refine H4.ext' ?_ ?_ ?_ ?_ <;> simp only [H4.m, q0, q1, q2, q3] <;> grind
theorem m_sl (k : Int) (x y : H4) : (H4.s k x).m y = H4.s k (x.m y) := by
  refine H4.ext' ?_ ?_ ?_ ?_ <;> simp only [H4.m, H4.s, q0, q1, q2, q3] <;> grind
theorem m_sr (k : Int) (x y : H4) : x.m (H4.s k y) = H4.s k (x.m y) := by
  refine H4.ext' ?_ ?_ ?_ ?_ <;> simp only [H4.m, H4.s, q0, q1, q2, q3] <;> grind
theorem s_s (k l : Int) (x : H4) : H4.s k (H4.s l x) = H4.s (k * l) x := by
  refine H4.ext' ?_ ?_ ?_ ?_ <;> simp only [H4.s] <;> grind
theorem one_m (x : H4) : H4.one.m x = x := by
  refine H4.ext' ?_ ?_ ?_ ?_ <;> simp only [H4.m, H4.one, q0, q1, q2, q3] <;> grind
theorem m_one (x : H4) : x.m H4.one = x := by
  refine H4.ext' ?_ ?_ ?_ ?_ <;> simp only [H4.m, H4.one, q0, q1, q2, q3] <;> grind
theorem sq_nn (x : Int) : 0 ≤ x * x := by
  rcases Int.le_total 0 x with g | g
  · exact Int.mul_nonneg g g
  · exact Int.mul_nonneg_of_nonpos_of_nonpos g g
def H4.n (x : H4) : Int := x.a * x.a + x.b * x.b + x.c * x.c + x.d * x.d
theorem n_m (x y : H4) : (x.m y).n = x.n * y.n := by
  simp only [H4.n, H4.m, q0, q1, q2, q3]; grind
theorem n_pos {x : H4} (h : x.f ≠ 0) : 0 < x.n := by
  have h1 := sq_nn x.a
  have h2 := sq_nn x.b
  have h3 := sq_nn x.c
  have h4 := sq_nn x.d
  rcases Int.lt_or_eq_of_le (show 0 ≤ x.n by unfold H4.n; omega) with g | g
  · exact g
  · exfalso
    unfold H4.n at g
    have ea : x.a * x.a = 0 := by omega
    have eb : x.b * x.b = 0 := by omega
    have ec : x.c * x.c = 0 := by omega
    have ed : x.d * x.d = 0 := by omega
    have fa : x.a = 0 := by rcases Int.mul_eq_zero.mp ea with z | z <;> exact z
    have fb : x.b = 0 := by rcases Int.mul_eq_zero.mp eb with z | z <;> exact z
    have fc : x.c = 0 := by rcases Int.mul_eq_zero.mp ec with z | z <;> exact z
    have fd : x.d = 0 := by rcases Int.mul_eq_zero.mp ed with z | z <;> exact z
    apply h
    unfold H4.f
    rw [fa, fb, fc, fd]; rfl
theorem f_of_n {x : H4} (h : 0 < x.n) : x.f ≠ 0 := fun z => by
  have : x.a = 0 ∧ x.b = 0 ∧ x.c = 0 ∧ x.d = 0 := Classical.byContradiction fun n => fs_ne n z
  obtain ⟨ha, hb, hc, hd⟩ := this
  unfold H4.n at h
  rw [ha, hb, hc, hd] at h
  exact absurd h (by decide)
theorem f_m {x y : H4} (hx : x.f ≠ 0) (hy : y.f ≠ 0) : (x.m y).f ≠ 0 := f_of_n (by rw [n_m]; exact Int.mul_pos (n_pos hx) (n_pos hy))
theorem al_red {x : H4} (h : x.f ≠ 0) : x.al.R := red_A h
theorem R.f {x : H4} (h : x.R) : x.f ≠ 0 := Red.ne h
theorem al_out {x : H4} (h : x.f ≠ 0) : ∃ k : Int, k ≠ 0 ∧ x = H4.s k x.al := by
  obtain ⟨k, hk, h0, h1, h2, h3⟩ := A_out h
  exact ⟨k, hk, H4.ext' h0 h1 h2 h3⟩
theorem al_par {l N : Int} {u s : H4} (r : s.R) (hl : l ≠ 0) (hN : N ≠ 0) (h : H4.s l u = H4.s N s) : u.al = s := by
  have e : A4 u.a u.b u.c u.d = T4 s.a s.b s.c s.d := par_A r hl hN (congrArg H4.a h) (congrArg H4.b h) (congrArg H4.c h) (congrArg H4.d h)
  unfold A4 at e
  injection e with e
  injection e with e0 e
  injection e with e1 e
  injection e with e2 e
  injection e with e3 e
  injection e0 with e0
  injection e1 with e1
  injection e2 with e2
  injection e3 with e3
  exact H4.ext' e0 e1 e2 e3
theorem al_fix {s : H4} (r : s.R) : s.al = s := al_par r (by decide : (1 : Int) ≠ 0) (by decide) rfl
theorem S_m {m n : Nat} {x y : H4} (h : x.S m) (g : y.S n) : (x.m y).S (m + n + 3) := s4_q h g
theorem S_al {n : Nat} {x : H4} (h : x.S n) : x.al.S n := S4.A h
theorem one_R : H4.one.R := red_s
theorem one_S {n : Nat} (h : 1 ≤ n) : H4.one.S n := S4.mono (m := 1) (⟨by unfold Sm H4.one; decide, by unfold Sm H4.one; decide, by unfold Sm H4.one; decide, by unfold Sm H4.one; decide⟩) h
/-! powers -/
def pw (z : H4) : Nat → H4
  | 0 => H4.one
  | n + 1 => (z.m (pw z n)).al
def tp (z : H4) : Nat → H4
  | 0 => H4.one
  | n + 1 => z.m (tp z n)
theorem pw_R {z : H4} (h : z.R) : ∀ n, (pw z n).R
  | 0 => one_R
  | n + 1 => al_red (f_m (R.f h) (R.f (pw_R h n)))
theorem pw_S {z : H4} (h : z.S 10) : ∀ n, (pw z n).S (10 + 13 * n)
  | 0 => one_S (by decide)
  | n + 1 => by
    have := S_al (S_m h (pw_S h n))
    exact S4.mono this (by omega)
theorem tp_pw {z : H4} (h : z.R) : ∀ n, ∃ l : Int, l ≠ 0 ∧ tp z n = H4.s l (pw z n)
  | 0 => ⟨1, by decide, by simp only [tp, pw, H4.s, H4.one]; rfl⟩
  | n + 1 => by
    obtain ⟨l, hl, e⟩ := tp_pw h n
    obtain ⟨k, hk, e2⟩ := al_out (f_m (R.f h) (R.f (pw_R h n)))
    refine ⟨l * k, Int.mul_ne_zero hl hk, ?_⟩
    show z.m (tp z n) = H4.s (l * k) (z.m (pw z n)).al
    rw [e, m_sr, ← s_s, ← e2]
theorem tp_add (z : H4) : ∀ m n, (tp z m).m (tp z n) = tp z (m + n)
  | 0, n => by rw [Nat.zero_add]; exact one_m _
  | m + 1, n => by
    rw [show m + 1 + n = (m + n) + 1 from by omega]
    show (z.m (tp z m)).m (tp z n) = z.m (tp z (m + n))
    rw [m_assoc, tp_add z m n]
theorem pw_add {z : H4} (h : z.R) (m n : Nat) : ((pw z m).m (pw z n)).al = pw z (m + n) := by
  obtain ⟨l, hl, e⟩ := tp_pw h m
  obtain ⟨k, hk, e2⟩ := tp_pw h n
  obtain ⟨j, hj, e3⟩ := tp_pw h (m + n)
  have t := tp_add z m n
  rw [e, e2, e3, m_sl, m_sr, s_s] at t
  exact al_par (pw_R h _) (Int.mul_ne_zero hl hk) hj t
theorem pw_one {z : H4} (h : z.R) : pw z 1 = z := by
  show (z.m H4.one).al = z
  rw [m_one, al_fix h]
/-! back -/
def H4.cj (x : H4) : H4 := ⟨x.a, -x.b, -x.c, -x.d⟩
theorem cj_f {x : H4} (h : x.f ≠ 0) : x.cj.f ≠ 0 := f_of_n (by
  have := n_pos h
  have e : x.cj.n = x.n := by simp only [H4.n, H4.cj]; grind
  rw [e]; exact this)
theorem cj_m (x : H4) : x.cj.m x = H4.s x.n H4.one := by
  refine H4.ext' ?_ ?_ ?_ ?_ <;> simp only [H4.m, H4.s, H4.cj, H4.one, H4.n, q0, q1, q2, q3] <;> grind
theorem m_cj (x : H4) : x.m x.cj = H4.s x.n H4.one := by
  refine H4.ext' ?_ ?_ ?_ ?_ <;> simp only [H4.m, H4.s, H4.cj, H4.one, H4.n, q0, q1, q2, q3] <;> grind
theorem back_l {x : H4} (h : x.f ≠ 0) : (x.cj.al.m x).al = H4.one := by
  obtain ⟨k, hk, e⟩ := al_out (cj_f h)
  have t := cj_m x
  rw [e, m_sl] at t
  exact al_par one_R hk (by have := n_pos h; omega) t
theorem back_r {x : H4} (h : x.f ≠ 0) : (x.m x.cj.al).al = H4.one := by
  obtain ⟨k, hk, e⟩ := al_out (cj_f h)
  have t := m_cj x
  rw [e, m_sr] at t
  exact al_par one_R hk (by have := n_pos h; omega) t
end K26


set_option Elab.async false
set_option linter.all false
set_option maxRecDepth 100000
set_option maxHeartbeats 400000
set_option exponentiation.threshold 20000
namespace K26
open PySem PySem.Spec L2 DL Q4
theorem f_join {x y : H4} (r : x.R) (r2 : y.R) (s : x.S 400) (t : y.S 400) : F_joined_turns [.dat x.T, .dat y.T] [] = some (.dat (y.m x).al.T, []) := e_join r r2 s t
theorem f_both {x y : H4} (r : x.R) (r2 : y.R) (s : x.S 400) (t : y.S 400) : F__law_both [.dat x.T, .dat y.T] [] = some (.dat (y.m x).al.T, []) := e_lboth s t (f_m (R.f r2) (R.f r))
theorem f_lalong {x : H4} (h : x.f ≠ 0) (s : x.S 1000) : F__law_along [.dat x.T] [] = some (.dat x.al.T, []) := e_lalong R4.t s h
theorem f_along {x : H4} (s : x.S 1000) : F__along [.dat x.T] [] = some (.dat x.al.T, []) := e_along s
theorem f_check {x : H4} (r : x.R) : F_check_turn [.dat x.T] [] = some (.dat .none, []) := e_check r
theorem f_turn {x : H4} (r : x.R) : F_is_turn [.dat x.T] [] = some (.dat (.bool true), []) := e_turn r
theorem f_whole (i : Int) : F_is_whole [.dat (.int i)] [] = some (.dat (.bool true), []) := rfl
theorem f_most {n : Nat} (h : n ≤ 24) : F_check_whole_to [.dat (.int (n : Nat)), .dat (.int 24)] [] = some (.dat .none, []) := by
  have h1 : ¬ (((n : Nat) : Int) < 0) := by omega
  have h2 : ¬ ((24 : Int) < ((n : Nat) : Int)) := by omega
  simp only [mkF, fRet, fRetL, fRetN, fSkip, fSeq, fNever, fSet, fAsg, fNew, fIfS, fDrop, fPar, fSetc, fSetc2, fVar, fLit, fOp, fUn, fTup, fTup.datsOf, fLst, fNilA, fConsA, fCelA, fOfL, fTru, fAndT, fOrT, fNotT, fAndV, fOrV, fNotV, fIf, fBi, fCall, fCallL, fCallFr, callF, celOf, celsOk, norm, aName, aNil, aCons, aTup, setD, fSl, fIt, fItL, fItT, fFor, fLc, fYes, wipeD, fCix, fList, fSlL, fPart, fNoPart, fRng1, fRng2, List.length_cons, List.length_nil, List.getElem?_cons_zero, List.getElem?_cons_succ, List.getElem?_nil, List.set_cons_zero, List.set_cons_succ, List.map_cons, List.map_nil, List.cons_append, List.nil_append, List.append_nil, List.replicate, List.take_zero, List.take_nil, List.take_succ_cons, Option.bind_some, Option.map_some, Option.bind_none, Option.map_none, Nat.sub_self, Nat.reduceAdd, Nat.reduceSub, Nat.reduceLeDiff, Nat.zero_add, Nat.add_zero, and_self, and_true, true_and, if_true, if_false, reduceIte, ite_true, Bool.true_eq_false, Bool.false_eq_true, beq_self_eq_true, Bool.and_self, Bool.not_true, Bool.not_false, decide_true, decide_false, gLen, gTyIs, tyOf, gNeg, gPlus, DL.gSub, gCmp, gInt, gAbs, gTuple, gMax, gMin, gGcd, F_check_whole_to, b_check_whole_to, f_whole, h1, h2]
abbrev TB : FS := (fSet 2 (fCall F_joined_turns (fConsA (fVar 2) (fConsA (fVar 0) fNilA))))
abbrev PB : FS := (fSet 2 (fCall F__law_both (fConsA (fVar 2) (fConsA (fVar 0) fNilA))))
theorem loop_t {z : H4} (r : z.R) (s : z.S 10) (x1 : Option SV) : ∀ (ks : List Nat) (j : Nat) (x3 : Option SV), j + ks.length ≤ 24 → ∃ y3, forGo (aName 3) TB (ks.map fun i => PyData.int (0 + (i : Nat))) ⟨[some (.dat z.T), x1, some (.dat (pw z j).T), x3], []⟩ = some (.nx ⟨[some (.dat z.T), x1, some (.dat (pw z (j + ks.length)).T), y3], []⟩)
  | [], j, x3, _ => ⟨x3, rfl⟩
  | k :: ks, j, x3, h => by
    rw [List.length_cons] at h
    have e := f_join (pw_R r j) r ((pw_S s j).mono (by omega)) (s.mono (by decide))
    obtain ⟨y3, ih⟩ := loop_t r s x1 ks (j + 1) (some (.dat (.int (0 + (k : Nat))))) (by omega)
    refine ⟨y3, ?_⟩
    rw [show j + (k :: ks).length = j + 1 + ks.length from by rw [List.length_cons]; omega]
    rw [← ih]
    have st : TB ⟨[some (.dat z.T), x1, some (.dat (pw z j).T), some (.dat (.int (0 + (k : Nat))))], []⟩ = some (.nx ⟨[some (.dat z.T), x1, some (.dat (pw z (j + 1)).T), some (.dat (.int (0 + (k : Nat))))], []⟩) := by
      simp only [mkF, fRet, fRetL, fRetN, fSkip, fSeq, fNever, fSet, fAsg, fNew, fIfS, fDrop, fPar, fSetc, fSetc2, fVar, fLit, fOp, fUn, fTup, fTup.datsOf, fLst, fNilA, fConsA, fCelA, fOfL, fTru, fAndT, fOrT, fNotT, fAndV, fOrV, fNotV, fIf, fBi, fCall, fCallL, fCallFr, callF, celOf, celsOk, norm, aName, aNil, aCons, aTup, setD, fSl, fIt, fItL, fItT, fFor, fLc, fYes, wipeD, fCix, fList, fSlL, fPart, fNoPart, fRng1, fRng2, List.length_cons, List.length_nil, List.getElem?_cons_zero, List.getElem?_cons_succ, List.getElem?_nil, List.set_cons_zero, List.set_cons_succ, List.map_cons, List.map_nil, List.cons_append, List.nil_append, List.append_nil, List.replicate, List.take_zero, List.take_nil, List.take_succ_cons, Option.bind_some, Option.map_some, Option.bind_none, Option.map_none, Nat.sub_self, Nat.reduceAdd, Nat.reduceSub, Nat.reduceLeDiff, Nat.zero_add, Nat.add_zero, and_self, and_true, true_and, if_true, if_false, reduceIte, ite_true, Bool.true_eq_false, Bool.false_eq_true, beq_self_eq_true, Bool.and_self, Bool.not_true, Bool.not_false, decide_true, decide_false, gLen, gTyIs, tyOf, gNeg, gPlus, DL.gSub, gCmp, gInt, gAbs, gTuple, gMax, gMin, gGcd, e, LIM]
      rfl
    generalize TB = tb at st ⊢
    simp only [List.map_cons, forGo, aName, setD, List.set_cons_zero, List.set_cons_succ, Option.bind_some, st]
theorem loop_p {z : H4} (r : z.R) (s : z.S 10) (x1 : Option SV) : ∀ (ks : List Nat) (j : Nat) (x3 : Option SV), j + ks.length ≤ 24 → ∃ y3, forGo (aName 3) PB (ks.map fun i => PyData.int (0 + (i : Nat))) ⟨[some (.dat z.T), x1, some (.dat (pw z j).T), x3], []⟩ = some (.nx ⟨[some (.dat z.T), x1, some (.dat (pw z (j + ks.length)).T), y3], []⟩)
  | [], j, x3, _ => ⟨x3, rfl⟩
  | k :: ks, j, x3, h => by
    rw [List.length_cons] at h
    have e := f_both (pw_R r j) r ((pw_S s j).mono (by omega)) (s.mono (by decide))
    obtain ⟨y3, ih⟩ := loop_p r s x1 ks (j + 1) (some (.dat (.int (0 + (k : Nat))))) (by omega)
    refine ⟨y3, ?_⟩
    rw [show j + (k :: ks).length = j + 1 + ks.length from by rw [List.length_cons]; omega]
    rw [← ih]
    have st : PB ⟨[some (.dat z.T), x1, some (.dat (pw z j).T), some (.dat (.int (0 + (k : Nat))))], []⟩ = some (.nx ⟨[some (.dat z.T), x1, some (.dat (pw z (j + 1)).T), some (.dat (.int (0 + (k : Nat))))], []⟩) := by
      simp only [mkF, fRet, fRetL, fRetN, fSkip, fSeq, fNever, fSet, fAsg, fNew, fIfS, fDrop, fPar, fSetc, fSetc2, fVar, fLit, fOp, fUn, fTup, fTup.datsOf, fLst, fNilA, fConsA, fCelA, fOfL, fTru, fAndT, fOrT, fNotT, fAndV, fOrV, fNotV, fIf, fBi, fCall, fCallL, fCallFr, callF, celOf, celsOk, norm, aName, aNil, aCons, aTup, setD, fSl, fIt, fItL, fItT, fFor, fLc, fYes, wipeD, fCix, fList, fSlL, fPart, fNoPart, fRng1, fRng2, List.length_cons, List.length_nil, List.getElem?_cons_zero, List.getElem?_cons_succ, List.getElem?_nil, List.set_cons_zero, List.set_cons_succ, List.map_cons, List.map_nil, List.cons_append, List.nil_append, List.append_nil, List.replicate, List.take_zero, List.take_nil, List.take_succ_cons, Option.bind_some, Option.map_some, Option.bind_none, Option.map_none, Nat.sub_self, Nat.reduceAdd, Nat.reduceSub, Nat.reduceLeDiff, Nat.zero_add, Nat.add_zero, and_self, and_true, true_and, if_true, if_false, reduceIte, ite_true, Bool.true_eq_false, Bool.false_eq_true, beq_self_eq_true, Bool.and_self, Bool.not_true, Bool.not_false, decide_true, decide_false, gLen, gTyIs, tyOf, gNeg, gPlus, DL.gSub, gCmp, gInt, gAbs, gTuple, gMax, gMin, gGcd, e, LIM]
      rfl
    generalize PB = tb at st ⊢
    simp only [List.map_cons, forGo, aName, setD, List.set_cons_zero, List.set_cons_succ, Option.bind_some, st]
theorem rng_ok {n : Int} (h0 : 0 ≤ n) (h1 : n ≤ 1000) : rngOk n = true := by
  unfold rngOk
  rw [decide_eq_true_eq]
  omega
theorem rng1_eq {a : FA} {st : Sta} {j : Int} {c : Cs} (h : a st = some ([.dat (.int j)], c)) (b : Bool) (hb : rngOk j = b) : fRng1 a st = if b = true then some (rangeD 0 j.toNat, c) else none := by
  unfold fRng1
  rw [h, Option.bind_some]
  simp only [hb]
theorem rg_of {e : FE} {st : Sta} {c : Cs} {J : Nat} (h : e st = some (.int (J : Nat), c)) (hJ : J ≤ 1000) : fRng1 (fConsA e fNilA) st = some (rangeD 0 J, c) := by
  have e1 : fConsA e fNilA st = some ([.dat (.int (J : Nat))], c) := by
    simp only [fConsA, fNilA, h, Option.bind_some, Option.map_some]
  rw [rng1_eq e1 true (rng_ok (by omega) (by omega)), Int.toNat_natCast]
  rfl
theorem seq_rt {a b : FS} {st : Sta} {r : RV} {c : Cs} (h : a st = some (.rt r c)) : fSeq a b st = some (.rt r c) := by
  unfold fSeq; rw [h]; rfl
abbrev one4 : PyData := T4 1 0 0 0
theorem f_times {z : H4} (r : z.R) (s : z.S 10) {n : Nat} (hn : n ≤ 24) : F_turn_times [.dat z.T, .dat (.int (n : Nat))] [] = some (.dat (pw z n).T, []) := by
  have e0 : b_turn_times = (fSeq (fDrop (fCall F_check_turn (fConsA (fVar 0) fNilA))) (fSeq (fDrop (fCall F_check_whole_to (fConsA (fVar 1) (fConsA (fLit c__MOST_TIMES) fNilA)))) (fSeq (fSet 2 (fLit c__STILL)) (fSeq (fFor (fRng1 (fConsA (fVar 1) fNilA)) (aName 3) TB) (fRet (fVar 2)))))) := rfl
  have h1 := f_check r
  have h2 := f_most hn
  have hl : (List.range n).length = n := List.length_range
  obtain ⟨y3, lp⟩ := loop_t r s (some (.dat (.int (n : Nat)))) (List.range n) 0 none (by omega)
  rw [hl, Nat.zero_add] at lp
  have a1 : (fDrop (fCall F_check_turn (fConsA (fVar 0) fNilA))) ⟨[some (.dat z.T), some (.dat (.int (n : Nat))), none, none], []⟩ = some (.nx ⟨[some (.dat z.T), some (.dat (.int (n : Nat))), none, none], []⟩) := by
    simp only [mkF, fRet, fRetL, fRetN, fSkip, fSeq, fNever, fSet, fAsg, fNew, fIfS, fDrop, fPar, fSetc, fSetc2, fVar, fLit, fOp, fUn, fTup, fTup.datsOf, fLst, fNilA, fConsA, fCelA, fOfL, fTru, fAndT, fOrT, fNotT, fAndV, fOrV, fNotV, fIf, fBi, fCall, fCallL, fCallFr, callF, celOf, celsOk, norm, aName, aNil, aCons, aTup, setD, fSl, fIt, fItL, fItT, fFor, fLc, fYes, wipeD, fCix, fList, fSlL, fPart, fNoPart, fRng1, fRng2, List.length_cons, List.length_nil, List.getElem?_cons_zero, List.getElem?_cons_succ, List.getElem?_nil, List.set_cons_zero, List.set_cons_succ, List.map_cons, List.map_nil, List.cons_append, List.nil_append, List.append_nil, List.replicate, List.take_zero, List.take_nil, List.take_succ_cons, Option.bind_some, Option.map_some, Option.bind_none, Option.map_none, Nat.sub_self, Nat.reduceAdd, Nat.reduceSub, Nat.reduceLeDiff, Nat.zero_add, Nat.add_zero, and_self, and_true, true_and, if_true, if_false, reduceIte, ite_true, Bool.true_eq_false, Bool.false_eq_true, beq_self_eq_true, Bool.and_self, Bool.not_true, Bool.not_false, decide_true, decide_false, gLen, gTyIs, tyOf, gNeg, gPlus, DL.gSub, gCmp, gInt, gAbs, gTuple, gMax, gMin, gGcd, h1]
  have a2 : (fDrop (fCall F_check_whole_to (fConsA (fVar 1) (fConsA (fLit c__MOST_TIMES) fNilA)))) ⟨[some (.dat z.T), some (.dat (.int (n : Nat))), none, none], []⟩ = some (.nx ⟨[some (.dat z.T), some (.dat (.int (n : Nat))), none, none], []⟩) := by
    simp only [mkF, fRet, fRetL, fRetN, fSkip, fSeq, fNever, fSet, fAsg, fNew, fIfS, fDrop, fPar, fSetc, fSetc2, fVar, fLit, fOp, fUn, fTup, fTup.datsOf, fLst, fNilA, fConsA, fCelA, fOfL, fTru, fAndT, fOrT, fNotT, fAndV, fOrV, fNotV, fIf, fBi, fCall, fCallL, fCallFr, callF, celOf, celsOk, norm, aName, aNil, aCons, aTup, setD, fSl, fIt, fItL, fItT, fFor, fLc, fYes, wipeD, fCix, fList, fSlL, fPart, fNoPart, fRng1, fRng2, List.length_cons, List.length_nil, List.getElem?_cons_zero, List.getElem?_cons_succ, List.getElem?_nil, List.set_cons_zero, List.set_cons_succ, List.map_cons, List.map_nil, List.cons_append, List.nil_append, List.append_nil, List.replicate, List.take_zero, List.take_nil, List.take_succ_cons, Option.bind_some, Option.map_some, Option.bind_none, Option.map_none, Nat.sub_self, Nat.reduceAdd, Nat.reduceSub, Nat.reduceLeDiff, Nat.zero_add, Nat.add_zero, and_self, and_true, true_and, if_true, if_false, reduceIte, ite_true, Bool.true_eq_false, Bool.false_eq_true, beq_self_eq_true, Bool.and_self, Bool.not_true, Bool.not_false, decide_true, decide_false, gLen, gTyIs, tyOf, gNeg, gPlus, DL.gSub, gCmp, gInt, gAbs, gTuple, gMax, gMin, gGcd, c__MOST_TIMES, h2]
  have a3 : (fSet 2 (fLit c__STILL)) ⟨[some (.dat z.T), some (.dat (.int (n : Nat))), none, none], []⟩ = some (.nx ⟨[some (.dat z.T), some (.dat (.int (n : Nat))), some (.dat (pw z 0).T), none], []⟩) := rfl
  have a4 : (fFor (fRng1 (fConsA (fVar 1) fNilA)) (aName 3) TB) ⟨[some (.dat z.T), some (.dat (.int (n : Nat))), some (.dat (pw z 0).T), none], []⟩ = some (.nx ⟨[some (.dat z.T), some (.dat (.int (n : Nat))), some (.dat (pw z n).T), y3], []⟩) := by
    unfold fFor
    rw [rg_of (J := n) rfl (by omega)]
    exact lp
  have a5 : (fRet (fVar 2)) ⟨[some (.dat z.T), some (.dat (.int (n : Nat))), some (.dat (pw z n).T), y3], []⟩ = some (.rt (.dat (pw z n).T) []) := rfl
  have hall : b_turn_times ⟨[.dat z.T, .dat (.int (n : Nat))].map some ++ List.replicate (4 - 2) none, []⟩ = some (.rt (.dat (pw z n).T) []) := by
    rw [e0]
    exact (seq_nx a1).trans ((seq_nx a2).trans ((seq_nx a3).trans ((seq_nx a4).trans a5)))
  exact fn1 (n0 := 0) hall ⟨rfl, rfl⟩
theorem f_power {z : H4} (r : z.R) (s : z.S 10) {n : Nat} (hn : n ≤ 24) : F__law_power [.dat z.T, .dat (.int (n : Nat))] [] = some (.dat (pw z n).T, []) := by
  have e0 : b__law_power = (fSeq (fSet 2 (fTup (fConsA (fLit (.int 1)) (fConsA (fLit (.int 0)) (fConsA (fLit (.int 0)) (fConsA (fLit (.int 0)) fNilA)))))) (fSeq (fFor (fRng1 (fConsA (fVar 1) fNilA)) (aName 3) PB) (fRet (fVar 2)))) := rfl
  have hl : (List.range n).length = n := List.length_range
  obtain ⟨y3, lp⟩ := loop_p r s (some (.dat (.int (n : Nat)))) (List.range n) 0 none (by omega)
  rw [hl, Nat.zero_add] at lp
  have a3 : (fSet 2 (fTup (fConsA (fLit (.int 1)) (fConsA (fLit (.int 0)) (fConsA (fLit (.int 0)) (fConsA (fLit (.int 0)) fNilA)))))) ⟨[some (.dat z.T), some (.dat (.int (n : Nat))), none, none], []⟩ = some (.nx ⟨[some (.dat z.T), some (.dat (.int (n : Nat))), some (.dat (pw z 0).T), none], []⟩) := by
    simp only [mkF, fRet, fRetL, fRetN, fSkip, fSeq, fNever, fSet, fAsg, fNew, fIfS, fDrop, fPar, fSetc, fSetc2, fVar, fLit, fOp, fUn, fTup, fTup.datsOf, fLst, fNilA, fConsA, fCelA, fOfL, fTru, fAndT, fOrT, fNotT, fAndV, fOrV, fNotV, fIf, fBi, fCall, fCallL, fCallFr, callF, celOf, celsOk, norm, aName, aNil, aCons, aTup, setD, fSl, fIt, fItL, fItT, fFor, fLc, fYes, wipeD, fCix, fList, fSlL, fPart, fNoPart, fRng1, fRng2, List.length_cons, List.length_nil, List.getElem?_cons_zero, List.getElem?_cons_succ, List.getElem?_nil, List.set_cons_zero, List.set_cons_succ, List.map_cons, List.map_nil, List.cons_append, List.nil_append, List.append_nil, List.replicate, List.take_zero, List.take_nil, List.take_succ_cons, Option.bind_some, Option.map_some, Option.bind_none, Option.map_none, Nat.sub_self, Nat.reduceAdd, Nat.reduceSub, Nat.reduceLeDiff, Nat.zero_add, Nat.add_zero, and_self, and_true, true_and, if_true, if_false, reduceIte, ite_true, Bool.true_eq_false, Bool.false_eq_true, beq_self_eq_true, Bool.and_self, Bool.not_true, Bool.not_false, decide_true, decide_false, gLen, gTyIs, tyOf, gNeg, gPlus, DL.gSub, gCmp, gInt, gAbs, gTuple, gMax, gMin, gGcd, LIM]
    rfl
  have a4 : (fFor (fRng1 (fConsA (fVar 1) fNilA)) (aName 3) PB) ⟨[some (.dat z.T), some (.dat (.int (n : Nat))), some (.dat (pw z 0).T), none], []⟩ = some (.nx ⟨[some (.dat z.T), some (.dat (.int (n : Nat))), some (.dat (pw z n).T), y3], []⟩) := by
    unfold fFor
    rw [rg_of (J := n) rfl (by omega)]
    exact lp
  have a5 : (fRet (fVar 2)) ⟨[some (.dat z.T), some (.dat (.int (n : Nat))), some (.dat (pw z n).T), y3], []⟩ = some (.rt (.dat (pw z n).T) []) := rfl
  have hall : b__law_power ⟨[.dat z.T, .dat (.int (n : Nat))].map some ++ List.replicate (4 - 2) none, []⟩ = some (.rt (.dat (pw z n).T) []) := by
    rw [e0]
    exact (seq_nx a3).trans ((seq_nx a4).trans a5)
  exact fn1 (n0 := 0) hall ⟨rfl, rfl⟩
theorem f_back {x : H4} (r : x.R) (s : x.S 400) : F_turn_back [.dat x.T] [] = some (.dat x.cj.al.T, []) := by
  have h1 := f_check r
  have h2 : x.cj.S 1000 := S4.mono (m := 400) ⟨s.1, by have := s.2.1; unfold Sm H4.cj at *; show (-x.b).natAbs < _; omega, by have := s.2.2.1; unfold Sm H4.cj at *; show (-x.c).natAbs < _; omega, by have := s.2.2.2; unfold Sm H4.cj at *; show (-x.d).natAbs < _; omega⟩ (by decide)
  have h3 := f_along h2
  unfold H4.cj at h3 ⊢
  simp only [mkF, fRet, fRetL, fRetN, fSkip, fSeq, fNever, fSet, fAsg, fNew, fIfS, fDrop, fPar, fSetc, fSetc2, fVar, fLit, fOp, fUn, fTup, fTup.datsOf, fLst, fNilA, fConsA, fCelA, fOfL, fTru, fAndT, fOrT, fNotT, fAndV, fOrV, fNotV, fIf, fBi, fCall, fCallL, fCallFr, callF, celOf, celsOk, norm, aName, aNil, aCons, aTup, setD, fSl, fIt, fItL, fItT, fFor, fLc, fYes, wipeD, fCix, fList, fSlL, fPart, fNoPart, fRng1, fRng2, List.length_cons, List.length_nil, List.getElem?_cons_zero, List.getElem?_cons_succ, List.getElem?_nil, List.set_cons_zero, List.set_cons_succ, List.map_cons, List.map_nil, List.cons_append, List.nil_append, List.append_nil, List.replicate, List.take_zero, List.take_nil, List.take_succ_cons, Option.bind_some, Option.map_some, Option.bind_none, Option.map_none, Nat.sub_self, Nat.reduceAdd, Nat.reduceSub, Nat.reduceLeDiff, Nat.zero_add, Nat.add_zero, and_self, and_true, true_and, if_true, if_false, reduceIte, ite_true, Bool.true_eq_false, Bool.false_eq_true, beq_self_eq_true, Bool.and_self, Bool.not_true, Bool.not_false, decide_true, decide_false, gLen, gTyIs, tyOf, gNeg, gPlus, DL.gSub, gCmp, gInt, gAbs, gTuple, gMax, gMin, gGcd, F_turn_back, b_turn_back, h1, h3, LIM]
end K26


set_option Elab.async false
set_option linter.all false
set_option maxRecDepth 100000
set_option maxHeartbeats 400000
set_option exponentiation.threshold 20000
namespace K26
open PySem PySem.Spec L2 DL Q4
theorem neT_null {a b c d : Int} : gNe (T4 a b c d) (T4 0 0 0 0) = some (.bool (decide (¬ (a = 0 ∧ b = 0 ∧ c = 0 ∧ d = 0)))) := by
  rw [ne44]
  congr 2
  by_cases h : a = 0 ∧ b = 0 ∧ c = 0 ∧ d = 0
  · obtain ⟨rfl, rfl, rfl, rfl⟩ := h
    rfl
  · rw [decide_eq_true h]
    by_cases ha : a = 0
    · by_cases hb : b = 0
      · by_cases hc : c = 0
        · have hd : d ≠ 0 := fun z => h ⟨ha, hb, hc, z⟩
          simp [hd]
        · simp [hc]
      · simp [hb]
    · simp [ha]
theorem e_four {k : Nat} {a s n : Int} (hs : Src k a s n) (hk : k ≤ 800) : ∃ (x : H4) (a' s' n' : Int), F__law_four [.cel 0] [L3 a s n] = some (.dat x.T, [L3 a' s' n']) ∧ Src (k + 9) a' s' n' ∧ x.f ≠ 0 ∧ x.S 60 := by
  obtain ⟨y, a2, s2, n2, e2, g2, hy⟩ := e_pick (xs := [.int 1, .int 2, .int 3, .int 9, .int 1000, .int 0]) hs (by omega) (by decide) (by decide)
  have hm : ∃ m : Int, y = .int m ∧ 0 ≤ m ∧ m ≤ 1000 := by
    simp only [List.mem_cons, List.not_mem_nil, or_false] at hy
    rcases hy with rfl | rfl | rfl | rfl | rfl | rfl <;> exact ⟨_, rfl, by decide, by decide⟩
  obtain ⟨m, rfl, m0, m1⟩ := hm
  obtain ⟨p, a3, s3, n3, e3, g3, p1⟩ := e_number g2 (by omega) m0 m1
  obtain ⟨q, a4, s4, n4, e4, g4, q1⟩ := e_number g3 (by omega) m0 m1
  obtain ⟨r, a5, s5, n5, e5, g5, r1⟩ := e_number g4 (by omega) m0 m1
  obtain ⟨t, a6, s6, n6, e6, g6, t1⟩ := e_number g5 (by omega) m0 m1
  by_cases hz : p = 0 ∧ q = 0 ∧ r = 0 ∧ t = 0
  · refine ⟨⟨0, 0, -5, 0⟩, a6, s6, n6, ?_, g6.up (by omega), by unfold H4.f fs; decide, ⟨by unfold Sm; decide, by unfold Sm; decide, by unfold Sm; decide, by unfold Sm; decide⟩⟩
    have h : gNe (T4 p q r t) (T4 0 0 0 0) = some (.bool false) := by rw [neT_null, decide_eq_false (fun n => n hz)]
    simp only [mkF, fRet, fRetL, fRetN, fSkip, fSeq, fNever, fSet, fAsg, fNew, fIfS, fDrop, fPar, fSetc, fSetc2, fVar, fLit, fOp, fUn, fTup, fTup.datsOf, fLst, fNilA, fConsA, fCelA, fOfL, fTru, fAndT, fOrT, fNotT, fAndV, fOrV, fNotV, fIf, fBi, fCall, fCallL, fCallFr, callF, celOf, celsOk, norm, aName, aNil, aCons, aTup, setD, fSl, fIt, fItL, fItT, fFor, fLc, fYes, wipeD, fCix, fList, fSlL, fPart, fNoPart, fRng1, fRng2, List.length_cons, List.length_nil, List.getElem?_cons_zero, List.getElem?_cons_succ, List.getElem?_nil, List.set_cons_zero, List.set_cons_succ, List.map_cons, List.map_nil, List.cons_append, List.nil_append, List.append_nil, List.replicate, List.take_zero, List.take_nil, List.take_succ_cons, Option.bind_some, Option.map_some, Option.bind_none, Option.map_none, Nat.sub_self, Nat.reduceAdd, Nat.reduceSub, Nat.reduceLeDiff, Nat.zero_add, Nat.add_zero, and_self, and_true, true_and, if_true, if_false, reduceIte, ite_true, Bool.true_eq_false, Bool.false_eq_true, beq_self_eq_true, Bool.and_self, Bool.not_true, Bool.not_false, decide_true, decide_false, gLen, gTyIs, tyOf, gNeg, gPlus, DL.gSub, gCmp, gInt, gAbs, gTuple, gMax, gMin, gGcd, F__law_four, b__law_four, e2, lcGo, rng4, rd4, e3, e4, e5, e6, h, LIM]
  · refine ⟨⟨p, q, r, t⟩, a6, s6, n6, ?_, g6.up (by omega), fs_ne hz, s4_small p1 q1 r1 t1⟩
    have h : gNe (T4 p q r t) (T4 0 0 0 0) = some (.bool true) := by rw [neT_null, decide_eq_true hz]
    simp only [mkF, fRet, fRetL, fRetN, fSkip, fSeq, fNever, fSet, fAsg, fNew, fIfS, fDrop, fPar, fSetc, fSetc2, fVar, fLit, fOp, fUn, fTup, fTup.datsOf, fLst, fNilA, fConsA, fCelA, fOfL, fTru, fAndT, fOrT, fNotT, fAndV, fOrV, fNotV, fIf, fBi, fCall, fCallL, fCallFr, callF, celOf, celsOk, norm, aName, aNil, aCons, aTup, setD, fSl, fIt, fItL, fItT, fFor, fLc, fYes, wipeD, fCix, fList, fSlL, fPart, fNoPart, fRng1, fRng2, List.length_cons, List.length_nil, List.getElem?_cons_zero, List.getElem?_cons_succ, List.getElem?_nil, List.set_cons_zero, List.set_cons_succ, List.map_cons, List.map_nil, List.cons_append, List.nil_append, List.append_nil, List.replicate, List.take_zero, List.take_nil, List.take_succ_cons, Option.bind_some, Option.map_some, Option.bind_none, Option.map_none, Nat.sub_self, Nat.reduceAdd, Nat.reduceSub, Nat.reduceLeDiff, Nat.zero_add, Nat.add_zero, and_self, and_true, true_and, if_true, if_false, reduceIte, ite_true, Bool.true_eq_false, Bool.false_eq_true, beq_self_eq_true, Bool.and_self, Bool.not_true, Bool.not_false, decide_true, decide_false, gLen, gTyIs, tyOf, gNeg, gPlus, DL.gSub, gCmp, gInt, gAbs, gTuple, gMax, gMin, gGcd, F__law_four, b__law_four, e2, lcGo, rng4, rd4, e3, e4, e5, e6, h, LIM]
theorem f_talong {x : H4} (h : x.f ≠ 0) (s : x.S 1000) : F_turn_along [.dat x.T] [] = some (.dat x.al.T, []) := by
  have h0 : (x.f == 0) = false := beq_eq_false_iff_ne.mpr h
  have h1 := f_along s
  have h2 := e_row x.a x.b x.c x.d
  have h3 := e_fs x.a x.b x.c x.d
  unfold H4.f at h0
  simp only [mkF, fRet, fRetL, fRetN, fSkip, fSeq, fNever, fSet, fAsg, fNew, fIfS, fDrop, fPar, fSetc, fSetc2, fVar, fLit, fOp, fUn, fTup, fTup.datsOf, fLst, fNilA, fConsA, fCelA, fOfL, fTru, fAndT, fOrT, fNotT, fAndV, fOrV, fNotV, fIf, fBi, fCall, fCallL, fCallFr, callF, celOf, celsOk, norm, aName, aNil, aCons, aTup, setD, fSl, fIt, fItL, fItT, fFor, fLc, fYes, wipeD, fCix, fList, fSlL, fPart, fNoPart, fRng1, fRng2, List.length_cons, List.length_nil, List.getElem?_cons_zero, List.getElem?_cons_succ, List.getElem?_nil, List.set_cons_zero, List.set_cons_succ, List.map_cons, List.map_nil, List.cons_append, List.nil_append, List.append_nil, List.replicate, List.take_zero, List.take_nil, List.take_succ_cons, Option.bind_some, Option.map_some, Option.bind_none, Option.map_none, Nat.sub_self, Nat.reduceAdd, Nat.reduceSub, Nat.reduceLeDiff, Nat.zero_add, Nat.add_zero, and_self, and_true, true_and, if_true, if_false, reduceIte, ite_true, Bool.true_eq_false, Bool.false_eq_true, beq_self_eq_true, Bool.and_self, Bool.not_true, Bool.not_false, decide_true, decide_false, gLen, gTyIs, tyOf, gNeg, gPlus, DL.gSub, gCmp, gInt, gAbs, gTuple, gMax, gMin, gGcd, F_turn_along, b_turn_along, h1, h2, h3, gEq_int, h0]
theorem al_mul {k : Int} {x : H4} (hk : k ≠ 0) (h : x.f ≠ 0) : (H4.s k x).al = x.al := by
  obtain ⟨j, hj, e⟩ := al_out h
  have e2 : H4.s 1 (H4.s k x) = H4.s (k * j) x.al := by
    conv => lhs; rw [e]
    rw [s_s, s_s, Int.one_mul]
  exact al_par (al_red h) (by decide : (1 : Int) ≠ 0) (Int.mul_ne_zero hk hj) e2
theorem f_s {k : Int} {x : H4} (hk : k ≠ 0) (h : x.f ≠ 0) : (H4.s k x).f ≠ 0 := by
  unfold H4.f H4.s
  rw [fs_mul hk]
  exact Int.mul_ne_zero hk h
/-! what is no turn -/
theorem bad_minus {x : H4} (r : x.R) : F_is_turn [.dat (T4 (0 - x.a) (0 - x.b) (0 - x.c) (0 - x.d))] [] = some (.dat (.bool false), []) := by
  have e1 : fs (0 - x.a) (0 - x.b) (0 - x.c) (0 - x.d) = -fs x.a x.b x.c x.d := by
    have := fs_mul (by decide : (-1 : Int) ≠ 0) x.a x.b x.c x.d
    rw [show (0 - x.a) = -1 * x.a by omega, show (0 - x.b) = -1 * x.b by omega, show (0 - x.c) = -1 * x.c by omega, show (0 - x.d) = -1 * x.d by omega, this]
    omega
  have e2 : g4 (0 - x.a) (0 - x.b) (0 - x.c) (0 - x.d) = 1 := by
    have := g4_mul (-1) x.a x.b x.c x.d
    rw [show (0 - x.a) = -1 * x.a by omega, show (0 - x.b) = -1 * x.b by omega, show (0 - x.c) = -1 * x.c by omega, show (0 - x.d) = -1 * x.d by omega, this, r.one]
    rfl
  have h1 : ((g4 (0 - x.a) (0 - x.b) (0 - x.c) (0 - x.d) : Int) == 1) = true := by rw [e2]; rfl
  have h2 : ¬ (0 < fs (0 - x.a) (0 - x.b) (0 - x.c) (0 - x.d)) := by have := r.pos; omega
  simp only [mkF, fRet, fRetL, fRetN, fSkip, fSeq, fNever, fSet, fAsg, fNew, fIfS, fDrop, fPar, fSetc, fSetc2, fVar, fLit, fOp, fUn, fTup, fTup.datsOf, fLst, fNilA, fConsA, fCelA, fOfL, fTru, fAndT, fOrT, fNotT, fAndV, fOrV, fNotV, fIf, fBi, fCall, fCallL, fCallFr, callF, celOf, celsOk, norm, aName, aNil, aCons, aTup, setD, fSl, fIt, fItL, fItT, fFor, fLc, fYes, wipeD, fCix, fList, fSlL, fPart, fNoPart, fRng1, fRng2, List.length_cons, List.length_nil, List.getElem?_cons_zero, List.getElem?_cons_succ, List.getElem?_nil, List.set_cons_zero, List.set_cons_succ, List.map_cons, List.map_nil, List.cons_append, List.nil_append, List.append_nil, List.replicate, List.take_zero, List.take_nil, List.take_succ_cons, Option.bind_some, Option.map_some, Option.bind_none, Option.map_none, Nat.sub_self, Nat.reduceAdd, Nat.reduceSub, Nat.reduceLeDiff, Nat.zero_add, Nat.add_zero, and_self, and_true, true_and, if_true, if_false, reduceIte, ite_true, Bool.true_eq_false, Bool.false_eq_true, beq_self_eq_true, Bool.and_self, Bool.not_true, Bool.not_false, decide_true, decide_false, gLen, gTyIs, tyOf, gNeg, gPlus, DL.gSub, gCmp, gInt, gAbs, gTuple, gMax, gMin, gGcd, F_is_turn, b_is_turn, e_rrow, e_fs, h1, h2]
theorem bad_two {x : H4} (r : x.R) : F_is_turn [.dat (T4 (2 * x.a) (2 * x.b) (2 * x.c) (2 * x.d))] [] = some (.dat (.bool false), []) := by
  have e2 : g4 (2 * x.a) (2 * x.b) (2 * x.c) (2 * x.d) = 2 := by
    rw [g4_mul, r.one]
    rfl
  have h1 : ((g4 (2 * x.a) (2 * x.b) (2 * x.c) (2 * x.d) : Int) == 1) = false := by rw [e2]; rfl
  simp only [mkF, fRet, fRetL, fRetN, fSkip, fSeq, fNever, fSet, fAsg, fNew, fIfS, fDrop, fPar, fSetc, fSetc2, fVar, fLit, fOp, fUn, fTup, fTup.datsOf, fLst, fNilA, fConsA, fCelA, fOfL, fTru, fAndT, fOrT, fNotT, fAndV, fOrV, fNotV, fIf, fBi, fCall, fCallL, fCallFr, callF, celOf, celsOk, norm, aName, aNil, aCons, aTup, setD, fSl, fIt, fItL, fItT, fFor, fLc, fYes, wipeD, fCix, fList, fSlL, fPart, fNoPart, fRng1, fRng2, List.length_cons, List.length_nil, List.getElem?_cons_zero, List.getElem?_cons_succ, List.getElem?_nil, List.set_cons_zero, List.set_cons_succ, List.map_cons, List.map_nil, List.cons_append, List.nil_append, List.append_nil, List.replicate, List.take_zero, List.take_nil, List.take_succ_cons, Option.bind_some, Option.map_some, Option.bind_none, Option.map_none, Nat.sub_self, Nat.reduceAdd, Nat.reduceSub, Nat.reduceLeDiff, Nat.zero_add, Nat.add_zero, and_self, and_true, true_and, if_true, if_false, reduceIte, ite_true, Bool.true_eq_false, Bool.false_eq_true, beq_self_eq_true, Bool.and_self, Bool.not_true, Bool.not_false, decide_true, decide_false, gLen, gTyIs, tyOf, gNeg, gPlus, DL.gSub, gCmp, gInt, gAbs, gTuple, gMax, gMin, gGcd, F_is_turn, b_is_turn, e_rrow, h1]
theorem bad_list (a b c d : Int) : F_is_turn [.dat (L4 a b c d)] [] = some (.dat (.bool false), []) := rfl
theorem bad_five (a b c d e : Int) : F_is_turn [.dat (.tuple [.int a, .int b, .int c, .int d, .int e])] [] = some (.dat (.bool false), []) := rfl
theorem bad_three (a b c : Int) : F_is_turn [.dat (.tuple [.int a, .int b, .int c])] [] = some (.dat (.bool false), []) := rfl
theorem bad_zero : F_is_turn [.dat (T4 0 0 0 0)] [] = some (.dat (.bool false), []) := by
  have h1 : ((g4 0 0 0 0 : Int) == 1) = false := rfl
  simp only [mkF, fRet, fRetL, fRetN, fSkip, fSeq, fNever, fSet, fAsg, fNew, fIfS, fDrop, fPar, fSetc, fSetc2, fVar, fLit, fOp, fUn, fTup, fTup.datsOf, fLst, fNilA, fConsA, fCelA, fOfL, fTru, fAndT, fOrT, fNotT, fAndV, fOrV, fNotV, fIf, fBi, fCall, fCallL, fCallFr, callF, celOf, celsOk, norm, aName, aNil, aCons, aTup, setD, fSl, fIt, fItL, fItT, fFor, fLc, fYes, wipeD, fCix, fList, fSlL, fPart, fNoPart, fRng1, fRng2, List.length_cons, List.length_nil, List.getElem?_cons_zero, List.getElem?_cons_succ, List.getElem?_nil, List.set_cons_zero, List.set_cons_succ, List.map_cons, List.map_nil, List.cons_append, List.nil_append, List.append_nil, List.replicate, List.take_zero, List.take_nil, List.take_succ_cons, Option.bind_some, Option.map_some, Option.bind_none, Option.map_none, Nat.sub_self, Nat.reduceAdd, Nat.reduceSub, Nat.reduceLeDiff, Nat.zero_add, Nat.add_zero, and_self, and_true, true_and, if_true, if_false, reduceIte, ite_true, Bool.true_eq_false, Bool.false_eq_true, beq_self_eq_true, Bool.and_self, Bool.not_true, Bool.not_false, decide_true, decide_false, gLen, gTyIs, tyOf, gNeg, gPlus, DL.gSub, gCmp, gInt, gAbs, gTuple, gMax, gMin, gGcd, F_is_turn, b_is_turn, e_rrow, h1]
theorem bad_bool : F_is_turn [.dat (.tuple [.bool true, .int 0, .int 0, .int 0])] [] = some (.dat (.bool false), []) := rfl
theorem bad_none : F_is_turn [.dat .none] [] = some (.dat (.bool false), []) := rfl
theorem bad_str : F_is_turn [.dat (.str "1000")] [] = some (.dat (.bool false), []) := rfl
end K26


set_option Elab.async false
set_option linter.all false
set_option maxRecDepth 100000
set_option maxHeartbeats 400000
set_option exponentiation.threshold 20000
namespace K26
open PySem PySem.Spec L2 DL Q4
structure Bn (x : PyData) : Prop where
  is : ∃ b, x = .bool b
theorem rep_bools {xs : List PyData} (h : ∀ x ∈ xs, Bn x) (hl : xs.length ≤ 20) : ∃ t, gRepr [.list xs] = some (.str t) ∧ gNe (.str t) (.str t) = some (.bool false) ∧ gEq (.str t) (.str t) = some (.bool true) := by
  have hk : SOk (PyData.list xs).shown := sok_list fun x m => by
    obtain ⟨b, rfl⟩ := (h x m).is
    cases b <;> exact SOk.str _
  refine ⟨(PyData.list xs).shown, if_pos (Fine.ok (w := (0 + 1) * xs.length) (Fine.list fun x m => ?_) ?_ ?_), ne_str hk, eq_str hk⟩
  · obtain ⟨b, rfl⟩ := (h x m).is
    exact ⟨rfl, rfl, Nat.le_refl _, rfl⟩
  · omega
  · have : PyData.depthAll xs ≤ 1 := by
      clear hl hk
      induction xs with
      | nil => exact Nat.zero_le _
      | cons x xs ih =>
        have h1 := ih fun y m => h y (List.mem_cons_of_mem _ m)
        obtain ⟨b, rfl⟩ := (h x (List.mem_cons_self ..)).is
        show max 0 (PyData.depthAll xs) ≤ 1
        omega
    show PyData.depthAll xs + 1 ≤ 60
    omega
theorem cut3 (a b c d : PyData) : cutD [a, b, c, d] none (some 3) = [a, b, c] := rfl
theorem rep9 : (List.replicate (Int.toNat 9) [PyData.bool false]).flatten = [.bool false, .bool false, .bool false, .bool false, .bool false, .bool false, .bool false, .bool false, .bool false] := rfl
theorem le9 : (1 * Int.toNat 9 ≤ 100000) = True := eq_true (by decide)
theorem rng9 : rngOk 9 = true := rng_ok (by decide) (by decide)
abbrev BL : List PyData := [.bool true, .bool true, .bool false, .bool false, .bool false, .bool false, .bool false, .bool false, .bool false, .bool false, .bool false]
theorem bl_ok : ∃ t, gRepr [.list BL] = some (.str t) ∧ gNe (.str t) (.str t) = some (.bool false) ∧ gEq (.str t) (.str t) = some (.bool true) := rep_bools (fun x m => by
  simp only [BL, List.mem_cons, List.not_mem_nil, or_false] at m
  rcases m with rfl | rfl | rfl | rfl | rfl | rfl | rfl | rfl | rfl | rfl | rfl <;> exact ⟨_, rfl⟩) (by decide)
theorem f_told {x : H4} (r : x.R) (s : x.S 400) : F__law_are_told [.dat x.T] [] = some (.dat (.bool true), []) := by
  obtain ⟨t, t1, t2, t3⟩ := bl_ok
  have h1 := f_turn r
  have h2 := bad_minus r
  have h3 := bad_two r
  have h4 := bad_list x.a x.b x.c x.d
  have h5 := bad_five x.a x.b x.c x.d 0
  have h6 := bad_three x.a x.b x.c
  have m2 : Sm 1000 2 := sm_of (by decide) (by decide)
  obtain ⟨s1, s2, s3, s4⟩ := S4.mono s (by decide : 400 ≤ 1000)
  simp only [mkF, fRet, fRetL, fRetN, fSkip, fSeq, fNever, fSet, fAsg, fNew, fIfS, fDrop, fPar, fSetc, fSetc2, fVar, fLit, fOp, fUn, fTup, fTup.datsOf, fLst, fNilA, fConsA, fCelA, fOfL, fTru, fAndT, fOrT, fNotT, fAndV, fOrV, fNotV, fIf, fBi, fCall, fCallL, fCallFr, callF, celOf, celsOk, norm, aName, aNil, aCons, aTup, setD, fSl, fIt, fItL, fItT, fFor, fLc, fYes, wipeD, fCix, fList, fSlL, fPart, fNoPart, fRng1, fRng2, List.length_cons, List.length_nil, List.getElem?_cons_zero, List.getElem?_cons_succ, List.getElem?_nil, List.set_cons_zero, List.set_cons_succ, List.map_cons, List.map_nil, List.cons_append, List.nil_append, List.append_nil, List.replicate, List.take_zero, List.take_nil, List.take_succ_cons, Option.bind_some, Option.map_some, Option.bind_none, Option.map_none, Nat.sub_self, Nat.reduceAdd, Nat.reduceSub, Nat.reduceLeDiff, Nat.zero_add, Nat.add_zero, and_self, and_true, true_and, if_true, if_false, reduceIte, ite_true, Bool.true_eq_false, Bool.false_eq_true, beq_self_eq_true, Bool.and_self, Bool.not_true, Bool.not_false, decide_true, decide_false, gLen, gTyIs, tyOf, gNeg, gPlus, DL.gSub, gCmp, gInt, gAbs, gTuple, gMax, gMin, gGcd, F__law_are_told, b__law_are_told, lcGo, gMul_ok m2, s1, s2, s3, s4, fRep, cut3, rep9, rng9, le9, h1, h2, h3, h4, h5, h6, bad_zero, bad_bool, bad_none, bad_str, t1, t3, LIM]
end K26


set_option Elab.async false
set_option linter.all false
set_option maxRecDepth 100000
set_option maxHeartbeats 400000
set_option exponentiation.threshold 20000
namespace K26
open PySem PySem.Spec L2 DL Q4
/-! kinds and settings -/
structure Kd (x : H4) : Prop where
  one : g4 x.a x.b x.c x.d = 1
  pos : 0 < x.d
  sq : x.a * x.a + x.b * x.b + x.c * x.c = x.d * x.d
  sm : x.S 60
abbrev T2 (a b : Int) : PyData := .tuple [.int a, .int b]
def g2 (a b : Int) : Nat := Nat.gcd (Nat.gcd 0 a.natAbs) b.natAbs
structure St (a b : Int) : Prop where
  one : g2 a b = 1
  ok : 0 < b ∨ (a = 1 ∧ b = 0)
  s1 : Sm 60 a
  s2 : Sm 60 b
theorem ix3 {a b c d : PyData} : gIx (.tuple [a, b, c, d]) (.int 3) = some d := rfl
theorem ix40 {a b c d : PyData} : gIx (.tuple [a, b, c, d]) (.int 0) = some a := rfl
theorem ix41 {a b c d : PyData} : gIx (.tuple [a, b, c, d]) (.int 1) = some b := rfl
theorem ix42 {a b c d : PyData} : gIx (.tuple [a, b, c, d]) (.int 2) = some c := rfl
theorem e_dot3 {a b c d e f : Int} (ha : Sm 1000 a) (hb : Sm 1000 b) (hc : Sm 1000 c) (hd : Sm 1000 d) (he : Sm 1000 e) (hf : Sm 1000 f) : F_dot [.dat (.tuple [.int a, .int b, .int c]), .dat (.tuple [.int d, .int e, .int f])] [] = some (.dat (.int ([a * d, b * e, c * f] : List Int).sum), []) := by
  simp only [mkF, fRet, fRetL, fRetN, fSkip, fSeq, fNever, fSet, fAsg, fNew, fIfS, fDrop, fPar, fSetc, fSetc2, fVar, fLit, fOp, fUn, fTup, fTup.datsOf, fLst, fNilA, fConsA, fCelA, fOfL, fTru, fAndT, fOrT, fNotT, fAndV, fOrV, fNotV, fIf, fBi, fCall, fCallL, fCallFr, callF, celOf, celsOk, norm, aName, aNil, aCons, aTup, setD, fSl, fIt, fItL, fItT, fFor, fLc, fYes, wipeD, fCix, fList, fSlL, fPart, fNoPart, fRng1, fRng2, List.length_cons, List.length_nil, List.getElem?_cons_zero, List.getElem?_cons_succ, List.getElem?_nil, List.set_cons_zero, List.set_cons_succ, List.map_cons, List.map_nil, List.cons_append, List.nil_append, List.append_nil, List.replicate, List.take_zero, List.take_nil, List.take_succ_cons, Option.bind_some, Option.map_some, Option.bind_none, Option.map_none, Nat.sub_self, Nat.reduceAdd, Nat.reduceSub, Nat.reduceLeDiff, Nat.zero_add, Nat.add_zero, and_self, and_true, true_and, if_true, if_false, reduceIte, ite_true, Bool.true_eq_false, Bool.false_eq_true, beq_self_eq_true, Bool.and_self, Bool.not_true, Bool.not_false, decide_true, decide_false, gLen, gTyIs, tyOf, gNeg, gPlus, DL.gSub, gCmp, gInt, gAbs, gTuple, gMax, gMin, gGcd, F_dot, b_dot, fZip, zipD, lcGo, gMul_ok, ha, hb, hc, hd, he, hf, gSum, intsOf, LIM]
theorem sum3 (a b c : Int) : ([a, b, c] : List Int).sum = a + b + c := by
  simp only [List.sum_cons, List.sum_nil]; omega
theorem f_kind {x : H4} (h : Kd x) : F_is_kind [.dat x.T] [] = some (.dat (.bool true), []) := by
  have h1 : ((g4 x.a x.b x.c x.d : Int) == 1) = true := by rw [h.one]; rfl
  have h2 := h.pos
  obtain ⟨s1, s2, s3, s4⟩ := S4.mono h.sm (by decide : 60 ≤ 1000)
  have h3 := e_dot3 s1 s2 s3 s1 s2 s3
  rw [sum3, h.sq] at h3
  simp only [mkF, fRet, fRetL, fRetN, fSkip, fSeq, fNever, fSet, fAsg, fNew, fIfS, fDrop, fPar, fSetc, fSetc2, fVar, fLit, fOp, fUn, fTup, fTup.datsOf, fLst, fNilA, fConsA, fCelA, fOfL, fTru, fAndT, fOrT, fNotT, fAndV, fOrV, fNotV, fIf, fBi, fCall, fCallL, fCallFr, callF, celOf, celsOk, norm, aName, aNil, aCons, aTup, setD, fSl, fIt, fItL, fItT, fFor, fLc, fYes, wipeD, fCix, fList, fSlL, fPart, fNoPart, fRng1, fRng2, List.length_cons, List.length_nil, List.getElem?_cons_zero, List.getElem?_cons_succ, List.getElem?_nil, List.set_cons_zero, List.set_cons_succ, List.map_cons, List.map_nil, List.cons_append, List.nil_append, List.append_nil, List.replicate, List.take_zero, List.take_nil, List.take_succ_cons, Option.bind_some, Option.map_some, Option.bind_none, Option.map_none, Nat.sub_self, Nat.reduceAdd, Nat.reduceSub, Nat.reduceLeDiff, Nat.zero_add, Nat.add_zero, and_self, and_true, true_and, if_true, if_false, reduceIte, ite_true, Bool.true_eq_false, Bool.false_eq_true, beq_self_eq_true, Bool.and_self, Bool.not_true, Bool.not_false, decide_true, decide_false, gLen, gTyIs, tyOf, gNeg, gPlus, DL.gSub, gCmp, gInt, gAbs, gTuple, gMax, gMin, gGcd, F_is_kind, b_is_kind, e_rrow, h1, ix3, h2, cut3, h3, gMul_ok, s4, gEq_int]
theorem f_ckind {x : H4} (h : Kd x) : F_check_kind [.dat x.T] [] = some (.dat .none, []) := by
  have := f_kind h
  simp only [mkF, fRet, fRetL, fRetN, fSkip, fSeq, fNever, fSet, fAsg, fNew, fIfS, fDrop, fPar, fSetc, fSetc2, fVar, fLit, fOp, fUn, fTup, fTup.datsOf, fLst, fNilA, fConsA, fCelA, fOfL, fTru, fAndT, fOrT, fNotT, fAndV, fOrV, fNotV, fIf, fBi, fCall, fCallL, fCallFr, callF, celOf, celsOk, norm, aName, aNil, aCons, aTup, setD, fSl, fIt, fItL, fItT, fFor, fLc, fYes, wipeD, fCix, fList, fSlL, fPart, fNoPart, fRng1, fRng2, List.length_cons, List.length_nil, List.getElem?_cons_zero, List.getElem?_cons_succ, List.getElem?_nil, List.set_cons_zero, List.set_cons_succ, List.map_cons, List.map_nil, List.cons_append, List.nil_append, List.append_nil, List.replicate, List.take_zero, List.take_nil, List.take_succ_cons, Option.bind_some, Option.map_some, Option.bind_none, Option.map_none, Nat.sub_self, Nat.reduceAdd, Nat.reduceSub, Nat.reduceLeDiff, Nat.zero_add, Nat.add_zero, and_self, and_true, true_and, if_true, if_false, reduceIte, ite_true, Bool.true_eq_false, Bool.false_eq_true, beq_self_eq_true, Bool.and_self, Bool.not_true, Bool.not_false, decide_true, decide_false, gLen, gTyIs, tyOf, gNeg, gPlus, DL.gSub, gCmp, gInt, gAbs, gTuple, gMax, gMin, gGcd, F_check_kind, b_check_kind, this]
theorem e_div2 (a b : Int) : F_divisor_of [.dat (T2 a b)] [] = some (.dat (.int (g2 a b)), []) := by
  rfl
theorem e_row2 (a b : Int) : F_is_row [.dat (T2 a b), .dat (.int 2)] [] = some (.dat (.bool true), []) := by
  rfl
theorem sh2 (a b : Int) : SeqAt.shaped (T2 a b) = true := by
  rfl
theorem eq22 (a b c d : Int) : gEq (T2 a b) (T2 c d) = some (.bool (a == c && (b == d && true))) := by
  unfold gEq; rw [if_pos ⟨sh2 .., sh2 ..⟩]
  simp only [PyData.eqv, PyData.eqvAll]
theorem f_set {a b : Int} (h : St a b) : F_check_setting [.dat (T2 a b)] [] = some (.dat .none, []) := by
  have h1 : ((g2 a b : Int) == 1) = true := by rw [h.one]; rfl
  have hr : F_is_reduced_row [.dat (T2 a b), .dat (.int 2)] [] = some (.dat (.bool true), []) := by
    simp only [mkF, fRet, fRetL, fRetN, fSkip, fSeq, fNever, fSet, fAsg, fNew, fIfS, fDrop, fPar, fSetc, fSetc2, fVar, fLit, fOp, fUn, fTup, fTup.datsOf, fLst, fNilA, fConsA, fCelA, fOfL, fTru, fAndT, fOrT, fNotT, fAndV, fOrV, fNotV, fIf, fBi, fCall, fCallL, fCallFr, callF, celOf, celsOk, norm, aName, aNil, aCons, aTup, setD, fSl, fIt, fItL, fItT, fFor, fLc, fYes, wipeD, fCix, fList, fSlL, fPart, fNoPart, fRng1, fRng2, List.length_cons, List.length_nil, List.getElem?_cons_zero, List.getElem?_cons_succ, List.getElem?_nil, List.set_cons_zero, List.set_cons_succ, List.map_cons, List.map_nil, List.cons_append, List.nil_append, List.append_nil, List.replicate, List.take_zero, List.take_nil, List.take_succ_cons, Option.bind_some, Option.map_some, Option.bind_none, Option.map_none, Nat.sub_self, Nat.reduceAdd, Nat.reduceSub, Nat.reduceLeDiff, Nat.zero_add, Nat.add_zero, and_self, and_true, true_and, if_true, if_false, reduceIte, ite_true, Bool.true_eq_false, Bool.false_eq_true, beq_self_eq_true, Bool.and_self, Bool.not_true, Bool.not_false, decide_true, decide_false, gLen, gTyIs, tyOf, gNeg, gPlus, DL.gSub, gCmp, gInt, gAbs, gTuple, gMax, gMin, gGcd, F_is_reduced_row, b_is_reduced_row, e_row2, e_div2, gEq_int, h1]
  rcases h.ok with h2 | ⟨rfl, rfl⟩
  · simp only [mkF, fRet, fRetL, fRetN, fSkip, fSeq, fNever, fSet, fAsg, fNew, fIfS, fDrop, fPar, fSetc, fSetc2, fVar, fLit, fOp, fUn, fTup, fTup.datsOf, fLst, fNilA, fConsA, fCelA, fOfL, fTru, fAndT, fOrT, fNotT, fAndV, fOrV, fNotV, fIf, fBi, fCall, fCallL, fCallFr, callF, celOf, celsOk, norm, aName, aNil, aCons, aTup, setD, fSl, fIt, fItL, fItT, fFor, fLc, fYes, wipeD, fCix, fList, fSlL, fPart, fNoPart, fRng1, fRng2, List.length_cons, List.length_nil, List.getElem?_cons_zero, List.getElem?_cons_succ, List.getElem?_nil, List.set_cons_zero, List.set_cons_succ, List.map_cons, List.map_nil, List.cons_append, List.nil_append, List.append_nil, List.replicate, List.take_zero, List.take_nil, List.take_succ_cons, Option.bind_some, Option.map_some, Option.bind_none, Option.map_none, Nat.sub_self, Nat.reduceAdd, Nat.reduceSub, Nat.reduceLeDiff, Nat.zero_add, Nat.add_zero, and_self, and_true, true_and, if_true, if_false, reduceIte, ite_true, Bool.true_eq_false, Bool.false_eq_true, beq_self_eq_true, Bool.and_self, Bool.not_true, Bool.not_false, decide_true, decide_false, gLen, gTyIs, tyOf, gNeg, gPlus, DL.gSub, gCmp, gInt, gAbs, gTuple, gMax, gMin, gGcd, F_check_setting, b_check_setting, F_is_setting, b_is_setting, hr, ix1, h2]
  · have h2 : ¬ ((0 : Int) < 0) := by decide
    have h3 := eq22 1 0 1 0
    simp only [mkF, fRet, fRetL, fRetN, fSkip, fSeq, fNever, fSet, fAsg, fNew, fIfS, fDrop, fPar, fSetc, fSetc2, fVar, fLit, fOp, fUn, fTup, fTup.datsOf, fLst, fNilA, fConsA, fCelA, fOfL, fTru, fAndT, fOrT, fNotT, fAndV, fOrV, fNotV, fIf, fBi, fCall, fCallL, fCallFr, callF, celOf, celsOk, norm, aName, aNil, aCons, aTup, setD, fSl, fIt, fItL, fItT, fFor, fLc, fYes, wipeD, fCix, fList, fSlL, fPart, fNoPart, fRng1, fRng2, List.length_cons, List.length_nil, List.getElem?_cons_zero, List.getElem?_cons_succ, List.getElem?_nil, List.set_cons_zero, List.set_cons_succ, List.map_cons, List.map_nil, List.cons_append, List.nil_append, List.append_nil, List.replicate, List.take_zero, List.take_nil, List.take_succ_cons, Option.bind_some, Option.map_some, Option.bind_none, Option.map_none, Nat.sub_self, Nat.reduceAdd, Nat.reduceSub, Nat.reduceLeDiff, Nat.zero_add, Nat.add_zero, and_self, and_true, true_and, if_true, if_false, reduceIte, ite_true, Bool.true_eq_false, Bool.false_eq_true, beq_self_eq_true, Bool.and_self, Bool.not_true, Bool.not_false, decide_true, decide_false, gLen, gTyIs, tyOf, gNeg, gPlus, DL.gSub, gCmp, gInt, gAbs, gTuple, gMax, gMin, gGcd, F_check_setting, b_check_setting, F_is_setting, b_is_setting, hr, ix1, h2, h3, LIM]
theorem ab_f {x : H4} {a b : Int} (h : Kd x) (g : St a b) : (⟨b * x.d, a * x.a, a * x.b, a * x.c⟩ : H4).f ≠ 0 := by
  refine fs_ne fun z => ?_
  obtain ⟨z0, z1, z2, z3⟩ := z
  have hd := h.pos
  rcases g.ok with hb | ⟨rfl, rfl⟩
  · have z0' : b * x.d = 0 := z0
    rcases Int.mul_eq_zero.mp z0' with z | z <;> omega
  · have e1 : x.a = 0 := by simpa using z1
    have e2 : x.b = 0 := by simpa using z2
    have e3 : x.c = 0 := by simpa using z3
    have := h.sq
    rw [e1, e2, e3] at this
    have := Int.mul_pos hd hd
    omega
theorem ab_S {x : H4} {a b : Int} (h : Kd x) (g : St a b) : (⟨b * x.d, a * x.a, a * x.b, a * x.c⟩ : H4).S 120 := by
  obtain ⟨s1, s2, s3, s4⟩ := h.sm
  exact ⟨g.s2.mul s4, g.s1.mul s1, g.s1.mul s2, g.s1.mul s3⟩
theorem f_about {x : H4} {a b : Int} (h : Kd x) (g : St a b) : F_turn_about [.dat x.T, .dat (T2 a b)] [] = some (.dat (⟨b * x.d, a * x.a, a * x.b, a * x.c⟩ : H4).al.T, []) := by
  have h1 := f_ckind h
  have h2 := f_set g
  obtain ⟨s1, s2, s3, s4⟩ := S4.mono h.sm (by decide : 60 ≤ 1000)
  have g1 : Sm 1000 a := g.s1.mono (by decide)
  have g2 : Sm 1000 b := g.s2.mono (by decide)
  have h3 := f_along (S4.mono (ab_S h g) (by decide : 120 ≤ 1000))
  simp only [mkF, fRet, fRetL, fRetN, fSkip, fSeq, fNever, fSet, fAsg, fNew, fIfS, fDrop, fPar, fSetc, fSetc2, fVar, fLit, fOp, fUn, fTup, fTup.datsOf, fLst, fNilA, fConsA, fCelA, fOfL, fTru, fAndT, fOrT, fNotT, fAndV, fOrV, fNotV, fIf, fBi, fCall, fCallL, fCallFr, callF, celOf, celsOk, norm, aName, aNil, aCons, aTup, setD, fSl, fIt, fItL, fItT, fFor, fLc, fYes, wipeD, fCix, fList, fSlL, fPart, fNoPart, fRng1, fRng2, List.length_cons, List.length_nil, List.getElem?_cons_zero, List.getElem?_cons_succ, List.getElem?_nil, List.set_cons_zero, List.set_cons_succ, List.map_cons, List.map_nil, List.cons_append, List.nil_append, List.append_nil, List.replicate, List.take_zero, List.take_nil, List.take_succ_cons, Option.bind_some, Option.map_some, Option.bind_none, Option.map_none, Nat.sub_self, Nat.reduceAdd, Nat.reduceSub, Nat.reduceLeDiff, Nat.zero_add, Nat.add_zero, and_self, and_true, true_and, if_true, if_false, reduceIte, ite_true, Bool.true_eq_false, Bool.false_eq_true, beq_self_eq_true, Bool.and_self, Bool.not_true, Bool.not_false, decide_true, decide_false, gLen, gTyIs, tyOf, gNeg, gPlus, DL.gSub, gCmp, gInt, gAbs, gTuple, gMax, gMin, gGcd, F_turn_about, b_turn_about, h1, h2, ix3, ix40, ix41, ix42, gMul_ok, s1, s2, s3, s4, g1, g2, h3, LIM]
end K26


set_option Elab.async false
set_option linter.all false
set_option maxRecDepth 100000
set_option maxHeartbeats 400000
set_option exponentiation.threshold 20000
namespace K26
open PySem PySem.Spec L2 DL Q4
/-! drawn kinds and settings -/
theorem e_low {x : H4} (h : x.f ≠ 0) (s : x.S 1000) : F__law_low [.dat x.T] [] = some (.dat (T4 (x.a / m4 x.a x.b x.c x.d) (x.b / m4 x.a x.b x.c x.d) (x.c / m4 x.a x.b x.c x.d) (x.d / m4 x.a x.b x.c x.d)), []) := e_llow R4.t s
/-- a row on the cone, reduced, is a kind -/
theorem kd_low {x : H4} (hp : 0 < x.d) (hq : x.a * x.a + x.b * x.b + x.c * x.c = x.d * x.d) (s : x.S 60) : ∃ y : H4, Kd y ∧ F__law_low [.dat x.T] [] = some (.dat y.T, []) := by
  have hf : x.f ≠ 0 := fs_ne fun z => by have := z.2.2.2; omega
  obtain ⟨⟨a', ha⟩, ⟨b', hb⟩, ⟨c', hc⟩, ⟨d', hd⟩⟩ := g4_dvd x.a x.b x.c x.d
  have hg := g4_pos hf
  have em := m4_eq hf
  have hl := e_low hf (S4.mono s (by decide : 60 ≤ 1000))
  have hgz : (g4 x.a x.b x.c x.d : Int) ≠ 0 := by omega
  have ea : x.a / m4 x.a x.b x.c x.d = a' := by rw [em]; exact Int.ediv_eq_of_eq_mul_right hgz ha
  have eb : x.b / m4 x.a x.b x.c x.d = b' := by rw [em]; exact Int.ediv_eq_of_eq_mul_right hgz hb
  have ec : x.c / m4 x.a x.b x.c x.d = c' := by rw [em]; exact Int.ediv_eq_of_eq_mul_right hgz hc
  have ed : x.d / m4 x.a x.b x.c x.d = d' := by rw [em]; exact Int.ediv_eq_of_eq_mul_right hgz hd
  have sd : ∀ {y : Int}, Sm 60 y → Sm 60 (y / m4 x.a x.b x.c x.d) := fun {y} h => Nat.lt_of_le_of_lt (Int.natAbs_ediv_le_natAbs y _) h
  have sa : Sm 60 a' := by rw [← ea]; exact sd s.1
  have sb : Sm 60 b' := by rw [← eb]; exact sd s.2.1
  have sc : Sm 60 c' := by rw [← ec]; exact sd s.2.2.1
  have se : Sm 60 d' := by rw [← ed]; exact sd s.2.2.2
  rw [ea, eb, ec, ed] at hl
  refine ⟨⟨a', b', c', d'⟩, ⟨?_, ?_, ?_, sa, sb, sc, se⟩, hl⟩
  · have h1 := g4_mul (g4 x.a x.b x.c x.d) a' b' c' d'
    rw [← ha, ← hb, ← hc, ← hd, Int.natAbs_natCast] at h1
    exact (Nat.eq_of_mul_eq_mul_left hg (show g4 x.a x.b x.c x.d * 1 = g4 x.a x.b x.c x.d * g4 a' b' c' d' by omega)).symm
  · show 0 < d'
    rcases Int.lt_or_le 0 d' with h | h
    · exact h
    · exfalso
      have : (g4 x.a x.b x.c x.d : Int) * d' ≤ 0 := Int.mul_nonpos_of_nonneg_of_nonpos (by omega) h
      omega
  · show a' * a' + b' * b' + c' * c' = d' * d'
    generalize (g4 x.a x.b x.c x.d : Int) = g at ha hb hc hd hgz
    rw [ha, hb, hc, hd] at hq
    have h2 : (g * g) * (a' * a' + b' * b' + c' * c') = (g * g) * (d' * d') := by grind
    exact Int.eq_of_mul_eq_mul_left (Int.mul_ne_zero hgz hgz) h2
theorem rng3 : rngOk 3 = true := rng_ok (by decide) (by decide)
theorem rd3 : rangeD 0 (Int.toNat 3) = [.int 0, .int 1, .int 2] := rfl
theorem kd_axis (v t : Int) (h0 : 0 ≤ v) (h1 : v < 3) (ht : t = 1 ∨ t = -1) : Kd ⟨(if (0 : Int) == v then t else 0), (if (1 : Int) == v then t else 0), (if (2 : Int) == v then t else 0), 1⟩ := by
  have hv : v = 0 ∨ v = 1 ∨ v = 2 := by omega
  rcases hv with rfl | rfl | rfl <;> rcases ht with rfl | rfl <;> exact ⟨by decide, by decide, by decide, by unfold Sm; decide, by unfold Sm; decide, by unfold Sm; decide, by unfold Sm; decide⟩
theorem e_kind {k : Nat} {a s n : Int} (hs : Src k a s n) (hk : k ≤ 700) : ∃ (x : H4) (a' s' n' : Int), F__law_kind [.cel 0] [L3 a s n] = some (.dat x.T, [L3 a' s' n']) ∧ Src (k + 5) a' s' n' ∧ Kd x := by
  obtain ⟨w, a1, s1, n1, e1, g1, w0, w1⟩ := e_draw (top := 3) hs (by omega) (by decide) (by decide)
  obtain ⟨y, a2, s2, n2, e2, g2, hy⟩ := e_pick (xs := [.int 1, .int 2, .int 3, .int 9]) g1 (by omega) (by decide) (by decide)
  have hm : ∃ m : Int, y = .int m ∧ 1 ≤ m ∧ m ≤ 9 := by
    simp only [List.mem_cons, List.not_mem_nil, or_false] at hy
    rcases hy with rfl | rfl | rfl | rfl <;> exact ⟨_, rfl, by decide, by decide⟩
  obtain ⟨m, rfl, m0, m1⟩ := hm
  by_cases hw : w = 0
  · subst hw
    obtain ⟨v, a3, s3, n3, e3, g3, v0, v1⟩ := e_draw (top := 3) g2 (by omega) (by decide) (by decide)
    obtain ⟨t, a4, s4, n4, e4, g4, t0, t1⟩ := e_draw (top := 2) g3 (by omega) (by decide) (by decide)
    have h2 := gMul_sm (by decide : (0 : Int) ≤ 2) (by decide) t0 (by omega)
    refine ⟨⟨(if (0 : Int) == v then 1 - 2 * t else 0), (if (1 : Int) == v then 1 - 2 * t else 0), (if (2 : Int) == v then 1 - 2 * t else 0), 1⟩, a4, s4, n4, ?_, g4.up (by omega), kd_axis v _ v0 v1 (by omega)⟩
    have hv : v = 0 ∨ v = 1 ∨ v = 2 := by omega
    rcases hv with rfl | rfl | rfl <;> simp only [mkF, fRet, fRetL, fRetN, fSkip, fSeq, fNever, fSet, fAsg, fNew, fIfS, fDrop, fPar, fSetc, fSetc2, fVar, fLit, fOp, fUn, fTup, fTup.datsOf, fLst, fNilA, fConsA, fCelA, fOfL, fTru, fAndT, fOrT, fNotT, fAndV, fOrV, fNotV, fIf, fBi, fCall, fCallL, fCallFr, callF, celOf, celsOk, norm, aName, aNil, aCons, aTup, setD, fSl, fIt, fItL, fItT, fFor, fLc, fYes, wipeD, fCix, fList, fSlL, fPart, fNoPart, fRng1, fRng2, List.length_cons, List.length_nil, List.getElem?_cons_zero, List.getElem?_cons_succ, List.getElem?_nil, List.set_cons_zero, List.set_cons_succ, List.map_cons, List.map_nil, List.cons_append, List.nil_append, List.append_nil, List.replicate, List.take_zero, List.take_nil, List.take_succ_cons, Option.bind_some, Option.map_some, Option.bind_none, Option.map_none, Nat.sub_self, Nat.reduceAdd, Nat.reduceSub, Nat.reduceLeDiff, Nat.zero_add, Nat.add_zero, and_self, and_true, true_and, if_true, if_false, reduceIte, ite_true, Bool.true_eq_false, Bool.false_eq_true, beq_self_eq_true, Bool.and_self, Bool.not_true, Bool.not_false, decide_true, decide_false, gLen, gTyIs, tyOf, gNeg, gPlus, DL.gSub, gCmp, gInt, gAbs, gTuple, gMax, gMin, gGcd, F__law_kind, b__law_kind, e1, e2, gEq_int, e3, e4, h2, lcGo, rng3, rd3, LIM, show ((0 : Int) == 1) = false from rfl, show ((0 : Int) == 2) = false from rfl, show ((1 : Int) == 0) = false from rfl, show ((1 : Int) == 2) = false from rfl, show ((2 : Int) == 0) = false from rfl, show ((2 : Int) == 1) = false from rfl]
  · have hw' : (w == 0) = false := beq_eq_false_iff_ne.mpr hw
    obtain ⟨p, a3, s3, n3, e3, g3, p0, p1⟩ := e_about g2 (by omega) (by omega : 0 ≤ m) (by omega)
    obtain ⟨q, a4, s4, n4, e4, g4, q0, q1⟩ := e_about g3 (by omega) (by omega : 0 ≤ m) (by omega)
    obtain ⟨u, a5, s5, n5, e5, g5, u0, u1⟩ := e_draw (top := m) g4 (by omega) (by omega) (by omega)
    have sm' : ∀ {x : Int}, -2000 ≤ x → x ≤ 2000 → Sm 1000 x := fun {x} h g => show x.natAbs < 2 ^ 1000 from Nat.lt_of_lt_of_le (show x.natAbs < 2 ^ 60 by omega) (Nat.pow_le_pow_right (by decide) (by decide))
    have c2 : Sm 1000 2 := sm' (by decide) (by decide)
    have cp : Sm 1000 p := sm' (by omega) (by omega)
    have cq : Sm 1000 q := sm' (by omega) (by omega)
    have cw : Sm 1000 (1 + u) := sm' (by omega) (by omega)
    have c2p : Sm 1000 (2 * p) := sm' (by omega) (by omega)
    have c2q : Sm 1000 (2 * q) := sm' (by omega) (by omega)
    have b5 : ∀ {x : Int}, -9 ≤ x → x ≤ 9 → Sm 5 x := fun h g => by unfold Sm; omega
    have s2 : Sm 5 2 := b5 (by decide) (by decide)
    have sp : Sm 5 p := b5 (by omega) (by omega)
    have sq : Sm 5 q := b5 (by omega) (by omega)
    have sw : Sm 5 (1 + u) := b5 (by omega) (by omega)
    have hS : (⟨2 * p * (1 + u), 2 * q * (1 + u), (1 + u) * (1 + u) - p * p - q * q, (1 + u) * (1 + u) + p * p + q * q⟩ : H4).S 60 :=
      ⟨((s2.mul sp).mul sw).mono (by decide), ((s2.mul sq).mul sw).mono (by decide), (((sw.mul sw).sub (sp.mul sp)).sub ((sq.mul sq).mono (by decide))).mono (by decide : 5 + 5 + 1 + 1 ≤ 60), (((sw.mul sw).add (sp.mul sp)).add ((sq.mul sq).mono (by decide))).mono (by decide : 5 + 5 + 1 + 1 ≤ 60)⟩
    have hpos : 0 < (1 + u) * (1 + u) + p * p + q * q := by
      have h1 := sq_nn p
      have h2 := sq_nn q
      have h3 := Int.mul_pos (show 0 < 1 + u by omega) (show 0 < 1 + u by omega)
      omega
    obtain ⟨z, hz, el⟩ := kd_low (x := ⟨2 * p * (1 + u), 2 * q * (1 + u), (1 + u) * (1 + u) - p * p - q * q, (1 + u) * (1 + u) + p * p + q * q⟩) hpos (by simp only; grind) hS
    refine ⟨z, a5, s5, n5, ?_, g5.up (by omega), hz⟩
    simp only [mkF, fRet, fRetL, fRetN, fSkip, fSeq, fNever, fSet, fAsg, fNew, fIfS, fDrop, fPar, fSetc, fSetc2, fVar, fLit, fOp, fUn, fTup, fTup.datsOf, fLst, fNilA, fConsA, fCelA, fOfL, fTru, fAndT, fOrT, fNotT, fAndV, fOrV, fNotV, fIf, fBi, fCall, fCallL, fCallFr, callF, celOf, celsOk, norm, aName, aNil, aCons, aTup, setD, fSl, fIt, fItL, fItT, fFor, fLc, fYes, wipeD, fCix, fList, fSlL, fPart, fNoPart, fRng1, fRng2, List.length_cons, List.length_nil, List.getElem?_cons_zero, List.getElem?_cons_succ, List.getElem?_nil, List.set_cons_zero, List.set_cons_succ, List.map_cons, List.map_nil, List.cons_append, List.nil_append, List.append_nil, List.replicate, List.take_zero, List.take_nil, List.take_succ_cons, Option.bind_some, Option.map_some, Option.bind_none, Option.map_none, Nat.sub_self, Nat.reduceAdd, Nat.reduceSub, Nat.reduceLeDiff, Nat.zero_add, Nat.add_zero, and_self, and_true, true_and, if_true, if_false, reduceIte, ite_true, Bool.true_eq_false, Bool.false_eq_true, beq_self_eq_true, Bool.and_self, Bool.not_true, Bool.not_false, decide_true, decide_false, gLen, gTyIs, tyOf, gNeg, gPlus, DL.gSub, gCmp, gInt, gAbs, gTuple, gMax, gMin, gGcd, F__law_kind, b__law_kind, e1, e2, gEq_int, hw', e3, e4, e5, fPar3, gMul_ok, c2, cp, cq, cw, c2p, c2q, el, LIM]
theorem c_for2 {a b : Int} (x0 : Option SV) (h1 : Sm 1000 a) (h2 : Sm 1000 b) : ∃ x2 x3 x4, forGo (aName 2) CB [.int a, .int b] ⟨[x0, some (.dat (.int (0 : Nat))), none, none, none], []⟩ = some (.nx ⟨[x0, some (.dat (.int (g2 a b))), x2, x3, x4], []⟩) := by
  refine ⟨some (.dat (.int b)), some (.dat (.int (g2 a b))), some (.dat (.int (0 : Nat))), ?_⟩
  simp only [forGo, aName, setD, List.set_cons_zero, List.set_cons_succ, Option.bind_some, c_step' h1, c_step' h2]
  rfl
theorem e_lcommon2 {a b : Int} (h1 : Sm 1000 a) (h2 : Sm 1000 b) : F__law_common [.dat (T2 a b)] [] = some (.dat (.int (g2 a b)), []) := by
  obtain ⟨x2, x3, x4, e⟩ := c_for2 (some (.dat (T2 a b))) h1 h2
  have e0 : b__law_common = (fSeq (fSet 1 (fLit (.int (0 : Nat)))) (fSeq (fFor (fIt (fVar 0)) (aName 2) CB) (fRet (fVar 1)))) := rfl
  simp only [F__law_common, mkF, e0, fSeq, fSet, fLit, fFor, fIt, fVar, List.length_cons, List.length_nil, List.map_cons, List.map_nil, List.replicate, List.cons_append, List.nil_append, List.set_cons_zero, List.set_cons_succ, List.getElem?_cons_zero, List.getElem?_cons_succ, Option.bind_some, Option.map_some, e, fRet, Nat.reduceAdd, Nat.reduceSub, and_self, if_true, List.take_zero, Nat.zero_add]
theorem g2_pos {a b : Int} (h : b ≠ 0) : 0 < g2 a b := Nat.pos_of_ne_zero fun z => by
  unfold g2 at z
  have := (Nat.gcd_eq_zero_iff.mp z).2
  omega
theorem g2_dvd (a b : Int) : (g2 a b : Int) ∣ a ∧ (g2 a b : Int) ∣ b := by
  have e2 := Nat.gcd_dvd (Nat.gcd 0 a.natAbs) b.natAbs
  have e1 := Nat.gcd_dvd 0 a.natAbs
  refine ⟨?_, ?_⟩ <;> (refine Int.natAbs_dvd_natAbs.mp ?_; rw [Int.natAbs_natCast])
  · exact Nat.dvd_trans e2.1 e1.2
  · exact e2.2
theorem g2_mul (k a b : Int) : g2 (k * a) (k * b) = k.natAbs * g2 a b := by
  unfold g2
  simp only [Int.natAbs_mul, Nat.gcd_zero_left, Nat.gcd_mul_left]
theorem e_low2 {a b : Int} (hb : 0 < b) (s1 : Sm 60 a) (s2 : Sm 60 b) : ∃ c d, F__law_low [.dat (T2 a b)] [] = some (.dat (T2 c d), []) ∧ St c d := by
  have hg := g2_pos (a := a) (b := b) (by omega)
  obtain ⟨⟨c, hc⟩, ⟨d, hd⟩⟩ := g2_dvd a b
  have hgz : (g2 a b : Int) ≠ 0 := by omega
  have hgs : Sm 1000 (g2 a b : Int) := by
    have hle : g2 a b ≤ b.natAbs := Nat.le_of_dvd (by omega) (Nat.gcd_dvd_right _ _)
    exact Nat.lt_of_le_of_lt (by rw [Int.natAbs_natCast]; exact hle) (Sm.mono s2 (by decide : 60 ≤ 1000))
  have e1 := e_lcommon2 (s1.mono (by decide)) (s2.mono (by decide))
  have e2 : (if (g2 a b : Int) > 1 then (g2 a b : Int) else 1) = g2 a b := by split <;> omega
  have d1 : gDiv (.int a) (.int (g2 a b)) = some (.int c) := by
    rw [gDiv_ok (by omega) hgs, Int.ediv_eq_of_eq_mul_right hgz hc]
  have d2 : gDiv (.int b) (.int (g2 a b)) = some (.int d) := by
    rw [gDiv_ok (by omega) hgs, Int.ediv_eq_of_eq_mul_right hgz hd]
  refine ⟨c, d, ?_, ?_, .inl ?_, ?_, ?_⟩
  · simp only [mkF, fRet, fRetL, fRetN, fSkip, fSeq, fNever, fSet, fAsg, fNew, fIfS, fDrop, fPar, fSetc, fSetc2, fVar, fLit, fOp, fUn, fTup, fTup.datsOf, fLst, fNilA, fConsA, fCelA, fOfL, fTru, fAndT, fOrT, fNotT, fAndV, fOrV, fNotV, fIf, fBi, fCall, fCallL, fCallFr, callF, celOf, celsOk, norm, aName, aNil, aCons, aTup, setD, fSl, fIt, fItL, fItT, fFor, fLc, fYes, wipeD, fCix, fList, fSlL, fPart, fNoPart, fRng1, fRng2, List.length_cons, List.length_nil, List.getElem?_cons_zero, List.getElem?_cons_succ, List.getElem?_nil, List.set_cons_zero, List.set_cons_succ, List.map_cons, List.map_nil, List.cons_append, List.nil_append, List.append_nil, List.replicate, List.take_zero, List.take_nil, List.take_succ_cons, Option.bind_some, Option.map_some, Option.bind_none, Option.map_none, Nat.sub_self, Nat.reduceAdd, Nat.reduceSub, Nat.reduceLeDiff, Nat.zero_add, Nat.add_zero, and_self, and_true, true_and, if_true, if_false, reduceIte, ite_true, Bool.true_eq_false, Bool.false_eq_true, beq_self_eq_true, Bool.and_self, Bool.not_true, Bool.not_false, decide_true, decide_false, gLen, gTyIs, tyOf, gNeg, gPlus, DL.gSub, gCmp, gInt, gAbs, gTuple, gMax, gMin, gGcd, F__law_low, b__law_low, e1, e2, lcGo, d1, d2, LIM]
  · have h1 := g2_mul (g2 a b) c d
    rw [← hc, ← hd, Int.natAbs_natCast] at h1
    exact (Nat.eq_of_mul_eq_mul_left hg (show g2 a b * 1 = g2 a b * g2 c d by omega)).symm
  · rcases Int.lt_or_le 0 d with h | h
    · exact h
    · exfalso
      have : (g2 a b : Int) * d ≤ 0 := Int.mul_nonpos_of_nonneg_of_nonpos (by omega) h
      omega
  · have : c = a / (g2 a b : Int) := (Int.ediv_eq_of_eq_mul_right hgz hc).symm
    rw [this]; exact Nat.lt_of_le_of_lt (Int.natAbs_ediv_le_natAbs a _) s1
  · have : d = b / (g2 a b : Int) := (Int.ediv_eq_of_eq_mul_right hgz hd).symm
    rw [this]; exact Nat.lt_of_le_of_lt (Int.natAbs_ediv_le_natAbs b _) s2
theorem e_slot {k : Nat} {a s n : Int} (hs : Src k a s n) (hk : k ≤ 700) : ∃ (c d a' s' n' : Int), F__law_slot [.cel 0] [L3 a s n] = some (.dat (T2 c d), [L3 a' s' n']) ∧ Src (k + 5) a' s' n' ∧ St c d := by
  obtain ⟨w, a1, s1, n1, e1, g1, w0, w1⟩ := e_draw (top := 4) hs (by omega) (by decide) (by decide)
  obtain ⟨y, a2, s2, n2, e2, g2, hy⟩ := e_pick (xs := [.int 1, .int 2, .int 3, .int 9, .int 100]) g1 (by omega) (by decide) (by decide)
  have hm : ∃ m : Int, y = .int m ∧ 1 ≤ m ∧ m ≤ 100 := by
    simp only [List.mem_cons, List.not_mem_nil, or_false] at hy
    rcases hy with rfl | rfl | rfl | rfl | rfl <;> exact ⟨_, rfl, by decide, by decide⟩
  obtain ⟨m, rfl, m0, m1⟩ := hm
  by_cases hw : w = 0
  · subst hw
    obtain ⟨z, a3, s3, n3, e3, g3, hz⟩ := e_pick (xs := [T2 0 1, T2 1 0, T2 1 1, T2 (-1) 1]) g2 (by omega) (by decide) (by decide)
    have hm : ∃ c d, z = T2 c d ∧ St c d := by
      simp only [List.mem_cons, List.not_mem_nil, or_false] at hz
      rcases hz with rfl | rfl | rfl | rfl <;> exact ⟨_, _, rfl, by decide, by decide, by unfold Sm; decide, by unfold Sm; decide⟩
    obtain ⟨c, d, rfl, hst⟩ := hm
    refine ⟨c, d, a3, s3, n3, ?_, g3.up (by omega), hst⟩
    simp only [mkF, fRet, fRetL, fRetN, fSkip, fSeq, fNever, fSet, fAsg, fNew, fIfS, fDrop, fPar, fSetc, fSetc2, fVar, fLit, fOp, fUn, fTup, fTup.datsOf, fLst, fNilA, fConsA, fCelA, fOfL, fTru, fAndT, fOrT, fNotT, fAndV, fOrV, fNotV, fIf, fBi, fCall, fCallL, fCallFr, callF, celOf, celsOk, norm, aName, aNil, aCons, aTup, setD, fSl, fIt, fItL, fItT, fFor, fLc, fYes, wipeD, fCix, fList, fSlL, fPart, fNoPart, fRng1, fRng2, List.length_cons, List.length_nil, List.getElem?_cons_zero, List.getElem?_cons_succ, List.getElem?_nil, List.set_cons_zero, List.set_cons_succ, List.map_cons, List.map_nil, List.cons_append, List.nil_append, List.append_nil, List.replicate, List.take_zero, List.take_nil, List.take_succ_cons, Option.bind_some, Option.map_some, Option.bind_none, Option.map_none, Nat.sub_self, Nat.reduceAdd, Nat.reduceSub, Nat.reduceLeDiff, Nat.zero_add, Nat.add_zero, and_self, and_true, true_and, if_true, if_false, reduceIte, ite_true, Bool.true_eq_false, Bool.false_eq_true, beq_self_eq_true, Bool.and_self, Bool.not_true, Bool.not_false, decide_true, decide_false, gLen, gTyIs, tyOf, gNeg, gPlus, DL.gSub, gCmp, gInt, gAbs, gTuple, gMax, gMin, gGcd, F__law_slot, b__law_slot, e1, e2, gEq_int, e3, LIM]
  · have hw' : (w == 0) = false := beq_eq_false_iff_ne.mpr hw
    obtain ⟨p, a3, s3, n3, e3, g3, p0, p1⟩ := e_about g2 (by omega) (by omega : 0 ≤ m) (by omega)
    obtain ⟨u, a5, s5, n5, e5, g5, u0, u1⟩ := e_draw (top := m) g3 (by omega) (by omega) (by omega)
    obtain ⟨c, d, el, hst⟩ := e_low2 (a := p) (b := 1 + u) (by omega) (by unfold Sm; omega) (by unfold Sm; omega)
    refine ⟨c, d, a5, s5, n5, ?_, g5.up (by omega), hst⟩
    simp only [mkF, fRet, fRetL, fRetN, fSkip, fSeq, fNever, fSet, fAsg, fNew, fIfS, fDrop, fPar, fSetc, fSetc2, fVar, fLit, fOp, fUn, fTup, fTup.datsOf, fLst, fNilA, fConsA, fCelA, fOfL, fTru, fAndT, fOrT, fNotT, fAndV, fOrV, fNotV, fIf, fBi, fCall, fCallL, fCallFr, callF, celOf, celsOk, norm, aName, aNil, aCons, aTup, setD, fSl, fIt, fItL, fItT, fFor, fLc, fYes, wipeD, fCix, fList, fSlL, fPart, fNoPart, fRng1, fRng2, List.length_cons, List.length_nil, List.getElem?_cons_zero, List.getElem?_cons_succ, List.getElem?_nil, List.set_cons_zero, List.set_cons_succ, List.map_cons, List.map_nil, List.cons_append, List.nil_append, List.append_nil, List.replicate, List.take_zero, List.take_nil, List.take_succ_cons, Option.bind_some, Option.map_some, Option.bind_none, Option.map_none, Nat.sub_self, Nat.reduceAdd, Nat.reduceSub, Nat.reduceLeDiff, Nat.zero_add, Nat.add_zero, and_self, and_true, true_and, if_true, if_false, reduceIte, ite_true, Bool.true_eq_false, Bool.false_eq_true, beq_self_eq_true, Bool.and_self, Bool.not_true, Bool.not_false, decide_true, decide_false, gLen, gTyIs, tyOf, gNeg, gPlus, DL.gSub, gCmp, gInt, gAbs, gTuple, gMax, gMin, gGcd, F__law_slot, b__law_slot, e1, e2, gEq_int, hw', e3, e5, el, LIM]
end K26


set_option Elab.async false
set_option linter.all false
set_option maxRecDepth 100000
set_option maxHeartbeats 1000000
set_option exponentiation.threshold 20000
namespace K26
open PySem PySem.Spec L2 DL Q4
abbrev RB : FS := (fSeq (fPar 12 13 (fConsA (fCall F__law_power (fConsA (fVar 9) (fConsA (fVar 10) fNilA))) (fConsA (fCall F__law_power (fConsA (fVar 9) (fConsA (fOp gPlus (fVar 10) (fVar 11)) fNilA))) fNilA)))
  (fSeq (fIfS (fTru (fOp gNe (fBi gRepr (fConsA (fVar 2) fNilA)) (fBi gRepr (fConsA (fOfL (fLst (fConsA (fVar 12) (fConsA (fVar 12) (fConsA (fTup (fConsA (fLit (.int 1)) (fConsA (fLit (.int 0)) (fConsA (fLit (.int 0)) (fConsA (fLit (.int 0)) fNilA))))) (fConsA (fVar 9) (fConsA (fVar 13) (fConsA (fVar 13) fNilA)))))))) fNilA)))) (fRet (fLit (.bool false))) fSkip)
  (fSeq (fPar 14 15 (fConsA (fCall F__law_kind (fCelA 0 fNilA)) (fConsA (fCall F__law_slot (fCelA 0 fNilA)) fNilA)))
  (fSeq (fSet 4 (fCall F__law_along (fConsA (fTup (fConsA (fOp gMul (fOp gIx (fVar 15) (fLit (.int 1))) (fOp gIx (fVar 14) (fLit (.int 3)))) (fConsA (fOp gMul (fOp gIx (fVar 15) (fLit (.int 0))) (fOp gIx (fVar 14) (fLit (.int 0)))) (fConsA (fOp gMul (fOp gIx (fVar 15) (fLit (.int 0))) (fOp gIx (fVar 14) (fLit (.int 1)))) (fConsA (fOp gMul (fOp gIx (fVar 15) (fLit (.int 0))) (fOp gIx (fVar 14) (fLit (.int 2)))) fNilA))))) fNilA)))
  (fRet (fOp gEq (fBi gRepr (fConsA (fOfL (fLst (fConsA (fCall F_turn_about (fConsA (fVar 14) (fConsA (fVar 15) fNilA))) (fConsA (fCall F_turn_about (fPerm [1, 0] (fConsA (fVar 15) (fConsA (fVar 14) fNilA)))) fNilA)))) fNilA)) (fBi gRepr (fConsA (fOfL (fLst (fConsA (fVar 4) (fConsA (fVar 4) fNilA)))) fNilA))))))))
abbrev RA0 (rb : FS) (F4 FSp FT G0 G1 G2 G3 G4 G5 G6 G7 : FnS) : FS := (fSeq (fPar 5 6 (fConsA (fCall F4 (fCelA 0 fNilA)) (fConsA (fCall F4 (fCelA 0 fNilA)) fNilA)))
  (fSeq (fSet 1 (fCall G7 (fCelA 0 (fConsA (fTup (fConsA (fLit (.int 2)) (fConsA (fLit (.int 1)) (fConsA (fUn gNeg (fLit (.int 1))) (fConsA (fUn gNeg (fLit (.int 3))) (fConsA (fLit (.int 7)) fNilA)))))) fNilA))))
  (fSeq (fPar 7 8 (fConsA (fCall G2 (fConsA (fVar 5) fNilA)) (fConsA (fCall G2 (fConsA (fVar 6) fNilA)) fNilA)))
  (fSeq (fSet 2 (fOfL (fLst (fConsA (fCall G3 (fConsA (fVar 5) fNilA)) (fConsA (fCall G3 (fConsA (fBi gTuple (fConsA (fOfL (fLc (fIt (fVar 5)) (aName 16) fYes (fOp gMul (fVar 1) (fVar 16)) [16])) fNilA)) fNilA)) (fConsA (fCall G3 (fConsA (fVar 5) fNilA)) fNilA))))))
  (fSeq (fIfS (fOrT (fTru (fOp gNe (fBi gRepr (fConsA (fVar 2) fNilA)) (fBi gRepr (fConsA (fRep (fLst (fConsA (fVar 7) fNilA)) (fLit (.int 3))) fNilA)))) (fNotT (fTru (fCall G0 (fConsA (fVar 7) fNilA))))) (fRet (fLit (.bool false))) fSkip)
  (fSeq (fSet 2 (fOfL (fLst (fConsA (fCall G1 (fConsA (fVar 7) (fConsA (fVar 8) fNilA))) (fConsA (fCall G1 (fPerm [1, 0] (fConsA (fVar 8) (fConsA (fVar 7) fNilA)))) (fConsA (fCall G1 (fConsA (fVar 8) (fConsA (fVar 7) fNilA))) fNilA))))))
  (fSeq (fIfS (fTru (fOp gNe (fBi gRepr (fConsA (fVar 2) fNilA)) (fBi gRepr (fConsA (fOfL (fLst (fConsA (fCall G5 (fConsA (fVar 7) (fConsA (fVar 8) fNilA))) (fConsA (fCall G5 (fConsA (fVar 7) (fConsA (fVar 8) fNilA))) (fConsA (fCall G5 (fConsA (fVar 8) (fConsA (fVar 7) fNilA))) fNilA))))) fNilA)))) (fRet (fLit (.bool false))) fSkip)
  (fSeq (fSet 3 (fCall G2 (fConsA (fTup (fConsA (fOp gIx (fVar 7) (fLit (.int 0))) (fConsA (fOp gSub (fLit (.int 0)) (fOp gIx (fVar 7) (fLit (.int 1)))) (fConsA (fOp gSub (fLit (.int 0)) (fOp gIx (fVar 7) (fLit (.int 2)))) (fConsA (fOp gSub (fLit (.int 0)) (fOp gIx (fVar 7) (fLit (.int 3)))) fNilA))))) fNilA)))
  (fSeq (fSet 2 (fOfL (fLst (fConsA (fCall G4 (fConsA (fVar 7) fNilA)) (fConsA (fCall G4 (fConsA (fVar 7) fNilA)) (fConsA (fCall G1 (fConsA (fVar 7) (fConsA (fCall G4 (fConsA (fVar 7) fNilA)) fNilA))) (fConsA (fCall G1 (fConsA (fCall G4 (fConsA (fVar 7) fNilA)) (fConsA (fVar 7) fNilA))) fNilA)))))))
  (fSeq (fIfS (fTru (fOp gNe (fBi gRepr (fConsA (fVar 2) fNilA)) (fBi gRepr (fConsA (fOfL (fLst (fConsA (fVar 3) (fConsA (fVar 3) (fConsA (fTup (fConsA (fLit (.int 1)) (fConsA (fLit (.int 0)) (fConsA (fLit (.int 0)) (fConsA (fLit (.int 0)) fNilA))))) (fConsA (fTup (fConsA (fLit (.int 1)) (fConsA (fLit (.int 0)) (fConsA (fLit (.int 0)) (fConsA (fLit (.int 0)) fNilA))))) fNilA)))))) fNilA)))) (fRet (fLit (.bool false))) fSkip)
  (fSeq (fPar3 9 10 11 (fConsA (fCall FSp (fCelA 0 fNilA)) (fConsA (fCall G6 (fCelA 0 (fConsA (fLit (.int 13)) fNilA))) (fConsA (fCall G6 (fCelA 0 (fConsA (fLit (.int 13)) fNilA))) fNilA))))
  (fSeq (fNew 2 (fLst (fConsA (fCall FT (fConsA (fVar 9) (fConsA (fVar 10) fNilA))) (fConsA (fCall FT (fPerm [1, 0] (fConsA (fVar 10) (fConsA (fVar 9) fNilA)))) (fConsA (fCall FT (fConsA (fVar 9) (fConsA (fLit (.int 0)) fNilA))) (fConsA (fCall FT (fConsA (fVar 9) (fConsA (fLit (.int 1)) fNilA))) fNilA))))))
  (fSeq (fApp 2 (fCall G1 (fConsA (fCall FT (fConsA (fVar 9) (fConsA (fVar 10) fNilA))) (fConsA (fCall FT (fConsA (fVar 9) (fConsA (fVar 11) fNilA))) fNilA))))
  (fSeq (fApp 2 (fCall FT (fConsA (fVar 9) (fConsA (fOp gPlus (fVar 10) (fVar 11)) fNilA))))
   rb))))))))))))))
theorem r_split : b__law_right = RA0 (fFrz n0__law_right 2 RB) F__law_four F__law_spin F_turn_times F__law_are_told F_joined_turns F__law_along F_turn_along F_turn_back F__law_both F__law_draw F__law_pick := rfl
theorem perm10 {α : Type} (a b : α) : perm [1, 0] [a, b] = [b, a] := by
  have h : perm [1, 0] [a, b] = [b, a] := rfl
  exact h.trans (Eq.refl _)
theorem fPerm10 {fa : FA} {st : Sta} {a b : SV} {c : Cs} (h : fa st = some ([a, b], c)) : fPerm [1, 0] fa st = some ([b, a], c) := by
  unfold fPerm
  rw [h]
  rfl
theorem rep3 (x : PyData) : (List.replicate (Int.toNat 3) [x]).flatten = [x, x, x] := rfl
theorem le3 : (1 * Int.toNat 3 ≤ 100000) = True := eq_true (by decide)
theorem tn {x : H4} {n : Nat} (s : x.S n) (hn : n ≤ 400) : Tn x.T := Tn.t (S4.mono s hn)
theorem tns2 {x y : PyData} (h : Tn x) (g : Tn y) : ∀ z ∈ [x, y], Tn z := fun z m => by
  simp only [List.mem_cons, List.not_mem_nil, or_false] at m
  rcases m with rfl | rfl <;> assumption
theorem tns3 {x y z : PyData} (h : Tn x) (g : Tn y) (k : Tn z) : ∀ u ∈ [x, y, z], Tn u := fun u m => by
  simp only [List.mem_cons, List.not_mem_nil, or_false] at m
  rcases m with rfl | rfl | rfl <;> assumption
theorem tns4 {x y z w : PyData} (h : Tn x) (g : Tn y) (k : Tn z) (l : Tn w) : ∀ u ∈ [x, y, z, w], Tn u := fun u m => by
  simp only [List.mem_cons, List.not_mem_nil, or_false] at m
  rcases m with rfl | rfl | rfl | rfl <;> assumption
theorem tns6 {x y z w v t : PyData} (h : Tn x) (g : Tn y) (k : Tn z) (l : Tn w) (i : Tn v) (j : Tn t) : ∀ u ∈ [x, y, z, w, v, t], Tn u := fun u m => by
  simp only [List.mem_cons, List.not_mem_nil, or_false] at m
  rcases m with rfl | rfl | rfl | rfl | rfl | rfl <;> assumption
theorem f_times' {z : H4} (r : z.R) (s : z.S 10) {n : Nat} {i : Int} (hn : n ≤ 24) (hi : i = (n : Nat)) : F_turn_times [.dat z.T, .dat (.int i)] [] = some (.dat (pw z n).T, []) := by
  subst hi; exact f_times r s hn
theorem f_power' {z : H4} (r : z.R) (s : z.S 10) {n : Nat} {i : Int} (hn : n ≤ 24) (hi : i = (n : Nat)) : F__law_power [.dat z.T, .dat (.int i)] [] = some (.dat (pw z n).T, []) := by
  subst hi; exact f_power r s hn
abbrev RB0 (FP : FnS) : FS := (fPar 12 13 (fConsA (fCall FP (fConsA (fVar 9) (fConsA (fVar 10) fNilA))) (fConsA (fCall FP (fConsA (fVar 9) (fConsA (fOp gPlus (fVar 10) (fVar 11)) fNilA))) fNilA)))
abbrev RB1 : FS := (fIfS (fTru (fOp gNe (fBi gRepr (fConsA (fVar 2) fNilA)) (fBi gRepr (fConsA (fOfL (fLst (fConsA (fVar 12) (fConsA (fVar 12) (fConsA (fTup (fConsA (fLit (.int 1)) (fConsA (fLit (.int 0)) (fConsA (fLit (.int 0)) (fConsA (fLit (.int 0)) fNilA))))) (fConsA (fVar 9) (fConsA (fVar 13) (fConsA (fVar 13) fNilA)))))))) fNilA)))) (fRet (fLit (.bool false))) fSkip)
abbrev RB2 : FS := (fPar 14 15 (fConsA (fCall F__law_kind (fCelA 0 fNilA)) (fConsA (fCall F__law_slot (fCelA 0 fNilA)) fNilA)))
abbrev RB3 : FS := (fSet 4 (fCall F__law_along (fConsA (fTup (fConsA (fOp gMul (fOp gIx (fVar 15) (fLit (.int 1))) (fOp gIx (fVar 14) (fLit (.int 3)))) (fConsA (fOp gMul (fOp gIx (fVar 15) (fLit (.int 0))) (fOp gIx (fVar 14) (fLit (.int 0)))) (fConsA (fOp gMul (fOp gIx (fVar 15) (fLit (.int 0))) (fOp gIx (fVar 14) (fLit (.int 1)))) (fConsA (fOp gMul (fOp gIx (fVar 15) (fLit (.int 0))) (fOp gIx (fVar 14) (fLit (.int 2)))) fNilA))))) fNilA)))
abbrev RB4 : FS := (fRet (fOp gEq (fBi gRepr (fConsA (fOfL (fLst (fConsA (fCall F_turn_about (fConsA (fVar 14) (fConsA (fVar 15) fNilA))) (fConsA (fCall F_turn_about (fPerm [1, 0] (fConsA (fVar 15) (fConsA (fVar 14) fNilA)))) fNilA)))) fNilA)) (fBi gRepr (fConsA (fOfL (fLst (fConsA (fVar 4) (fConsA (fVar 4) fNilA)))) fNilA))))
theorem rb_split : RB = fSeq (RB0 F__law_power) (fSeq RB1 (fSeq RB2 (fSeq RB3 RB4))) := rfl
theorem rb0_ok {FP : FnS} {Z PO PM : PyData} {o m : Int} {cs : Cs} {x1 x3 x5 x6 x7 x8 : Option SV} (p1 : FP [.dat Z, .dat (.int o)] [] = some (.dat PO, [])) (p2 : FP [.dat Z, .dat (.int (o + m))] [] = some (.dat PM, [])) :
    RB0 FP ⟨[some (.cel 0), x1, some (.dat (.list [PO, PO, T4 1 0 0 0, Z, PM, PM])), x3, none, x5, x6, x7, x8, some (.dat Z), some (.dat (.int o)), some (.dat (.int m)), none, none, none, none, none], cs⟩ = some (.nx ⟨[some (.cel 0), x1, some (.dat (.list [PO, PO, T4 1 0 0 0, Z, PM, PM])), x3, none, x5, x6, x7, x8, some (.dat Z), some (.dat (.int o)), some (.dat (.int m)), some (.dat PO), some (.dat PM), none, none, none], cs⟩) := by
  simp only [mkF, fRet, fRetL, fRetN, fSkip, fSeq, fNever, fSet, fAsg, fNew, fIfS, fDrop, fPar, fSetc, fSetc2, fVar, fLit, fOp, fUn, fTup, fTup.datsOf, fLst, fNilA, fConsA, fCelA, fOfL, fTru, fAndT, fOrT, fNotT, fAndV, fOrV, fNotV, fIf, fBi, fCall, fCallL, fCallFr, callF, celOf, celsOk, norm, aName, aNil, aCons, aTup, setD, fSl, fIt, fItL, fItT, fFor, fLc, fYes, wipeD, fCix, fList, fSlL, fPart, fNoPart, fRng1, fRng2, List.length_cons, List.length_nil, List.getElem?_cons_zero, List.getElem?_cons_succ, List.getElem?_nil, List.set_cons_zero, List.set_cons_succ, List.map_cons, List.map_nil, List.cons_append, List.nil_append, List.append_nil, List.replicate, List.take_zero, List.take_nil, List.take_succ_cons, Option.bind_some, Option.map_some, Option.bind_none, Option.map_none, Nat.sub_self, Nat.reduceAdd, Nat.reduceSub, Nat.reduceLeDiff, Nat.zero_add, Nat.add_zero, and_self, and_true, true_and, if_true, if_false, reduceIte, ite_true, Bool.true_eq_false, Bool.false_eq_true, beq_self_eq_true, Bool.and_self, Bool.not_true, Bool.not_false, decide_true, decide_false, gLen, gTyIs, tyOf, gNeg, gPlus, DL.gSub, gCmp, gInt, gAbs, gTuple, gMax, gMin, gGcd, p1, p2]
/-- what comes behind the last append -/
theorem rb_ok {k : Nat} {a s n : Int} (hs : Src k a s n) (hk : k ≤ 600) {z : H4} (r : z.R) (sz : z.S 10) {o m : Nat} (ho : o ≤ 12) (hm : m ≤ 12) (x1 x3 x5 x6 x7 x8 : Option SV) :
    ∃ cs, RB ⟨[some (.cel 0), x1, some (.dat (.list [(pw z o).T, (pw z o).T, T4 1 0 0 0, z.T, (pw z (o + m)).T, (pw z (o + m)).T])), x3, none, x5, x6, x7, x8, some (.dat z.T), some (.dat (.int (o : Nat))), some (.dat (.int (m : Nat))), none, none, none, none, none], [L3 a s n]⟩ = some (.rt (.dat (.bool true)) cs) := by
  obtain ⟨y, a1, s1, n1, e1, g1, ky⟩ := e_kind hs (by omega)
  obtain ⟨c, d, a2, s2, n2, e2, g2, st⟩ := e_slot g1 (by omega)
  have p1 := f_power r sz (show o ≤ 24 by omega)
  have p2 := f_power' r sz (n := o + m) (i := (o : Nat) + (m : Nat)) (by omega) (by push_cast; rfl)
  have q0 : Tn (pw z o).T := tn (pw_S sz o) (by omega)
  have q1 : Tn (pw z (o + m)).T := tn (pw_S sz (o + m)) (by omega)
  have q2 : Tn H4.one.T := tn (n := 1) (one_S (by decide)) (by decide)
  have q3 : Tn z.T := tn sz (by decide)
  obtain ⟨t, t1, t2, t3⟩ := rep_list (tns6 q0 q0 q2 q3 q1 q1) (by simp only [List.length_cons, List.length_nil]; omega)
  have sab := ab_S ky st
  have u1 := f_lalong (ab_f ky st) (S4.mono sab (by decide : 120 ≤ 1000))
  have u2 := f_about ky st
  have q4 := tn (S_al sab) (by decide : 120 ≤ 400)
  obtain ⟨v, v1, v2, v3⟩ := rep_list (tns2 q4 q4) (by simp only [List.length_cons, List.length_nil]; omega)
  obtain ⟨y1, y2, y3, y4⟩ := S4.mono ky.sm (by decide : 60 ≤ 1000)
  have d1 : Sm 1000 c := st.s1.mono (by decide)
  have d2 : Sm 1000 d := st.s2.mono (by decide)
  have t1' : gRepr [.list [(pw z o).T, (pw z o).T, T4 1 0 0 0, z.T, (pw z (o + m)).T, (pw z (o + m)).T]] = some (.str t) := t1
  have u1' : F__law_along [.dat (T4 (d * y.d) (c * y.a) (c * y.b) (c * y.c))] [] = some (.dat (⟨d * y.d, c * y.a, c * y.b, c * y.c⟩ : H4).al.T, []) := u1
  clear u1 v2 t1 t3 q0 q1 q2 q3 q4 sab
  generalize (⟨d * y.d, c * y.a, c * y.b, c * y.c⟩ : H4).al.T = AB at u1' u2 v1
  generalize (pw z o).T = PO at p1 t1' ⊢
  generalize (pw z (o + m)).T = PM at p2 t1' ⊢
  refine ⟨[L3 a2 s2 n2], ?_⟩
  have a0 : RB0 F__law_power ⟨[some (.cel 0), x1, some (.dat (.list [PO, PO, T4 1 0 0 0, z.T, PM, PM])), x3, none, x5, x6, x7, x8, some (.dat z.T), some (.dat (.int (o : Nat))), some (.dat (.int (m : Nat))), none, none, none, none, none], [L3 a s n]⟩ = some (.nx ⟨[some (.cel 0), x1, some (.dat (.list [PO, PO, T4 1 0 0 0, z.T, PM, PM])), x3, none, x5, x6, x7, x8, some (.dat z.T), some (.dat (.int (o : Nat))), some (.dat (.int (m : Nat))), some (.dat PO), some (.dat PM), none, none, none], [L3 a s n]⟩) := rb0_ok p1 p2
  have a1' : RB1 ⟨[some (.cel 0), x1, some (.dat (.list [PO, PO, T4 1 0 0 0, z.T, PM, PM])), x3, none, x5, x6, x7, x8, some (.dat z.T), some (.dat (.int (o : Nat))), some (.dat (.int (m : Nat))), some (.dat PO), some (.dat PM), none, none, none], [L3 a s n]⟩ = some (.nx ⟨[some (.cel 0), x1, some (.dat (.list [PO, PO, T4 1 0 0 0, z.T, PM, PM])), x3, none, x5, x6, x7, x8, some (.dat z.T), some (.dat (.int (o : Nat))), some (.dat (.int (m : Nat))), some (.dat PO), some (.dat PM), none, none, none], [L3 a s n]⟩) := by
    simp only [mkF, fRet, fRetL, fRetN, fSkip, fSeq, fNever, fSet, fAsg, fNew, fIfS, fDrop, fPar, fSetc, fSetc2, fVar, fLit, fOp, fUn, fTup, fTup.datsOf, fLst, fNilA, fConsA, fCelA, fOfL, fTru, fAndT, fOrT, fNotT, fAndV, fOrV, fNotV, fIf, fBi, fCall, fCallL, fCallFr, callF, celOf, celsOk, norm, aName, aNil, aCons, aTup, setD, fSl, fIt, fItL, fItT, fFor, fLc, fYes, wipeD, fCix, fList, fSlL, fPart, fNoPart, fRng1, fRng2, List.length_cons, List.length_nil, List.getElem?_cons_zero, List.getElem?_cons_succ, List.getElem?_nil, List.set_cons_zero, List.set_cons_succ, List.map_cons, List.map_nil, List.cons_append, List.nil_append, List.append_nil, List.replicate, List.take_zero, List.take_nil, List.take_succ_cons, Option.bind_some, Option.map_some, Option.bind_none, Option.map_none, Nat.sub_self, Nat.reduceAdd, Nat.reduceSub, Nat.reduceLeDiff, Nat.zero_add, Nat.add_zero, and_self, and_true, true_and, if_true, if_false, reduceIte, ite_true, Bool.true_eq_false, Bool.false_eq_true, beq_self_eq_true, Bool.and_self, Bool.not_true, Bool.not_false, decide_true, decide_false, gLen, gTyIs, tyOf, gNeg, gPlus, DL.gSub, gCmp, gInt, gAbs, gTuple, gMax, gMin, gGcd, t1', t2, LIM]
  have a2' : RB2 ⟨[some (.cel 0), x1, some (.dat (.list [PO, PO, T4 1 0 0 0, z.T, PM, PM])), x3, none, x5, x6, x7, x8, some (.dat z.T), some (.dat (.int (o : Nat))), some (.dat (.int (m : Nat))), some (.dat PO), some (.dat PM), none, none, none], [L3 a s n]⟩ = some (.nx ⟨[some (.cel 0), x1, some (.dat (.list [PO, PO, T4 1 0 0 0, z.T, PM, PM])), x3, none, x5, x6, x7, x8, some (.dat z.T), some (.dat (.int (o : Nat))), some (.dat (.int (m : Nat))), some (.dat PO), some (.dat PM), some (.dat y.T), some (.dat (T2 c d)), none], [L3 a2 s2 n2]⟩) := by
    simp only [mkF, fRet, fRetL, fRetN, fSkip, fSeq, fNever, fSet, fAsg, fNew, fIfS, fDrop, fPar, fSetc, fSetc2, fVar, fLit, fOp, fUn, fTup, fTup.datsOf, fLst, fNilA, fConsA, fCelA, fOfL, fTru, fAndT, fOrT, fNotT, fAndV, fOrV, fNotV, fIf, fBi, fCall, fCallL, fCallFr, callF, celOf, celsOk, norm, aName, aNil, aCons, aTup, setD, fSl, fIt, fItL, fItT, fFor, fLc, fYes, wipeD, fCix, fList, fSlL, fPart, fNoPart, fRng1, fRng2, List.length_cons, List.length_nil, List.getElem?_cons_zero, List.getElem?_cons_succ, List.getElem?_nil, List.set_cons_zero, List.set_cons_succ, List.map_cons, List.map_nil, List.cons_append, List.nil_append, List.append_nil, List.replicate, List.take_zero, List.take_nil, List.take_succ_cons, Option.bind_some, Option.map_some, Option.bind_none, Option.map_none, Nat.sub_self, Nat.reduceAdd, Nat.reduceSub, Nat.reduceLeDiff, Nat.zero_add, Nat.add_zero, and_self, and_true, true_and, if_true, if_false, reduceIte, ite_true, Bool.true_eq_false, Bool.false_eq_true, beq_self_eq_true, Bool.and_self, Bool.not_true, Bool.not_false, decide_true, decide_false, gLen, gTyIs, tyOf, gNeg, gPlus, DL.gSub, gCmp, gInt, gAbs, gTuple, gMax, gMin, gGcd, e1, e2]
  have a3 : RB3 ⟨[some (.cel 0), x1, some (.dat (.list [PO, PO, T4 1 0 0 0, z.T, PM, PM])), x3, none, x5, x6, x7, x8, some (.dat z.T), some (.dat (.int (o : Nat))), some (.dat (.int (m : Nat))), some (.dat PO), some (.dat PM), some (.dat y.T), some (.dat (T2 c d)), none], [L3 a2 s2 n2]⟩ = some (.nx ⟨[some (.cel 0), x1, some (.dat (.list [PO, PO, T4 1 0 0 0, z.T, PM, PM])), x3, some (.dat AB), x5, x6, x7, x8, some (.dat z.T), some (.dat (.int (o : Nat))), some (.dat (.int (m : Nat))), some (.dat PO), some (.dat PM), some (.dat y.T), some (.dat (T2 c d)), none], [L3 a2 s2 n2]⟩) := by
    simp only [mkF, fRet, fRetL, fRetN, fSkip, fSeq, fNever, fSet, fAsg, fNew, fIfS, fDrop, fPar, fSetc, fSetc2, fVar, fLit, fOp, fUn, fTup, fTup.datsOf, fLst, fNilA, fConsA, fCelA, fOfL, fTru, fAndT, fOrT, fNotT, fAndV, fOrV, fNotV, fIf, fBi, fCall, fCallL, fCallFr, callF, celOf, celsOk, norm, aName, aNil, aCons, aTup, setD, fSl, fIt, fItL, fItT, fFor, fLc, fYes, wipeD, fCix, fList, fSlL, fPart, fNoPart, fRng1, fRng2, List.length_cons, List.length_nil, List.getElem?_cons_zero, List.getElem?_cons_succ, List.getElem?_nil, List.set_cons_zero, List.set_cons_succ, List.map_cons, List.map_nil, List.cons_append, List.nil_append, List.append_nil, List.replicate, List.take_zero, List.take_nil, List.take_succ_cons, Option.bind_some, Option.map_some, Option.bind_none, Option.map_none, Nat.sub_self, Nat.reduceAdd, Nat.reduceSub, Nat.reduceLeDiff, Nat.zero_add, Nat.add_zero, and_self, and_true, true_and, if_true, if_false, reduceIte, ite_true, Bool.true_eq_false, Bool.false_eq_true, beq_self_eq_true, Bool.and_self, Bool.not_true, Bool.not_false, decide_true, decide_false, gLen, gTyIs, tyOf, gNeg, gPlus, DL.gSub, gCmp, gInt, gAbs, gTuple, gMax, gMin, gGcd, ix0, ix1, ix3, ix40, ix41, ix42, gMul_ok, y1, y2, y3, y4, d1, d2, u1', LIM]
  have a4 : RB4 ⟨[some (.cel 0), x1, some (.dat (.list [PO, PO, T4 1 0 0 0, z.T, PM, PM])), x3, some (.dat AB), x5, x6, x7, x8, some (.dat z.T), some (.dat (.int (o : Nat))), some (.dat (.int (m : Nat))), some (.dat PO), some (.dat PM), some (.dat y.T), some (.dat (T2 c d)), none], [L3 a2 s2 n2]⟩ = some (.rt (.dat (.bool true)) [L3 a2 s2 n2]) := by
    simp only [mkF, fRet, fRetL, fRetN, fSkip, fSeq, fNever, fSet, fAsg, fNew, fIfS, fDrop, fPar, fSetc, fSetc2, fVar, fLit, fOp, fUn, fTup, fTup.datsOf, fLst, fNilA, fConsA, fCelA, fOfL, fTru, fAndT, fOrT, fNotT, fAndV, fOrV, fNotV, fIf, fBi, fCall, fCallL, fCallFr, callF, celOf, celsOk, norm, aName, aNil, aCons, aTup, setD, fSl, fIt, fItL, fItT, fFor, fLc, fYes, wipeD, fCix, fList, fSlL, fPart, fNoPart, fRng1, fRng2, List.length_cons, List.length_nil, List.getElem?_cons_zero, List.getElem?_cons_succ, List.getElem?_nil, List.set_cons_zero, List.set_cons_succ, List.map_cons, List.map_nil, List.cons_append, List.nil_append, List.append_nil, List.replicate, List.take_zero, List.take_nil, List.take_succ_cons, Option.bind_some, Option.map_some, Option.bind_none, Option.map_none, Nat.sub_self, Nat.reduceAdd, Nat.reduceSub, Nat.reduceLeDiff, Nat.zero_add, Nat.add_zero, and_self, and_true, true_and, if_true, if_false, reduceIte, ite_true, Bool.true_eq_false, Bool.false_eq_true, beq_self_eq_true, Bool.and_self, Bool.not_true, Bool.not_false, decide_true, decide_false, gLen, gTyIs, tyOf, gNeg, gPlus, DL.gSub, gCmp, gInt, gAbs, gTuple, gMax, gMin, gGcd, u2, fPerm, perm10, v1, v3, LIM]
  rw [rb_split]
  exact (seq_nx a0).trans ((seq_nx a1').trans ((seq_nx a2').trans ((seq_nx a3).trans a4)))
end K26


set_option Elab.async false
set_option linter.all false
set_option maxRecDepth 100000
set_option maxHeartbeats 1000000
set_option exponentiation.threshold 20000
namespace K26
open PySem PySem.Spec L2 DL Q4
theorem lt4 : ((4 : Nat) < 100000) = True := eq_true (by decide)
theorem lt5 : ((5 : Nat) < 100000) = True := eq_true (by decide)
theorem sm_by {v : Int} (h : v = 2 ∨ v = 1 ∨ v = -1 ∨ v = -3 ∨ v = 7) : Sm 10 v ∧ v ≠ 0 := by
  rcases h with rfl | rfl | rfl | rfl | rfl <;> exact ⟨by unfold Sm; decide, by decide⟩
theorem S_s {v : Int} {x : H4} {m n : Nat} (h : Sm m v) (s : x.S n) : (H4.s v x).S (m + n) := ⟨h.mul s.1, h.mul s.2.1, h.mul s.2.2.1, h.mul s.2.2.2⟩
theorem frz_ok {r : FS} {x1 x3 x4 x5 x6 x7 x8 x9 x10 x11 : PyData} {w u : List PyData} : fFrz n0__law_right 2 r ⟨[some (.cel 0), some (.dat x1), some (.cel 1), some (.dat x3), none, some (.dat x5), some (.dat x6), some (.dat x7), some (.dat x8), some (.dat x9), some (.dat x10), some (.dat x11), none, none, none, none, none], [w, u]⟩ =
    r ⟨[some (.cel 0), some (.dat x1), some (.dat (.list u)), some (.dat x3), none, some (.dat x5), some (.dat x6), some (.dat x7), some (.dat x8), some (.dat x9), some (.dat x10), some (.dat x11), none, none, none, none, none], [w]⟩ := rfl
theorem e_right {k : Nat} {a s n : Int} (hs : Src k a s n) (hk : k ≤ 400) : ∃ c, F__law_right [.cel 0] [L3 a s n] = some (.dat (.bool true), c) := by
  obtain ⟨x, a1, s1, n1, e1, g1, fx, sx⟩ := e_four hs (by omega)
  obtain ⟨y, a2, s2, n2, e2, g2, fy, sy⟩ := e_four g1 (by omega)
  obtain ⟨b, a3, s3, n3, e3, g3, hb⟩ := e_pick (xs := [.int 2, .int 1, .int (-1), .int (-3), .int 7]) g2 (by omega) (by decide) (by decide)
  have hm : ∃ v : Int, b = .int v ∧ (v = 2 ∨ v = 1 ∨ v = -1 ∨ v = -3 ∨ v = 7) := by
    simp only [List.mem_cons, List.not_mem_nil, or_false] at hb
    rcases hb with rfl | rfl | rfl | rfl | rfl
    · exact ⟨_, rfl, .inl rfl⟩
    · exact ⟨_, rfl, .inr (.inl rfl)⟩
    · exact ⟨_, rfl, .inr (.inr (.inl rfl))⟩
    · exact ⟨_, rfl, .inr (.inr (.inr (.inl rfl)))⟩
    · exact ⟨_, rfl, .inr (.inr (.inr (.inr rfl)))⟩
  obtain ⟨v, rfl, hv⟩ := hm
  obtain ⟨sv, nv⟩ := sm_by hv
  have l1 := f_lalong fx (S4.mono sx (by decide : 60 ≤ 1000))
  have l2 := f_lalong fy (S4.mono sy (by decide : 60 ≤ 1000))
  have t1 := f_talong fx (S4.mono sx (by decide : 60 ≤ 1000))
  have t2 := f_talong (f_s nv fx) (S4.mono (S_s sv sx) (by decide : 10 + 60 ≤ 1000))
  rw [al_mul nv fx] at t2
  have t2' : F_turn_along [.dat (T4 (v * x.a) (v * x.b) (v * x.c) (v * x.d))] [] = some (.dat x.al.T, []) := t2
  have rx := al_red fx
  have ry := al_red fy
  have zx : x.al.S 60 := S_al sx
  have zy : y.al.S 60 := S_al sy
  generalize hX : x.al = X at l1 t1 t2' rx zx
  generalize hY : y.al = Y at l2 ry zy
  obtain ⟨r1, r2, r3, r4⟩ := rep_list (tns3 (tn zx (by decide)) (tn zx (by decide)) (tn zx (by decide))) (by simp only [List.length_cons, List.length_nil]; omega)
  have ft := f_told rx (S4.mono zx (by decide : 60 ≤ 400))
  have j1 := f_join rx ry (S4.mono zx (by decide : 60 ≤ 400)) (S4.mono zy (by decide : 60 ≤ 400))
  have j2 := f_join ry rx (S4.mono zy (by decide : 60 ≤ 400)) (S4.mono zx (by decide : 60 ≤ 400))
  have k1 := f_both rx ry (S4.mono zx (by decide : 60 ≤ 400)) (S4.mono zy (by decide : 60 ≤ 400))
  have k2 := f_both ry rx (S4.mono zy (by decide : 60 ≤ 400)) (S4.mono zx (by decide : 60 ≤ 400))
  have w1 := tn (S_al (S_m zy zx)) (by decide : 60 + 60 + 3 ≤ 400)
  have w2 := tn (S_al (S_m zx zy)) (by decide : 60 + 60 + 3 ≤ 400)
  obtain ⟨u1, u2, u3, u4⟩ := rep_list (tns3 w1 w1 w2) (by simp only [List.length_cons, List.length_nil]; omega)
  have cS : X.cj.S 60 := ⟨zx.1, by have := zx.2.1; unfold Sm at *; show (-X.b).natAbs < _; omega, by have := zx.2.2.1; unfold Sm at *; show (-X.c).natAbs < _; omega, by have := zx.2.2.2; unfold Sm at *; show (-X.d).natAbs < _; omega⟩
  have bf := f_lalong (cj_f (R.f rx)) (S4.mono cS (by decide : 60 ≤ 1000))
  have bf' : F__law_along [.dat (T4 X.a (-X.b) (-X.c) (-X.d))] [] = some (.dat X.cj.al.T, []) := bf
  have tb := f_back rx (S4.mono zx (by decide : 60 ≤ 400))
  have br := al_red (cj_f (R.f rx))
  have bS := S_al cS
  have jb1 := f_join rx br (S4.mono zx (by decide : 60 ≤ 400)) (S4.mono bS (by decide : 60 ≤ 400))
  have jb2 := f_join br rx (S4.mono bS (by decide : 60 ≤ 400)) (S4.mono zx (by decide : 60 ≤ 400))
  rw [back_l (R.f rx)] at jb1
  rw [back_r (R.f rx)] at jb2
  have jb1' : F_joined_turns [.dat X.T, .dat X.cj.al.T] [] = some (.dat (T4 1 0 0 0), []) := jb1
  have jb2' : F_joined_turns [.dat X.cj.al.T, .dat X.T] [] = some (.dat (T4 1 0 0 0), []) := jb2
  have o1 : Tn (T4 1 0 0 0) := tn (x := H4.one) (n := 1) (one_S (by decide)) (by decide)
  obtain ⟨b1, b2, b3, b4⟩ := rep_list (tns4 (tn bS (by decide)) (tn bS (by decide)) o1 o1) (by simp only [List.length_cons, List.length_nil]; omega)
  generalize hB : X.cj.al = B at bf' tb jb1' jb2' b2
  obtain ⟨za, zb, zc, zd, a4, s4, n4, e4, g4, rz, sz⟩ := e_spin g3 (by omega)
  obtain ⟨o, a5, s5, n5, e5, g5, o0, o2⟩ := e_draw (top := 13) g4 (by omega) (by decide) (by decide)
  obtain ⟨m, a6, s6, n6, e6, g6, m0, m2⟩ := e_draw (top := 13) g5 (by omega) (by decide) (by decide)
  obtain ⟨o', rfl⟩ := Int.eq_ofNat_of_zero_le o0
  obtain ⟨m', rfl⟩ := Int.eq_ofNat_of_zero_le m0
  have ho : o' ≤ 12 := by omega
  have hm : m' ≤ 12 := by omega
  have hZ : ∃ z : H4, z.T = T4 za zb zc zd ∧ z.R ∧ z.S 10 := ⟨⟨za, zb, zc, zd⟩, rfl, rz, sz⟩
  obtain ⟨z, ez, Rz, Sz⟩ := hZ
  rw [← ez] at e4
  have p1 := f_times Rz Sz (show o' ≤ 24 by omega)
  have p2 := f_times Rz Sz (show m' ≤ 24 by omega)
  have p3 := f_times' Rz Sz (n := 0) (i := 0) (by decide) rfl
  have p4 := f_times' Rz Sz (n := 1) (i := 1) (by decide) rfl
  rw [pw_one Rz] at p4
  have p3' : F_turn_times [.dat z.T, .dat (.int 0)] [] = some (.dat (T4 1 0 0 0), []) := p3
  have p5 := f_times' Rz Sz (n := o' + m') (i := (o' : Nat) + (m' : Nat)) (by omega) (by push_cast; rfl)
  have p6 := f_join (pw_R Rz o') (pw_R Rz m') (S4.mono (pw_S Sz o') (by omega)) (S4.mono (pw_S Sz m') (by omega))
  rw [pw_add Rz, Nat.add_comm m' o'] at p6
  obtain ⟨cs, hrb⟩ := rb_ok g6 (by omega) Rz Sz ho hm (some (.dat (.int v))) (some (.dat B.T)) (some (.dat x.T)) (some (.dat y.T)) (some (.dat X.T)) (some (.dat Y.T))
  refine ⟨cs.take 1, ?_⟩
  have q1 : Sm 1000 v := sv.mono (by decide)
  obtain ⟨q2, q3, q4, q5⟩ := S4.mono sx (by decide : 60 ≤ 1000)
  have hfz := fun (w u : List PyData) => frz_ok (r := RB) (x1 := .int v) (x3 := B.T) (x4 := .none) (x5 := x.T) (x6 := y.T) (x7 := X.T) (x8 := Y.T) (x9 := z.T) (x10 := .int (o' : Nat)) (x11 := .int (m' : Nat)) (w := w) (u := u)
  generalize hRB : RB = rb at hrb hfz
  have e0 : b__law_right = RA0 (fFrz n0__law_right 2 rb) F__law_four F__law_spin F_turn_times F__law_are_told F_joined_turns F__law_along F_turn_along F_turn_back F__law_both F__law_draw F__law_pick := by rw [← hRB]; exact r_split
  generalize hRF : fFrz n0__law_right 2 rb = rf at hfz e0
  have hm : mkF 1 17 1 b__law_right [.cel 0] [L3 a s n] = some (.dat (.bool true), cs.take 1) := by
    rw [e0]
    clear e0
    generalize F__law_four = F4 at e1 e2 ⊢
    generalize F__law_spin = FSp at e4 ⊢
    generalize F_turn_times = FT at p1 p2 p3' p4 p5 ⊢
    generalize F__law_are_told = G0 at ft ⊢
    generalize F_joined_turns = G1 at j1 j2 jb1' jb2' p6 ⊢
    generalize F__law_along = G2 at l1 l2 bf' ⊢
    generalize F_turn_along = G3 at t1 t2' ⊢
    generalize F_turn_back = G4 at tb ⊢
    generalize F__law_both = G5 at k1 k2 ⊢
    generalize F__law_draw = G6 at e5 e6 ⊢
    generalize F__law_pick = G7 at e3 ⊢
    have c0 : (fPar 5 6 (fConsA (fCall F4 (fCelA 0 fNilA)) (fConsA (fCall F4 (fCelA 0 fNilA)) fNilA))) ⟨[some (.cel 0), none, none, none, none, none, none, none, none, none, none, none, none, none, none, none, none], [L3 a s n]⟩ = some (.nx ⟨[some (.cel 0), none, none, none, none, some (.dat x.T), some (.dat y.T), none, none, none, none, none, none, none, none, none, none], [L3 a2 s2 n2]⟩) := by
      simp only [mkF, fRet, fRetL, fRetN, fSkip, fSeq, fNever, fSet, fAsg, fNew, fIfS, fDrop, fPar, fSetc, fSetc2, fVar, fLit, fOp, fUn, fTup, fTup.datsOf, fLst, fNilA, fConsA, fCelA, fOfL, fTru, fAndT, fOrT, fNotT, fAndV, fOrV, fNotV, fIf, fBi, fCall, fCallL, fCallFr, callF, celOf, celsOk, norm, aName, aNil, aCons, aTup, setD, fSl, fIt, fItL, fItT, fFor, fLc, fYes, wipeD, fCix, fList, fSlL, fPart, fNoPart, fRng1, fRng2, List.length_cons, List.length_nil, List.getElem?_cons_zero, List.getElem?_cons_succ, List.getElem?_nil, List.set_cons_zero, List.set_cons_succ, List.map_cons, List.map_nil, List.cons_append, List.nil_append, List.append_nil, List.replicate, List.take_zero, List.take_nil, List.take_succ_cons, Option.bind_some, Option.map_some, Option.bind_none, Option.map_none, Nat.sub_self, Nat.reduceAdd, Nat.reduceSub, Nat.reduceLeDiff, Nat.zero_add, Nat.add_zero, and_self, and_true, true_and, if_true, if_false, reduceIte, ite_true, Bool.true_eq_false, Bool.false_eq_true, beq_self_eq_true, Bool.and_self, Bool.not_true, Bool.not_false, decide_true, decide_false, gLen, gTyIs, tyOf, gNeg, gPlus, DL.gSub, gCmp, gInt, gAbs, gTuple, gMax, gMin, gGcd, e1, e2]
    have c1 : (fSet 1 (fCall G7 (fCelA 0 (fConsA (fTup (fConsA (fLit (.int 2)) (fConsA (fLit (.int 1)) (fConsA (fUn gNeg (fLit (.int 1))) (fConsA (fUn gNeg (fLit (.int 3))) (fConsA (fLit (.int 7)) fNilA)))))) fNilA)))) ⟨[some (.cel 0), none, none, none, none, some (.dat x.T), some (.dat y.T), none, none, none, none, none, none, none, none, none, none], [L3 a2 s2 n2]⟩ = some (.nx ⟨[some (.cel 0), some (.dat (.int v)), none, none, none, some (.dat x.T), some (.dat y.T), none, none, none, none, none, none, none, none, none, none], [L3 a3 s3 n3]⟩) := by
      simp only [mkF, fRet, fRetL, fRetN, fSkip, fSeq, fNever, fSet, fAsg, fNew, fIfS, fDrop, fPar, fSetc, fSetc2, fVar, fLit, fOp, fUn, fTup, fTup.datsOf, fLst, fNilA, fConsA, fCelA, fOfL, fTru, fAndT, fOrT, fNotT, fAndV, fOrV, fNotV, fIf, fBi, fCall, fCallL, fCallFr, callF, celOf, celsOk, norm, aName, aNil, aCons, aTup, setD, fSl, fIt, fItL, fItT, fFor, fLc, fYes, wipeD, fCix, fList, fSlL, fPart, fNoPart, fRng1, fRng2, List.length_cons, List.length_nil, List.getElem?_cons_zero, List.getElem?_cons_succ, List.getElem?_nil, List.set_cons_zero, List.set_cons_succ, List.map_cons, List.map_nil, List.cons_append, List.nil_append, List.append_nil, List.replicate, List.take_zero, List.take_nil, List.take_succ_cons, Option.bind_some, Option.map_some, Option.bind_none, Option.map_none, Nat.sub_self, Nat.reduceAdd, Nat.reduceSub, Nat.reduceLeDiff, Nat.zero_add, Nat.add_zero, and_self, and_true, true_and, if_true, if_false, reduceIte, ite_true, Bool.true_eq_false, Bool.false_eq_true, beq_self_eq_true, Bool.and_self, Bool.not_true, Bool.not_false, decide_true, decide_false, gLen, gTyIs, tyOf, gNeg, gPlus, DL.gSub, gCmp, gInt, gAbs, gTuple, gMax, gMin, gGcd, e3, LIM]
    have c2 : (fPar 7 8 (fConsA (fCall G2 (fConsA (fVar 5) fNilA)) (fConsA (fCall G2 (fConsA (fVar 6) fNilA)) fNilA))) ⟨[some (.cel 0), some (.dat (.int v)), none, none, none, some (.dat x.T), some (.dat y.T), none, none, none, none, none, none, none, none, none, none], [L3 a3 s3 n3]⟩ = some (.nx ⟨[some (.cel 0), some (.dat (.int v)), none, none, none, some (.dat x.T), some (.dat y.T), some (.dat X.T), some (.dat Y.T), none, none, none, none, none, none, none, none], [L3 a3 s3 n3]⟩) := by
      simp only [mkF, fRet, fRetL, fRetN, fSkip, fSeq, fNever, fSet, fAsg, fNew, fIfS, fDrop, fPar, fSetc, fSetc2, fVar, fLit, fOp, fUn, fTup, fTup.datsOf, fLst, fNilA, fConsA, fCelA, fOfL, fTru, fAndT, fOrT, fNotT, fAndV, fOrV, fNotV, fIf, fBi, fCall, fCallL, fCallFr, callF, celOf, celsOk, norm, aName, aNil, aCons, aTup, setD, fSl, fIt, fItL, fItT, fFor, fLc, fYes, wipeD, fCix, fList, fSlL, fPart, fNoPart, fRng1, fRng2, List.length_cons, List.length_nil, List.getElem?_cons_zero, List.getElem?_cons_succ, List.getElem?_nil, List.set_cons_zero, List.set_cons_succ, List.map_cons, List.map_nil, List.cons_append, List.nil_append, List.append_nil, List.replicate, List.take_zero, List.take_nil, List.take_succ_cons, Option.bind_some, Option.map_some, Option.bind_none, Option.map_none, Nat.sub_self, Nat.reduceAdd, Nat.reduceSub, Nat.reduceLeDiff, Nat.zero_add, Nat.add_zero, and_self, and_true, true_and, if_true, if_false, reduceIte, ite_true, Bool.true_eq_false, Bool.false_eq_true, beq_self_eq_true, Bool.and_self, Bool.not_true, Bool.not_false, decide_true, decide_false, gLen, gTyIs, tyOf, gNeg, gPlus, DL.gSub, gCmp, gInt, gAbs, gTuple, gMax, gMin, gGcd, l1, l2]
    have c3 : (fSet 2 (fOfL (fLst (fConsA (fCall G3 (fConsA (fVar 5) fNilA)) (fConsA (fCall G3 (fConsA (fBi gTuple (fConsA (fOfL (fLc (fIt (fVar 5)) (aName 16) fYes (fOp gMul (fVar 1) (fVar 16)) [16])) fNilA)) fNilA)) (fConsA (fCall G3 (fConsA (fVar 5) fNilA)) fNilA)))))) ⟨[some (.cel 0), some (.dat (.int v)), none, none, none, some (.dat x.T), some (.dat y.T), some (.dat X.T), some (.dat Y.T), none, none, none, none, none, none, none, none], [L3 a3 s3 n3]⟩ = some (.nx ⟨[some (.cel 0), some (.dat (.int v)), some (.dat (.list [X.T, X.T, X.T])), none, none, some (.dat x.T), some (.dat y.T), some (.dat X.T), some (.dat Y.T), none, none, none, none, none, none, none, none], [L3 a3 s3 n3]⟩) := by
      simp only [mkF, fRet, fRetL, fRetN, fSkip, fSeq, fNever, fSet, fAsg, fNew, fIfS, fDrop, fPar, fSetc, fSetc2, fVar, fLit, fOp, fUn, fTup, fTup.datsOf, fLst, fNilA, fConsA, fCelA, fOfL, fTru, fAndT, fOrT, fNotT, fAndV, fOrV, fNotV, fIf, fBi, fCall, fCallL, fCallFr, callF, celOf, celsOk, norm, aName, aNil, aCons, aTup, setD, fSl, fIt, fItL, fItT, fFor, fLc, fYes, wipeD, fCix, fList, fSlL, fPart, fNoPart, fRng1, fRng2, List.length_cons, List.length_nil, List.getElem?_cons_zero, List.getElem?_cons_succ, List.getElem?_nil, List.set_cons_zero, List.set_cons_succ, List.map_cons, List.map_nil, List.cons_append, List.nil_append, List.append_nil, List.replicate, List.take_zero, List.take_nil, List.take_succ_cons, Option.bind_some, Option.map_some, Option.bind_none, Option.map_none, Nat.sub_self, Nat.reduceAdd, Nat.reduceSub, Nat.reduceLeDiff, Nat.zero_add, Nat.add_zero, and_self, and_true, true_and, if_true, if_false, reduceIte, ite_true, Bool.true_eq_false, Bool.false_eq_true, beq_self_eq_true, Bool.and_self, Bool.not_true, Bool.not_false, decide_true, decide_false, gLen, gTyIs, tyOf, gNeg, gPlus, DL.gSub, gCmp, gInt, gAbs, gTuple, gMax, gMin, gGcd, t1, lcGo, gMul_ok, q1, q2, q3, q4, q5, t2', LIM]
    have c4 : (fIfS (fOrT (fTru (fOp gNe (fBi gRepr (fConsA (fVar 2) fNilA)) (fBi gRepr (fConsA (fRep (fLst (fConsA (fVar 7) fNilA)) (fLit (.int 3))) fNilA)))) (fNotT (fTru (fCall G0 (fConsA (fVar 7) fNilA))))) (fRet (fLit (.bool false))) fSkip) ⟨[some (.cel 0), some (.dat (.int v)), some (.dat (.list [X.T, X.T, X.T])), none, none, some (.dat x.T), some (.dat y.T), some (.dat X.T), some (.dat Y.T), none, none, none, none, none, none, none, none], [L3 a3 s3 n3]⟩ = some (.nx ⟨[some (.cel 0), some (.dat (.int v)), some (.dat (.list [X.T, X.T, X.T])), none, none, some (.dat x.T), some (.dat y.T), some (.dat X.T), some (.dat Y.T), none, none, none, none, none, none, none, none], [L3 a3 s3 n3]⟩) := by
      simp only [mkF, fRet, fRetL, fRetN, fSkip, fSeq, fNever, fSet, fAsg, fNew, fIfS, fDrop, fPar, fSetc, fSetc2, fVar, fLit, fOp, fUn, fTup, fTup.datsOf, fLst, fNilA, fConsA, fCelA, fOfL, fTru, fAndT, fOrT, fNotT, fAndV, fOrV, fNotV, fIf, fBi, fCall, fCallL, fCallFr, callF, celOf, celsOk, norm, aName, aNil, aCons, aTup, setD, fSl, fIt, fItL, fItT, fFor, fLc, fYes, wipeD, fCix, fList, fSlL, fPart, fNoPart, fRng1, fRng2, List.length_cons, List.length_nil, List.getElem?_cons_zero, List.getElem?_cons_succ, List.getElem?_nil, List.set_cons_zero, List.set_cons_succ, List.map_cons, List.map_nil, List.cons_append, List.nil_append, List.append_nil, List.replicate, List.take_zero, List.take_nil, List.take_succ_cons, Option.bind_some, Option.map_some, Option.bind_none, Option.map_none, Nat.sub_self, Nat.reduceAdd, Nat.reduceSub, Nat.reduceLeDiff, Nat.zero_add, Nat.add_zero, and_self, and_true, true_and, if_true, if_false, reduceIte, ite_true, Bool.true_eq_false, Bool.false_eq_true, beq_self_eq_true, Bool.and_self, Bool.not_true, Bool.not_false, decide_true, decide_false, gLen, gTyIs, tyOf, gNeg, gPlus, DL.gSub, gCmp, gInt, gAbs, gTuple, gMax, gMin, gGcd, fRep, rep3, rng3, le3, r2, r3, ft, LIM]
    have c5 : (fSet 2 (fOfL (fLst (fConsA (fCall G1 (fConsA (fVar 7) (fConsA (fVar 8) fNilA))) (fConsA (fCall G1 (fPerm [1, 0] (fConsA (fVar 8) (fConsA (fVar 7) fNilA)))) (fConsA (fCall G1 (fConsA (fVar 8) (fConsA (fVar 7) fNilA))) fNilA)))))) ⟨[some (.cel 0), some (.dat (.int v)), some (.dat (.list [X.T, X.T, X.T])), none, none, some (.dat x.T), some (.dat y.T), some (.dat X.T), some (.dat Y.T), none, none, none, none, none, none, none, none], [L3 a3 s3 n3]⟩ = some (.nx ⟨[some (.cel 0), some (.dat (.int v)), some (.dat (.list [(Y.m X).al.T, (Y.m X).al.T, (X.m Y).al.T])), none, none, some (.dat x.T), some (.dat y.T), some (.dat X.T), some (.dat Y.T), none, none, none, none, none, none, none, none], [L3 a3 s3 n3]⟩) := by
      simp only [mkF, fRet, fRetL, fRetN, fSkip, fSeq, fNever, fSet, fAsg, fNew, fIfS, fDrop, fPar, fSetc, fSetc2, fVar, fLit, fOp, fUn, fTup, fTup.datsOf, fLst, fNilA, fConsA, fCelA, fOfL, fTru, fAndT, fOrT, fNotT, fAndV, fOrV, fNotV, fIf, fBi, fCall, fCallL, fCallFr, callF, celOf, celsOk, norm, aName, aNil, aCons, aTup, setD, fSl, fIt, fItL, fItT, fFor, fLc, fYes, wipeD, fCix, fList, fSlL, fPart, fNoPart, fRng1, fRng2, List.length_cons, List.length_nil, List.getElem?_cons_zero, List.getElem?_cons_succ, List.getElem?_nil, List.set_cons_zero, List.set_cons_succ, List.map_cons, List.map_nil, List.cons_append, List.nil_append, List.append_nil, List.replicate, List.take_zero, List.take_nil, List.take_succ_cons, Option.bind_some, Option.map_some, Option.bind_none, Option.map_none, Nat.sub_self, Nat.reduceAdd, Nat.reduceSub, Nat.reduceLeDiff, Nat.zero_add, Nat.add_zero, and_self, and_true, true_and, if_true, if_false, reduceIte, ite_true, Bool.true_eq_false, Bool.false_eq_true, beq_self_eq_true, Bool.and_self, Bool.not_true, Bool.not_false, decide_true, decide_false, gLen, gTyIs, tyOf, gNeg, gPlus, DL.gSub, gCmp, gInt, gAbs, gTuple, gMax, gMin, gGcd, j1, j2, fPerm, perm10, LIM]
    have c6 : (fIfS (fTru (fOp gNe (fBi gRepr (fConsA (fVar 2) fNilA)) (fBi gRepr (fConsA (fOfL (fLst (fConsA (fCall G5 (fConsA (fVar 7) (fConsA (fVar 8) fNilA))) (fConsA (fCall G5 (fConsA (fVar 7) (fConsA (fVar 8) fNilA))) (fConsA (fCall G5 (fConsA (fVar 8) (fConsA (fVar 7) fNilA))) fNilA))))) fNilA)))) (fRet (fLit (.bool false))) fSkip) ⟨[some (.cel 0), some (.dat (.int v)), some (.dat (.list [(Y.m X).al.T, (Y.m X).al.T, (X.m Y).al.T])), none, none, some (.dat x.T), some (.dat y.T), some (.dat X.T), some (.dat Y.T), none, none, none, none, none, none, none, none], [L3 a3 s3 n3]⟩ = some (.nx ⟨[some (.cel 0), some (.dat (.int v)), some (.dat (.list [(Y.m X).al.T, (Y.m X).al.T, (X.m Y).al.T])), none, none, some (.dat x.T), some (.dat y.T), some (.dat X.T), some (.dat Y.T), none, none, none, none, none, none, none, none], [L3 a3 s3 n3]⟩) := by
      simp only [mkF, fRet, fRetL, fRetN, fSkip, fSeq, fNever, fSet, fAsg, fNew, fIfS, fDrop, fPar, fSetc, fSetc2, fVar, fLit, fOp, fUn, fTup, fTup.datsOf, fLst, fNilA, fConsA, fCelA, fOfL, fTru, fAndT, fOrT, fNotT, fAndV, fOrV, fNotV, fIf, fBi, fCall, fCallL, fCallFr, callF, celOf, celsOk, norm, aName, aNil, aCons, aTup, setD, fSl, fIt, fItL, fItT, fFor, fLc, fYes, wipeD, fCix, fList, fSlL, fPart, fNoPart, fRng1, fRng2, List.length_cons, List.length_nil, List.getElem?_cons_zero, List.getElem?_cons_succ, List.getElem?_nil, List.set_cons_zero, List.set_cons_succ, List.map_cons, List.map_nil, List.cons_append, List.nil_append, List.append_nil, List.replicate, List.take_zero, List.take_nil, List.take_succ_cons, Option.bind_some, Option.map_some, Option.bind_none, Option.map_none, Nat.sub_self, Nat.reduceAdd, Nat.reduceSub, Nat.reduceLeDiff, Nat.zero_add, Nat.add_zero, and_self, and_true, true_and, if_true, if_false, reduceIte, ite_true, Bool.true_eq_false, Bool.false_eq_true, beq_self_eq_true, Bool.and_self, Bool.not_true, Bool.not_false, decide_true, decide_false, gLen, gTyIs, tyOf, gNeg, gPlus, DL.gSub, gCmp, gInt, gAbs, gTuple, gMax, gMin, gGcd, k1, k2, u2, u3, LIM]
    have c7 : (fSet 3 (fCall G2 (fConsA (fTup (fConsA (fOp gIx (fVar 7) (fLit (.int 0))) (fConsA (fOp gSub (fLit (.int 0)) (fOp gIx (fVar 7) (fLit (.int 1)))) (fConsA (fOp gSub (fLit (.int 0)) (fOp gIx (fVar 7) (fLit (.int 2)))) (fConsA (fOp gSub (fLit (.int 0)) (fOp gIx (fVar 7) (fLit (.int 3)))) fNilA))))) fNilA))) ⟨[some (.cel 0), some (.dat (.int v)), some (.dat (.list [(Y.m X).al.T, (Y.m X).al.T, (X.m Y).al.T])), none, none, some (.dat x.T), some (.dat y.T), some (.dat X.T), some (.dat Y.T), none, none, none, none, none, none, none, none], [L3 a3 s3 n3]⟩ = some (.nx ⟨[some (.cel 0), some (.dat (.int v)), some (.dat (.list [(Y.m X).al.T, (Y.m X).al.T, (X.m Y).al.T])), some (.dat B.T), none, some (.dat x.T), some (.dat y.T), some (.dat X.T), some (.dat Y.T), none, none, none, none, none, none, none, none], [L3 a3 s3 n3]⟩) := by
      simp only [mkF, fRet, fRetL, fRetN, fSkip, fSeq, fNever, fSet, fAsg, fNew, fIfS, fDrop, fPar, fSetc, fSetc2, fVar, fLit, fOp, fUn, fTup, fTup.datsOf, fLst, fNilA, fConsA, fCelA, fOfL, fTru, fAndT, fOrT, fNotT, fAndV, fOrV, fNotV, fIf, fBi, fCall, fCallL, fCallFr, callF, celOf, celsOk, norm, aName, aNil, aCons, aTup, setD, fSl, fIt, fItL, fItT, fFor, fLc, fYes, wipeD, fCix, fList, fSlL, fPart, fNoPart, fRng1, fRng2, List.length_cons, List.length_nil, List.getElem?_cons_zero, List.getElem?_cons_succ, List.getElem?_nil, List.set_cons_zero, List.set_cons_succ, List.map_cons, List.map_nil, List.cons_append, List.nil_append, List.append_nil, List.replicate, List.take_zero, List.take_nil, List.take_succ_cons, Option.bind_some, Option.map_some, Option.bind_none, Option.map_none, Nat.sub_self, Nat.reduceAdd, Nat.reduceSub, Nat.reduceLeDiff, Nat.zero_add, Nat.add_zero, and_self, and_true, true_and, if_true, if_false, reduceIte, ite_true, Bool.true_eq_false, Bool.false_eq_true, beq_self_eq_true, Bool.and_self, Bool.not_true, Bool.not_false, decide_true, decide_false, gLen, gTyIs, tyOf, gNeg, gPlus, DL.gSub, gCmp, gInt, gAbs, gTuple, gMax, gMin, gGcd, ix40, ix41, ix42, ix3, Int.zero_sub, bf', LIM]
    have c8 : (fSet 2 (fOfL (fLst (fConsA (fCall G4 (fConsA (fVar 7) fNilA)) (fConsA (fCall G4 (fConsA (fVar 7) fNilA)) (fConsA (fCall G1 (fConsA (fVar 7) (fConsA (fCall G4 (fConsA (fVar 7) fNilA)) fNilA))) (fConsA (fCall G1 (fConsA (fCall G4 (fConsA (fVar 7) fNilA)) (fConsA (fVar 7) fNilA))) fNilA))))))) ⟨[some (.cel 0), some (.dat (.int v)), some (.dat (.list [(Y.m X).al.T, (Y.m X).al.T, (X.m Y).al.T])), some (.dat B.T), none, some (.dat x.T), some (.dat y.T), some (.dat X.T), some (.dat Y.T), none, none, none, none, none, none, none, none], [L3 a3 s3 n3]⟩ = some (.nx ⟨[some (.cel 0), some (.dat (.int v)), some (.dat (.list [B.T, B.T, T4 1 0 0 0, T4 1 0 0 0])), some (.dat B.T), none, some (.dat x.T), some (.dat y.T), some (.dat X.T), some (.dat Y.T), none, none, none, none, none, none, none, none], [L3 a3 s3 n3]⟩) := by
      simp only [mkF, fRet, fRetL, fRetN, fSkip, fSeq, fNever, fSet, fAsg, fNew, fIfS, fDrop, fPar, fSetc, fSetc2, fVar, fLit, fOp, fUn, fTup, fTup.datsOf, fLst, fNilA, fConsA, fCelA, fOfL, fTru, fAndT, fOrT, fNotT, fAndV, fOrV, fNotV, fIf, fBi, fCall, fCallL, fCallFr, callF, celOf, celsOk, norm, aName, aNil, aCons, aTup, setD, fSl, fIt, fItL, fItT, fFor, fLc, fYes, wipeD, fCix, fList, fSlL, fPart, fNoPart, fRng1, fRng2, List.length_cons, List.length_nil, List.getElem?_cons_zero, List.getElem?_cons_succ, List.getElem?_nil, List.set_cons_zero, List.set_cons_succ, List.map_cons, List.map_nil, List.cons_append, List.nil_append, List.append_nil, List.replicate, List.take_zero, List.take_nil, List.take_succ_cons, Option.bind_some, Option.map_some, Option.bind_none, Option.map_none, Nat.sub_self, Nat.reduceAdd, Nat.reduceSub, Nat.reduceLeDiff, Nat.zero_add, Nat.add_zero, and_self, and_true, true_and, if_true, if_false, reduceIte, ite_true, Bool.true_eq_false, Bool.false_eq_true, beq_self_eq_true, Bool.and_self, Bool.not_true, Bool.not_false, decide_true, decide_false, gLen, gTyIs, tyOf, gNeg, gPlus, DL.gSub, gCmp, gInt, gAbs, gTuple, gMax, gMin, gGcd, tb, jb1', jb2', LIM]
    have c9 : (fIfS (fTru (fOp gNe (fBi gRepr (fConsA (fVar 2) fNilA)) (fBi gRepr (fConsA (fOfL (fLst (fConsA (fVar 3) (fConsA (fVar 3) (fConsA (fTup (fConsA (fLit (.int 1)) (fConsA (fLit (.int 0)) (fConsA (fLit (.int 0)) (fConsA (fLit (.int 0)) fNilA))))) (fConsA (fTup (fConsA (fLit (.int 1)) (fConsA (fLit (.int 0)) (fConsA (fLit (.int 0)) (fConsA (fLit (.int 0)) fNilA))))) fNilA)))))) fNilA)))) (fRet (fLit (.bool false))) fSkip) ⟨[some (.cel 0), some (.dat (.int v)), some (.dat (.list [B.T, B.T, T4 1 0 0 0, T4 1 0 0 0])), some (.dat B.T), none, some (.dat x.T), some (.dat y.T), some (.dat X.T), some (.dat Y.T), none, none, none, none, none, none, none, none], [L3 a3 s3 n3]⟩ = some (.nx ⟨[some (.cel 0), some (.dat (.int v)), some (.dat (.list [B.T, B.T, T4 1 0 0 0, T4 1 0 0 0])), some (.dat B.T), none, some (.dat x.T), some (.dat y.T), some (.dat X.T), some (.dat Y.T), none, none, none, none, none, none, none, none], [L3 a3 s3 n3]⟩) := by
      simp only [mkF, fRet, fRetL, fRetN, fSkip, fSeq, fNever, fSet, fAsg, fNew, fIfS, fDrop, fPar, fSetc, fSetc2, fVar, fLit, fOp, fUn, fTup, fTup.datsOf, fLst, fNilA, fConsA, fCelA, fOfL, fTru, fAndT, fOrT, fNotT, fAndV, fOrV, fNotV, fIf, fBi, fCall, fCallL, fCallFr, callF, celOf, celsOk, norm, aName, aNil, aCons, aTup, setD, fSl, fIt, fItL, fItT, fFor, fLc, fYes, wipeD, fCix, fList, fSlL, fPart, fNoPart, fRng1, fRng2, List.length_cons, List.length_nil, List.getElem?_cons_zero, List.getElem?_cons_succ, List.getElem?_nil, List.set_cons_zero, List.set_cons_succ, List.map_cons, List.map_nil, List.cons_append, List.nil_append, List.append_nil, List.replicate, List.take_zero, List.take_nil, List.take_succ_cons, Option.bind_some, Option.map_some, Option.bind_none, Option.map_none, Nat.sub_self, Nat.reduceAdd, Nat.reduceSub, Nat.reduceLeDiff, Nat.zero_add, Nat.add_zero, and_self, and_true, true_and, if_true, if_false, reduceIte, ite_true, Bool.true_eq_false, Bool.false_eq_true, beq_self_eq_true, Bool.and_self, Bool.not_true, Bool.not_false, decide_true, decide_false, gLen, gTyIs, tyOf, gNeg, gPlus, DL.gSub, gCmp, gInt, gAbs, gTuple, gMax, gMin, gGcd, b2, b3, LIM]
    have c10 : (fPar3 9 10 11 (fConsA (fCall FSp (fCelA 0 fNilA)) (fConsA (fCall G6 (fCelA 0 (fConsA (fLit (.int 13)) fNilA))) (fConsA (fCall G6 (fCelA 0 (fConsA (fLit (.int 13)) fNilA))) fNilA)))) ⟨[some (.cel 0), some (.dat (.int v)), some (.dat (.list [B.T, B.T, T4 1 0 0 0, T4 1 0 0 0])), some (.dat B.T), none, some (.dat x.T), some (.dat y.T), some (.dat X.T), some (.dat Y.T), none, none, none, none, none, none, none, none], [L3 a3 s3 n3]⟩ = some (.nx ⟨[some (.cel 0), some (.dat (.int v)), some (.dat (.list [B.T, B.T, T4 1 0 0 0, T4 1 0 0 0])), some (.dat B.T), none, some (.dat x.T), some (.dat y.T), some (.dat X.T), some (.dat Y.T), some (.dat z.T), some (.dat (.int (o' : Nat))), some (.dat (.int (m' : Nat))), none, none, none, none, none], [L3 a6 s6 n6]⟩) := by
      simp only [mkF, fRet, fRetL, fRetN, fSkip, fSeq, fNever, fSet, fAsg, fNew, fIfS, fDrop, fPar, fSetc, fSetc2, fVar, fLit, fOp, fUn, fTup, fTup.datsOf, fLst, fNilA, fConsA, fCelA, fOfL, fTru, fAndT, fOrT, fNotT, fAndV, fOrV, fNotV, fIf, fBi, fCall, fCallL, fCallFr, callF, celOf, celsOk, norm, aName, aNil, aCons, aTup, setD, fSl, fIt, fItL, fItT, fFor, fLc, fYes, wipeD, fCix, fList, fSlL, fPart, fNoPart, fRng1, fRng2, List.length_cons, List.length_nil, List.getElem?_cons_zero, List.getElem?_cons_succ, List.getElem?_nil, List.set_cons_zero, List.set_cons_succ, List.map_cons, List.map_nil, List.cons_append, List.nil_append, List.append_nil, List.replicate, List.take_zero, List.take_nil, List.take_succ_cons, Option.bind_some, Option.map_some, Option.bind_none, Option.map_none, Nat.sub_self, Nat.reduceAdd, Nat.reduceSub, Nat.reduceLeDiff, Nat.zero_add, Nat.add_zero, and_self, and_true, true_and, if_true, if_false, reduceIte, ite_true, Bool.true_eq_false, Bool.false_eq_true, beq_self_eq_true, Bool.and_self, Bool.not_true, Bool.not_false, decide_true, decide_false, gLen, gTyIs, tyOf, gNeg, gPlus, DL.gSub, gCmp, gInt, gAbs, gTuple, gMax, gMin, gGcd, fPar3, e4, e5, e6, LIM]
    have c11 : (fNew 2 (fLst (fConsA (fCall FT (fConsA (fVar 9) (fConsA (fVar 10) fNilA))) (fConsA (fCall FT (fPerm [1, 0] (fConsA (fVar 10) (fConsA (fVar 9) fNilA)))) (fConsA (fCall FT (fConsA (fVar 9) (fConsA (fLit (.int 0)) fNilA))) (fConsA (fCall FT (fConsA (fVar 9) (fConsA (fLit (.int 1)) fNilA))) fNilA)))))) ⟨[some (.cel 0), some (.dat (.int v)), some (.dat (.list [B.T, B.T, T4 1 0 0 0, T4 1 0 0 0])), some (.dat B.T), none, some (.dat x.T), some (.dat y.T), some (.dat X.T), some (.dat Y.T), some (.dat z.T), some (.dat (.int (o' : Nat))), some (.dat (.int (m' : Nat))), none, none, none, none, none], [L3 a6 s6 n6]⟩ = some (.nx ⟨[some (.cel 0), some (.dat (.int v)), some (.cel 1), some (.dat B.T), none, some (.dat x.T), some (.dat y.T), some (.dat X.T), some (.dat Y.T), some (.dat z.T), some (.dat (.int (o' : Nat))), some (.dat (.int (m' : Nat))), none, none, none, none, none], [L3 a6 s6 n6, [(pw z o').T, (pw z o').T, T4 1 0 0 0, z.T]]⟩) := by
      simp only [mkF, fRet, fRetL, fRetN, fSkip, fSeq, fNever, fSet, fAsg, fNew, fIfS, fDrop, fPar, fSetc, fSetc2, fVar, fLit, fOp, fUn, fTup, fTup.datsOf, fLst, fNilA, fConsA, fCelA, fOfL, fTru, fAndT, fOrT, fNotT, fAndV, fOrV, fNotV, fIf, fBi, fCall, fCallL, fCallFr, callF, celOf, celsOk, norm, aName, aNil, aCons, aTup, setD, fSl, fIt, fItL, fItT, fFor, fLc, fYes, wipeD, fCix, fList, fSlL, fPart, fNoPart, fRng1, fRng2, List.length_cons, List.length_nil, List.getElem?_cons_zero, List.getElem?_cons_succ, List.getElem?_nil, List.set_cons_zero, List.set_cons_succ, List.map_cons, List.map_nil, List.cons_append, List.nil_append, List.append_nil, List.replicate, List.take_zero, List.take_nil, List.take_succ_cons, Option.bind_some, Option.map_some, Option.bind_none, Option.map_none, Nat.sub_self, Nat.reduceAdd, Nat.reduceSub, Nat.reduceLeDiff, Nat.zero_add, Nat.add_zero, and_self, and_true, true_and, if_true, if_false, reduceIte, ite_true, Bool.true_eq_false, Bool.false_eq_true, beq_self_eq_true, Bool.and_self, Bool.not_true, Bool.not_false, decide_true, decide_false, gLen, gTyIs, tyOf, gNeg, gPlus, DL.gSub, gCmp, gInt, gAbs, gTuple, gMax, gMin, gGcd, p1, p3', p4, fPerm, perm10, LIM]
    have c12 : (fApp 2 (fCall G1 (fConsA (fCall FT (fConsA (fVar 9) (fConsA (fVar 10) fNilA))) (fConsA (fCall FT (fConsA (fVar 9) (fConsA (fVar 11) fNilA))) fNilA)))) ⟨[some (.cel 0), some (.dat (.int v)), some (.cel 1), some (.dat B.T), none, some (.dat x.T), some (.dat y.T), some (.dat X.T), some (.dat Y.T), some (.dat z.T), some (.dat (.int (o' : Nat))), some (.dat (.int (m' : Nat))), none, none, none, none, none], [L3 a6 s6 n6, [(pw z o').T, (pw z o').T, T4 1 0 0 0, z.T]]⟩ = some (.nx ⟨[some (.cel 0), some (.dat (.int v)), some (.cel 1), some (.dat B.T), none, some (.dat x.T), some (.dat y.T), some (.dat X.T), some (.dat Y.T), some (.dat z.T), some (.dat (.int (o' : Nat))), some (.dat (.int (m' : Nat))), none, none, none, none, none], [L3 a6 s6 n6, [(pw z o').T, (pw z o').T, T4 1 0 0 0, z.T, (pw z (o' + m')).T]]⟩) := by
      simp only [mkF, fRet, fRetL, fRetN, fSkip, fSeq, fNever, fSet, fAsg, fNew, fIfS, fDrop, fPar, fSetc, fSetc2, fVar, fLit, fOp, fUn, fTup, fTup.datsOf, fLst, fNilA, fConsA, fCelA, fOfL, fTru, fAndT, fOrT, fNotT, fAndV, fOrV, fNotV, fIf, fBi, fCall, fCallL, fCallFr, callF, celOf, celsOk, norm, aName, aNil, aCons, aTup, setD, fSl, fIt, fItL, fItT, fFor, fLc, fYes, wipeD, fCix, fList, fSlL, fPart, fNoPart, fRng1, fRng2, List.length_cons, List.length_nil, List.getElem?_cons_zero, List.getElem?_cons_succ, List.getElem?_nil, List.set_cons_zero, List.set_cons_succ, List.map_cons, List.map_nil, List.cons_append, List.nil_append, List.append_nil, List.replicate, List.take_zero, List.take_nil, List.take_succ_cons, Option.bind_some, Option.map_some, Option.bind_none, Option.map_none, Nat.sub_self, Nat.reduceAdd, Nat.reduceSub, Nat.reduceLeDiff, Nat.zero_add, Nat.add_zero, and_self, and_true, true_and, if_true, if_false, reduceIte, ite_true, Bool.true_eq_false, Bool.false_eq_true, beq_self_eq_true, Bool.and_self, Bool.not_true, Bool.not_false, decide_true, decide_false, gLen, gTyIs, tyOf, gNeg, gPlus, DL.gSub, gCmp, gInt, gAbs, gTuple, gMax, gMin, gGcd, p1, p2, p6, fApp, lt4, LIM]
    have c13 : (fApp 2 (fCall FT (fConsA (fVar 9) (fConsA (fOp gPlus (fVar 10) (fVar 11)) fNilA)))) ⟨[some (.cel 0), some (.dat (.int v)), some (.cel 1), some (.dat B.T), none, some (.dat x.T), some (.dat y.T), some (.dat X.T), some (.dat Y.T), some (.dat z.T), some (.dat (.int (o' : Nat))), some (.dat (.int (m' : Nat))), none, none, none, none, none], [L3 a6 s6 n6, [(pw z o').T, (pw z o').T, T4 1 0 0 0, z.T, (pw z (o' + m')).T]]⟩ = some (.nx ⟨[some (.cel 0), some (.dat (.int v)), some (.cel 1), some (.dat B.T), none, some (.dat x.T), some (.dat y.T), some (.dat X.T), some (.dat Y.T), some (.dat z.T), some (.dat (.int (o' : Nat))), some (.dat (.int (m' : Nat))), none, none, none, none, none], [L3 a6 s6 n6, [(pw z o').T, (pw z o').T, T4 1 0 0 0, z.T, (pw z (o' + m')).T, (pw z (o' + m')).T]]⟩) := by
      simp only [mkF, fRet, fRetL, fRetN, fSkip, fSeq, fNever, fSet, fAsg, fNew, fIfS, fDrop, fPar, fSetc, fSetc2, fVar, fLit, fOp, fUn, fTup, fTup.datsOf, fLst, fNilA, fConsA, fCelA, fOfL, fTru, fAndT, fOrT, fNotT, fAndV, fOrV, fNotV, fIf, fBi, fCall, fCallL, fCallFr, callF, celOf, celsOk, norm, aName, aNil, aCons, aTup, setD, fSl, fIt, fItL, fItT, fFor, fLc, fYes, wipeD, fCix, fList, fSlL, fPart, fNoPart, fRng1, fRng2, List.length_cons, List.length_nil, List.getElem?_cons_zero, List.getElem?_cons_succ, List.getElem?_nil, List.set_cons_zero, List.set_cons_succ, List.map_cons, List.map_nil, List.cons_append, List.nil_append, List.append_nil, List.replicate, List.take_zero, List.take_nil, List.take_succ_cons, Option.bind_some, Option.map_some, Option.bind_none, Option.map_none, Nat.sub_self, Nat.reduceAdd, Nat.reduceSub, Nat.reduceLeDiff, Nat.zero_add, Nat.add_zero, and_self, and_true, true_and, if_true, if_false, reduceIte, ite_true, Bool.true_eq_false, Bool.false_eq_true, beq_self_eq_true, Bool.and_self, Bool.not_true, Bool.not_false, decide_true, decide_false, gLen, gTyIs, tyOf, gNeg, gPlus, DL.gSub, gCmp, gInt, gAbs, gTuple, gMax, gMin, gGcd, p5, fApp, lt5, LIM]
    exact fn1 (n0 := 1) ((seq_nx c0).trans ((seq_nx c1).trans ((seq_nx c2).trans ((seq_nx c3).trans ((seq_nx c4).trans ((seq_nx c5).trans ((seq_nx c6).trans ((seq_nx c7).trans ((seq_nx c8).trans ((seq_nx c9).trans ((seq_nx c10).trans ((seq_nx c11).trans ((seq_nx c12).trans ((seq_nx c13).trans (((hfz _ _).trans hrb)))))))))))))))) ⟨rfl, rfl⟩
  exact hm
end K26


set_option Elab.async false
set_option linter.all false
set_option maxRecDepth 100000
set_option maxHeartbeats 400000
set_option exponentiation.threshold 20000
namespace K26
open PySem PySem.Spec L2 DL Q4
abbrev EB : FE := (fCallFr F__law_right (fCallL F__law_source (fConsA (fVar 0) (fConsA (fVar 1) fNilA))))
theorem eb_ok {ns : List Int} {k : Int} (h0 : 0 ≤ k) (h1 : k < 1000) : EB ⟨[some (.dat (.list (ns.map PyData.int))), some (.dat (.int k))], []⟩ = some (.bool true, []) := by
  obtain ⟨a, s, e, hs⟩ := e_source (ns := ns) h0 h1
  obtain ⟨c, e2⟩ := e_right hs (by decide)
  simp only [mkF, fRet, fRetL, fRetN, fSkip, fSeq, fNever, fSet, fAsg, fNew, fIfS, fDrop, fPar, fSetc, fSetc2, fVar, fLit, fOp, fUn, fTup, fTup.datsOf, fLst, fNilA, fConsA, fCelA, fOfL, fTru, fAndT, fOrT, fNotT, fAndV, fOrV, fNotV, fIf, fBi, fCall, fCallL, fCallFr, callF, celOf, celsOk, norm, aName, aNil, aCons, aTup, setD, fSl, fIt, fItL, fItT, fFor, fLc, fYes, wipeD, fCix, fList, fSlL, fPart, fNoPart, fRng1, fRng2, List.length_cons, List.length_nil, List.getElem?_cons_zero, List.getElem?_cons_succ, List.getElem?_nil, List.set_cons_zero, List.set_cons_succ, List.map_cons, List.map_nil, List.cons_append, List.nil_append, List.append_nil, List.replicate, List.take_zero, List.take_nil, List.take_succ_cons, Option.bind_some, Option.map_some, Option.bind_none, Option.map_none, Nat.sub_self, Nat.reduceAdd, Nat.reduceSub, Nat.reduceLeDiff, Nat.zero_add, Nat.add_zero, and_self, and_true, true_and, if_true, if_false, reduceIte, ite_true, Bool.true_eq_false, Bool.false_eq_true, beq_self_eq_true, Bool.and_self, Bool.not_true, Bool.not_false, decide_true, decide_false, gLen, gTyIs, tyOf, gNeg, gPlus, DL.gSub, gCmp, gInt, gAbs, gTuple, gMax, gMin, gGcd, e, e2]
theorem lb_ok {ns : List Int} : ∀ ks : List Nat, (∀ k ∈ ks, k < 1000) → lcGo (aName 1) fYes EB [some (.dat (.list (ns.map PyData.int))), none] (ks.map fun i => PyData.int (0 + (i : Nat))) [] = some (ks.map fun _ => PyData.bool true, [])
  | [], _ => rfl
  | k :: ks, h => by
    have ih := lb_ok (ns := ns) ks fun j hj => h j (List.mem_cons_of_mem _ hj)
    have hk := h k (List.mem_cons_self ..)
    have e := eb_ok (ns := ns) (k := 0 + (k : Nat)) (by omega) (by omega)
    generalize EB = eb at e ih ⊢
    simp only [lcGo, List.map_cons, aName, fYes, setD, List.set_cons_zero, List.set_cons_succ, Option.bind_some, if_true, e, ih, Option.map_some]
theorem bools_true {α : Type} : ∀ ks : List α, boolsOf (ks.map fun _ => PyData.bool true) = some (ks.map fun _ => true)
  | [] => rfl
  | k :: ks => by
    show (boolsOf (ks.map fun _ => PyData.bool true)).map (true :: ·) = _
    rw [bools_true ks]; rfl
abbrev RG : FL := (fRng1 (fConsA (fBi gMax (fConsA (fLit (.int 2)) (fConsA (fBi gMin (fConsA (fBi gLen (fConsA (fVar 0) fNilA)) (fConsA (fLit (.int 4)) fNilA))) fNilA))) fNilA))
abbrev MX : FE := (fBi gMax (fConsA (fLit (.int 2)) (fConsA (fBi gMin (fConsA (fBi gLen (fConsA (fVar 0) fNilA)) (fConsA (fLit (.int 4)) fNilA))) fNilA)))
theorem mx_ok (ns : List Int) : MX ⟨[some (.dat (.list (ns.map PyData.int))), none], []⟩ = some (.int (if (if (4 : Int) < (ns.length : Nat) then 4 else ((ns.length : Nat) : Int)) > 2 then (if (4 : Int) < (ns.length : Nat) then 4 else ((ns.length : Nat) : Int)) else 2), []) := by
  simp only [mkF, fRet, fRetL, fRetN, fSkip, fSeq, fNever, fSet, fAsg, fNew, fIfS, fDrop, fPar, fSetc, fSetc2, fVar, fLit, fOp, fUn, fTup, fTup.datsOf, fLst, fNilA, fConsA, fCelA, fOfL, fTru, fAndT, fOrT, fNotT, fAndV, fOrV, fNotV, fIf, fBi, fCall, fCallL, fCallFr, callF, celOf, celsOk, norm, aName, aNil, aCons, aTup, setD, fSl, fIt, fItL, fItT, fFor, fLc, fYes, wipeD, fCix, fList, fSlL, fPart, fNoPart, fRng1, fRng2, List.length_cons, List.length_nil, List.getElem?_cons_zero, List.getElem?_cons_succ, List.getElem?_nil, List.set_cons_zero, List.set_cons_succ, List.map_cons, List.map_nil, List.cons_append, List.nil_append, List.append_nil, List.replicate, List.take_zero, List.take_nil, List.take_succ_cons, Option.bind_some, Option.map_some, Option.bind_none, Option.map_none, Nat.sub_self, Nat.reduceAdd, Nat.reduceSub, Nat.reduceLeDiff, Nat.zero_add, Nat.add_zero, and_self, and_true, true_and, if_true, if_false, reduceIte, ite_true, Bool.true_eq_false, Bool.false_eq_true, beq_self_eq_true, Bool.and_self, Bool.not_true, Bool.not_false, decide_true, decide_false, gLen, gTyIs, tyOf, gNeg, gPlus, DL.gSub, gCmp, gInt, gAbs, gTuple, gMax, gMin, gGcd, List.length_map]
theorem rg_ok (ns : List Int) : ∃ n : Nat, n ≤ 4 ∧ RG ⟨[some (.dat (.list (ns.map PyData.int))), none], []⟩ = some (rangeD 0 n, []) := by
  have h := mx_ok ns
  have hn : ∃ n : Nat, n ≤ 4 ∧ (if (if (4 : Int) < (ns.length : Nat) then 4 else ((ns.length : Nat) : Int)) > 2 then (if (4 : Int) < (ns.length : Nat) then 4 else ((ns.length : Nat) : Int)) else 2) = (n : Nat) := by
    refine ⟨(if (if (4 : Int) < (ns.length : Nat) then 4 else ((ns.length : Nat) : Int)) > 2 then (if (4 : Int) < (ns.length : Nat) then 4 else ((ns.length : Nat) : Int)) else 2).toNat, ?_, ?_⟩ <;> (split <;> split <;> omega)
  obtain ⟨n, h4, e⟩ := hn
  rw [e] at h
  exact ⟨n, h4, rg_of h (by omega)⟩
theorem math (ns : List Int) (hl : ns.length ≤ 63) : ∃ c, F_law [.dat (.list (ns.map PyData.int))] [] = some (.dat (.bool true), c) := by
  obtain ⟨n, hn, e⟩ := rg_ok ns
  have e0 : b_law = (fRet (fBi gAll (fConsA (fOfL (fLc RG (aName 1) fYes EB [1])) fNilA))) := rfl
  have hb := lb_ok (ns := ns) (List.range n) fun k hk => by have := List.mem_range.mp hk; omega
  have hlen : (rangeD 0 n).length ≤ 100000 := by unfold rangeD; rw [List.length_map, List.length_range]; omega
  have hb' : lcGo (aName 1) fYes EB [some (.dat (.list (ns.map PyData.int))), none] (rangeD 0 n) [] = some ((List.range n).map fun _ => PyData.bool true, []) := hb
  have hall : gAll [.list ((List.range n).map fun _ => PyData.bool true)] = some (.bool true) := by
    show (boolsOf _).map (fun bs => PyData.bool (bs.all id)) = _
    rw [bools_true]
    simp
  generalize RG = rg at e e0
  generalize EB = eb at hb' e0
  refine ⟨[], ?_⟩
  simp only [mkF, fRet, fRetL, fRetN, fSkip, fSeq, fNever, fSet, fAsg, fNew, fIfS, fDrop, fPar, fSetc, fSetc2, fVar, fLit, fOp, fUn, fTup, fTup.datsOf, fLst, fNilA, fConsA, fCelA, fOfL, fTru, fAndT, fOrT, fNotT, fAndV, fOrV, fNotV, fIf, fBi, fCall, fCallL, fCallFr, callF, celOf, celsOk, norm, aName, aNil, aCons, aTup, setD, fSl, fIt, fItL, fItT, fFor, fLc, fYes, wipeD, fCix, fList, fSlL, fPart, fNoPart, fRng1, fRng2, List.length_cons, List.length_nil, List.getElem?_cons_zero, List.getElem?_cons_succ, List.getElem?_nil, List.set_cons_zero, List.set_cons_succ, List.map_cons, List.map_nil, List.cons_append, List.nil_append, List.append_nil, List.replicate, List.take_zero, List.take_nil, List.take_succ_cons, Option.bind_some, Option.map_some, Option.bind_none, Option.map_none, Nat.sub_self, Nat.reduceAdd, Nat.reduceSub, Nat.reduceLeDiff, Nat.zero_add, Nat.add_zero, and_self, and_true, true_and, if_true, if_false, reduceIte, ite_true, Bool.true_eq_false, Bool.false_eq_true, beq_self_eq_true, Bool.and_self, Bool.not_true, Bool.not_false, decide_true, decide_false, gLen, gTyIs, tyOf, gNeg, gPlus, DL.gSub, gCmp, gInt, gAbs, gTuple, gMax, gMin, gGcd, F_law, e0, e, hlen, hb', hall, LIM]
end K26


set_option Elab.async false
set_option linter.all false
set_option maxRecDepth 100000
set_option maxHeartbeats 400000

open PySem PySem.W PyProof.Rows
set_option maxRecDepth 100000 in
set_option maxHeartbeats 0 in
theorem PySem.Challenge.cw_platelights_k26_turns_joined_back_times_holds : PySem.Challenge.rw_platelights_k26_turns_joined_back_times.Holds := by
  w_on; o_law; k_head; (case hw => w_witness2)
  k_fill
  refine DL.walk_G (l := PySem.Challenge.rw_platelights_k26_turns_joined_back_times) (n := 63) (k := 9) (x := "_law_script") rfl (by decide) rfl ⟨rfl, by decide, by decide⟩ (fun w h Y => PySem.W.kIn_of Y) ?F (fun ns hl => K26.math ns hl)
  case F =>
    intro w mg fa h KX G hmg
    refine' K26.all_mk KX G hmg ?a_is_whole ?l_is_whole ?c_is_whole ?k_is_whole ?a_is_row ?l_is_row ?c_is_row ?k_is_row ?a_divisor_of ?l_divisor_of ?c_divisor_of ?k_divisor_of ?a_is_reduced_row ?l_is_reduced_row ?c_is_reduced_row ?k_is_reduced_row ?a_reduced ?l_reduced ?c_reduced ?k_reduced ?a_dot ?l_dot ?c_dot ?k_dot ?a_check_whole_to ?l_check_whole_to ?c_check_whole_to ?k_check_whole_to ?a_is_kind ?l_is_kind ?c_is_kind ?k_is_kind ?a_check_kind ?l_check_kind ?c_check_kind ?k_check_kind ?a_is_setting ?l_is_setting ?c_is_setting ?k_is_setting ?a_check_setting ?l_check_setting ?c_check_setting ?k_check_setting ?a__first_sign ?l__first_sign ?c__first_sign ?k__first_sign ?a_is_turn ?l_is_turn ?c_is_turn ?k_is_turn ?a_check_turn ?l_check_turn ?c_check_turn ?k_check_turn ?a__along ?l__along ?c__along ?k__along ?a_turn_along ?l_turn_along ?c_turn_along ?k_turn_along ?a_turn_about ?l_turn_about ?c_turn_about ?k_turn_about ?a__quaternion_product ?l__quaternion_product ?c__quaternion_product ?k__quaternion_product ?a_joined_turns ?l_joined_turns ?c_joined_turns ?k_joined_turns ?a_turn_back ?l_turn_back ?c_turn_back ?k_turn_back ?a_turn_times ?l_turn_times ?c_turn_times ?k_turn_times ?a__law_source ?l__law_source ?c__law_source ?k__law_source ?a__law_draw ?l__law_draw ?c__law_draw ?k__law_draw ?a__law_pick ?l__law_pick ?c__law_pick ?k__law_pick ?a__law_about ?l__law_about ?c__law_about ?k__law_about ?a__law_common ?l__law_common ?c__law_common ?k__law_common ?a__law_low ?l__law_low ?c__law_low ?k__law_low ?a__law_along ?l__law_along ?c__law_along ?k__law_along ?a__law_mult ?l__law_mult ?c__law_mult ?k__law_mult ?a__law_both ?l__law_both ?c__law_both ?k__law_both ?a__law_spin ?l__law_spin ?c__law_spin ?k__law_spin ?a__law_kind ?l__law_kind ?c__law_kind ?k__law_kind ?a__law_slot ?l__law_slot ?c__law_slot ?k__law_slot ?a__law_number ?l__law_number ?c__law_number ?k__law_number ?a__law_four ?l__law_four ?c__law_four ?k__law_four ?a__law_power ?l__law_power ?c__law_power ?k__law_power ?a__law_are_told ?l__law_are_told ?c__law_are_told ?k__law_are_told ?a__law_right ?l__law_right ?c__law_right ?k__law_right ?a_law ?l_law ?c_law ?k_law ?z_gcd ?z_abs ?z_all ?z_divmod ?z_int ?z_len ?z_list ?z_max ?z_min ?z_range ?z_repr ?z_sum ?z_tuple ?z_type ?z_zip ?y__STILL ?t_q_STILL4 ?y__MOST_TIMES
    (case a_is_whole => k_is)
    (case l_is_whole => k_is)
    (case c_is_whole => k_is)
    (case k_is_whole => k_is)
    (case a_is_row => k_is)
    (case l_is_row => k_is)
    (case c_is_row => k_is)
    (case k_is_row => k_is)
    (case a_divisor_of => k_is)
    (case l_divisor_of => k_is)
    (case c_divisor_of => k_is)
    (case k_divisor_of => k_is)
    (case a_is_reduced_row => k_is)
    (case l_is_reduced_row => k_is)
    (case c_is_reduced_row => k_is)
    (case k_is_reduced_row => k_is)
    (case a_reduced => k_is)
    (case l_reduced => k_is)
    (case c_reduced => k_is)
    (case k_reduced => k_is)
    (case a_dot => k_is)
    (case l_dot => k_is)
    (case c_dot => k_is)
    (case k_dot => k_is)
    (case a_check_whole_to => k_is)
    (case l_check_whole_to => k_is)
    (case c_check_whole_to => k_is)
    (case k_check_whole_to => k_is)
    (case a_is_kind => k_is)
    (case l_is_kind => k_is)
    (case c_is_kind => k_is)
    (case k_is_kind => k_is)
    (case a_check_kind => k_is)
    (case l_check_kind => k_is)
    (case c_check_kind => k_is)
    (case k_check_kind => k_is)
    (case a_is_setting => k_is)
    (case l_is_setting => k_is)
    (case c_is_setting => k_is)
    (case k_is_setting => k_is)
    (case a_check_setting => k_is)
    (case l_check_setting => k_is)
    (case c_check_setting => k_is)
    (case k_check_setting => k_is)
    (case a__first_sign => k_is)
    (case l__first_sign => k_is)
    (case c__first_sign => k_is)
    (case k__first_sign => k_is)
    (case a_is_turn => k_is)
    (case l_is_turn => k_is)
    (case c_is_turn => k_is)
    (case k_is_turn => k_is)
    (case a_check_turn => k_is)
    (case l_check_turn => k_is)
    (case c_check_turn => k_is)
    (case k_check_turn => k_is)
    (case a__along => k_is)
    (case l__along => k_is)
    (case c__along => k_is)
    (case k__along => k_is)
    (case a_turn_along => k_is)
    (case l_turn_along => k_is)
    (case c_turn_along => k_is)
    (case k_turn_along => k_is)
    (case a_turn_about => k_is)
    (case l_turn_about => k_is)
    (case c_turn_about => k_is)
    (case k_turn_about => k_is)
    (case a__quaternion_product => k_is)
    (case l__quaternion_product => k_is)
    (case c__quaternion_product => k_is)
    (case k__quaternion_product => k_is)
    (case a_joined_turns => k_is)
    (case l_joined_turns => k_is)
    (case c_joined_turns => k_is)
    (case k_joined_turns => k_is)
    (case a_turn_back => k_is)
    (case l_turn_back => k_is)
    (case c_turn_back => k_is)
    (case k_turn_back => k_is)
    (case a_turn_times => k_is)
    (case l_turn_times => k_is)
    (case c_turn_times => k_is)
    (case k_turn_times => k_is)
    (case a__law_source => k_is)
    (case l__law_source => k_is)
    (case c__law_source => k_is)
    (case k__law_source => k_is)
    (case a__law_draw => k_is)
    (case l__law_draw => k_is)
    (case c__law_draw => k_is)
    (case k__law_draw => k_is)
    (case a__law_pick => k_is)
    (case l__law_pick => k_is)
    (case c__law_pick => k_is)
    (case k__law_pick => k_is)
    (case a__law_about => k_is)
    (case l__law_about => k_is)
    (case c__law_about => k_is)
    (case k__law_about => k_is)
    (case a__law_common => k_is)
    (case l__law_common => k_is)
    (case c__law_common => k_is)
    (case k__law_common => k_is)
    (case a__law_low => k_is)
    (case l__law_low => k_is)
    (case c__law_low => k_is)
    (case k__law_low => k_is)
    (case a__law_along => k_is)
    (case l__law_along => k_is)
    (case c__law_along => k_is)
    (case k__law_along => k_is)
    (case a__law_mult => k_is)
    (case l__law_mult => k_is)
    (case c__law_mult => k_is)
    (case k__law_mult => k_is)
    (case a__law_both => k_is)
    (case l__law_both => k_is)
    (case c__law_both => k_is)
    (case k__law_both => k_is)
    (case a__law_spin => k_is)
    (case l__law_spin => k_is)
    (case c__law_spin => k_is)
    (case k__law_spin => k_is)
    (case a__law_kind => k_is)
    (case l__law_kind => k_is)
    (case c__law_kind => k_is)
    (case k__law_kind => k_is)
    (case a__law_slot => k_is)
    (case l__law_slot => k_is)
    (case c__law_slot => k_is)
    (case k__law_slot => k_is)
    (case a__law_number => k_is)
    (case l__law_number => k_is)
    (case c__law_number => k_is)
    (case k__law_number => k_is)
    (case a__law_four => k_is)
    (case l__law_four => k_is)
    (case c__law_four => k_is)
    (case k__law_four => k_is)
    (case a__law_power => k_is)
    (case l__law_power => k_is)
    (case c__law_power => k_is)
    (case k__law_power => k_is)
    (case a__law_are_told => k_is)
    (case l__law_are_told => k_is)
    (case c__law_are_told => k_is)
    (case k__law_are_told => k_is)
    (case a__law_right => k_is)
    (case l__law_right => k_is)
    (case c__law_right => k_is)
    (case k__law_right => k_is)
    (case a_law => k_is)
    (case l_law => k_is)
    (case c_law => k_is)
    (case k_law => k_is)
    (case z_gcd => k_is)
    (case z_abs => k_is)
    (case z_all => k_is)
    (case z_divmod => k_is)
    (case z_int => k_is)
    (case z_len => k_is)
    (case z_list => k_is)
    (case z_max => k_is)
    (case z_min => k_is)
    (case z_range => k_is)
    (case z_repr => k_is)
    (case z_sum => k_is)
    (case z_tuple => k_is)
    (case z_type => k_is)
    (case z_zip => k_is)
    (case y__STILL => k_is)
    (case t_q_STILL4 => k_is)
    (case y__MOST_TIMES => k_is)

