import PyProof.Rows.All
import Wide.All
import OpenK.AllK
import Wide.FinOn
import HandS.Base
import HandS.Call
import HandS.List
import HandS.Comp
import HandS.More
import HandS.Dict
import HandS.Iter
import HandS.Text
import HandS.Walk
import HandS.Words
import HandS.Ends
import HandS.Deep
import HandS.TupAny
import HandS.IsInst
import HandS.Style
import HandS.WordsList
import HandS.Wide
import HandS.SortRule
import KE.GoesEnum
import KE.GoesMore
import PyProof.ReprLen
import PySem.Challenge.RW_wiresindark_k01_boards
set_option Elab.async false
set_option linter.all false
set_option maxRecDepth 100000
set_option maxHeartbeats 4000000
/-! Rules that the layer lacks: operators that an own class defines, repr of data, a power of a great base. -/
namespace Wd
open PySem PySem.Spec PyProof.Rows L2
open L2 (St)

theorem cmpBackOf {P : Value → Shared → Prop} {z : V} {v : Value} {s' : Shared} (r : RelV z v) (h : P v s') : PySem.W.CmpBack P v s' := by
  cases z <;> first
    | (cases r; exact h)
    | (obtain ⟨t, e⟩ := r; cases e; exact h)

section
variable {X : Cx} {CX : CXT} {C g : Addr} {n : Nat} {sp : Sp} {E : XK}

/-- an instance as the library sees it -/
theorem instOf {pins : List (Addr × Obj)} {σ : L2.St} {H : Hp} {s : Shared} {a C dx : Addr} {fs : List (Str × V)} (I : Inv X pins σ H s) (e : H a = some (.ins C dx fs)) :
    ∃ od, PySem.W.InstAt s.heap a (PySem.W.instObj C dx) C (some od) := by
  obtain ⟨mA, O, _⟩ := ins_get I.hok e
  obtain ⟨od, J, _⟩ := O.look
  exact ⟨od, J⟩

/-- a def called by the machine itself, by positional values -/
theorem runR {pins : List (Addr × Obj)} {σ : L2.St} {H : Hp} {s : Shared} {Q : VK} {us : List Value} {vs : List V} {A : Around} (F : FnR X.prog X.w X.K X.mg X.base CX n g sp) (hr : Room n A) (hf : A.frames = X.A.frames) (hx : Passes CX X E)
    (I : Inv X pins σ H s) (r : Vals vs us) (h : sp vs H Q E) : wpAny (model X.prog X.w) A (call (.ref g) us) (EP X pins σ Q) X.xe s := by
  have e0 := I.env0
  have e1 : Env0 X.prog X.w X.K X.mg X.base A X.stack s H := ⟨hf.trans e0.frames, e0.mod, e0.bs, e0.bsz, e0.funs, e0.frf, e0.hok, e0.bare⟩
  refine wpAny_call (codeAny_mono (F A X.stack s H us vs Q E hr e1 r h) fun r s' hq => ?_)
  cases r with
  | error e => exact hx pins σ H s e s' I hq
  | ok fl =>
    cases fl <;> first
      | exact I.after hq
      | exact False.elim hq

/-- what an own class's special def must be -/
structure Spc (K : PySem.W.Frag) (C : Addr) (nm : Str) (g : Addr) : Prop where
  at_ : PySem.W.findIn K (.ref C) nm = some (some (.ref g))
  fn : PySem.W.isFn K (.ref g) = true

/-- x in o, by the class's own def -/
def rInOwn (C : Addr) (sp : Sp) (E : XK) : R2 := fun x y H Q => ∃ a dx fs, y = .ref a ∧ H a = some (.ins C dx fs) ∧ sp [y, x] H (fun z H' => ∃ b, z = .bl b ∧ Q (.bl b) H') E
theorem op_inOwn (hs : Spc X.K C "__contains__" g) (F : FnR X.prog X.w X.K X.mg X.base CX n g sp) (hr : Room n X.A) (hx : Passes CX X E) : OpR X (compareOp .In) (rInOwn C sp E) := by
  intro pins s σ H x y v u Q I rx ry h
  obtain ⟨a, dx, fs, rfl, ha, q⟩ := h
  cases (show u = Value.ref a from ry)
  obtain ⟨od, J⟩ := instOf I ha
  obtain ⟨m, hF⟩ := I.fr
  refine PySem.W.in_K hF I.ok.mod.kin J hs.at_ hs.fn ?_
  refine wpAny_mono (runR (us := [.ref a, v]) (vs := [.ref a, x]) F hr rfl hx I (.cons rfl (.cons rx .nil)) q) (fun w s' z => ?_) fun _ _ x => x
  obtain ⟨z', H', I', rz, b, rfl, qz⟩ := z
  cases (show w = Value.bool b from rz)
  exact wpAny_truthy_bool ⟨.bl b, H', I', rfl, qz⟩

/-- ~o, by the class's own def -/
def rInvOwn (C : Addr) (sp : Sp) (E : XK) : V → Hp → VK → Prop := fun x H Q => ∃ a dx fs, x = .ref a ∧ H a = some (.ins C dx fs) ∧ sp [x] H Q E
theorem un_invOwn (hs : Spc X.K C "__invert__" g) (F : FnR X.prog X.w X.K X.mg X.base CX n g sp) (hr : Room n X.A) (hx : Passes CX X E) : UnR X (unaryOp .Invert) (rInvOwn C sp E) := by
  intro pins s σ H x v Q I rx h
  obtain ⟨a, dx, fs, rfl, ha, q⟩ := h
  cases (show v = Value.ref a from rx)
  obtain ⟨od, J⟩ := instOf I ha
  obtain ⟨m, hF⟩ := I.fr
  exact PySem.W.ksp_inv hF I.ok.mod.kin J hs.at_ hs.fn (runR (us := [.ref a]) (vs := [.ref a]) F hr rfl hx I (.cons rfl .nil) q)

/-- len(o), by the class's own def -/
def rLenOwn (C : Addr) (sp : Sp) (E : XK) : List V → Hp → VK → Prop := fun xs H Q => ∃ a dx fs, xs = [.ref a] ∧ H a = some (.ins C dx fs) ∧ sp [.ref a] H (fun z H' => ∃ i : Int, z = .int i ∧ (0 ≤ i ∧ i < 2 ^ 63) ∧ Q (.int i) H') E
theorem call_lenOwn (hs : Spc X.K C "__len__" g) (F : FnR X.prog X.w X.K X.mg X.base CX n g sp) (hr : Room (n + 1) X.A) (hx : Passes CX X E) : CallR X (.builtin "len") (rLenOwn C sp E) := by
  intro pins s σ H xs us Q I r h
  obtain ⟨a, dx, fs, rfl, ha, q⟩ := h
  obtain ⟨u, rfl, ru⟩ := vals1 r
  cases (show u = Value.ref a from ru)
  obtain ⟨od, J⟩ := instOf I ha
  obtain ⟨m, hF⟩ := I.fr
  refine PySem.W.len_K hF I.ok.mod.kin J hs.at_ hs.fn ?_
  refine wpAny_mono (runR (us := [.ref a]) (vs := [.ref a]) F (Room.in1 hr) rfl hx I (.cons rfl .nil) q) (fun w s' z => ?_) fun _ _ x => x
  obtain ⟨z', H', I', rz, i, rfl, hb, qz⟩ := z
  obtain ⟨t, e⟩ := (show ∃ t, w = Value.int i t from rz)
  cases e
  exact ⟨hb, ⟨.int i, H', I'.tok _, ⟨_, rfl⟩, qz⟩⟩

/-- o == y, by the class's own def; y of any type that is not below the class -/
def rEqOwn (K : PySem.W.Frag) (C : Addr) (sp : Sp) (E : XK) : R2 := fun x y H Q => ∃ a dx fs t, x = .ref a ∧ H a = some (.ins C dx fs) ∧ TyOf K H y t ∧ PySem.W.notFirst K C t = true ∧ sp [x, y] H Q E
theorem tyLooks {pins : List (Addr × Obj)} {σ : L2.St} {H : Hp} {s : Shared} {y : V} {u t : Value} (I : Inv X pins σ H s) (ry : RelV y u) (ty : TyOf X.K H y t) : PySem.W.Looks (model X.prog X.w) s.heap (typeOf u) t := by
  cases ty with
  | non => cases (show u = Value.none from ry); exact PySem.W.Looks.of_pure rfl
  | bl b => cases (show u = Value.bool b from ry); exact PySem.W.Looks.of_pure rfl
  | int i => obtain ⟨t, e⟩ := (show ∃ t, u = Value.int i t from ry); cases e; exact PySem.W.Looks.of_pure rfl
  | str x => obtain ⟨t, e⟩ := (show ∃ t, u = Value.str x t from ry); cases e; exact PySem.W.Looks.of_pure rfl
  | flt x => obtain ⟨t, e⟩ := (show ∃ t, u = Value.float x t from ry); cases e; exact PySem.W.Looks.of_pure rfl
  | lst ea =>
    cases ry
    obtain ⟨_, _, _, _, h1⟩ := I.hok _ _ ea
    exact (PySem.W.Looks.ld h1).andThen .now
  | frz ea =>
    cases ry
    obtain ⟨_, _, _, _, _, h1⟩ := I.hok _ _ ea
    exact (PySem.W.Looks.ld h1).andThen .now
  | tup ea =>
    cases ry
    obtain ⟨_, _, _, o, h1, h2, _⟩ := I.hok _ _ ea
    obtain ⟨oc, od, dt, sl⟩ := o
    simp only at h2
    subst h2
    exact (PySem.W.Looks.ld h1).andThen .now
  | dK ea =>
    cases ry
    obtain ⟨_, _, vs, _, o, es, ep, h1, h2, _⟩ := I.hok _ _ ea
    have h3 := h2.1
    obtain ⟨oc, od, dt, sl⟩ := o
    simp only at h3
    subst h3
    exact (PySem.W.Looks.ld h1).andThen .now
  | dT ea =>
    cases ry
    obtain ⟨_, _, xs, _, o, es, ep, h1, h2, _⟩ := I.hok _ _ ea
    have h3 := h2.1
    obtain ⟨oc, od, dt, sl⟩ := o
    simp only at h3
    subst h3
    exact (PySem.W.Looks.ld h1).andThen .now
  | ins ea cl ha hn htk hm =>
    cases ry
    obtain ⟨od, J⟩ := instOf I ea
    exact J.type
theorem op_eqOwn (hs : Spc X.K C "__eq__" g) (F : FnR X.prog X.w X.K X.mg X.base CX n g sp) (hr : Room n X.A) (hx : Passes CX X E) : OpR X (compareOp .Eq) (rEqOwn X.K C sp E) := by
  intro pins s σ H x y v u Q I rx ry h
  obtain ⟨a, dx, fs, t, rfl, ha, ty, hn, q⟩ := h
  cases (show v = Value.ref a from rx)
  obtain ⟨od, J⟩ := instOf I ha
  obtain ⟨m, hF⟩ := I.fr
  have hcmp : compareOp .Eq (.ref a) u = richCompare .Eq (.ref a) u := rfl
  rw [hcmp]
  refine PySem.W.cmp_K (op := .Eq) hr.units0 hF I.ok.mod.kin J (tyLooks I ry ty) hn hs.at_ hs.fn ?_
  refine wpAny_mono (runR (us := [.ref a, u]) (vs := [.ref a, y]) F hr rfl hx I (.cons rfl (.cons ry .nil)) q) (fun w s' z => ?_) fun _ _ x => x
  obtain ⟨z', H', I', rz, qz⟩ := z
  exact cmpBackOf rz ⟨z', H', I', rz, qz⟩

/-- repr of data: none, bools, ints, texts, lists, tuples at any depth -/
def rReprD (K : PySem.W.Frag) : List V → Hp → VK → Prop := fun xs H Q => ∃ a d, xs = [.ref a] ∧ Dp K H (.ref a) d ∧ d.showable = true ∧ d.hasDict = false ∧ d.depth ≤ 60 ∧ d.shown.length ≤ sizeLine ∧ Q (.str d.shown) H
theorem call_reprD (hg : X.A.guards = some []) (hr : Room n X.A) : CallR X (.builtin "repr") (rReprD X.K) := by
  intro pins s σ H xs us Q I r h
  obtain ⟨a, d, rfl, hd, hs, hn, hdp, hz, q⟩ := h
  obtain ⟨u, rfl, ru⟩ := vals1 r
  have ru' := ru
  cases (show u = Value.ref a from ru)
  obtain ⟨as, rr⟩ := Dp.reads I d _ _ hd ru'
  refine repr_of_reads' rr hs (fun z => by rw [hn] at z; cases z) hg (by have := hr.units; omega) (fun b o e => e) (fun h' u tk hk => ?_) hz
  exact ⟨.str d.shown, H, I.kept (t' := tk) hk, ⟨_, rfl⟩, q⟩

/-- a ** b for greater a -/
def CPowW (i j : Int) : Prop := 0 ≤ j ∧ (Builtin.Int.intBits i : Int) * j ≤ 2 ^ 27
theorem op_powW : OpR X (binaryOp .Pow) (rI CPowW fun i j => .int (i ^ j.toNat)) := by
  intro pins s σ H x y v u Q I rx ry h
  obtain ⟨i, j, rfl, rfl, hc, q⟩ := h
  obtain ⟨t, rfl⟩ := (show ∃ t, v = Value.int i t from rx)
  obtain ⟨t', rfl⟩ := (show ∃ t', u = Value.int j t' from ry)
  exact pow_int hc.1 hc.2 ⟨.int _, H, I.tok _, ⟨_, rfl⟩, q⟩
end
end Wd
/-! Data, and what evaluates to which data: heaps stay hidden. -/
namespace Wd
open PySem L2

/-- what a value is, whatever its address -/
inductive D where
  | non
  | bl (b : Bool)
  | int (i : Int)
  | str (x : Str)
  | lst (ds : List D)
  | tup (ds : List D)
  | dic (es : List (Key × D))
  | scr (ds : List D)
  | obj (C : Addr) (gs : List (Str × D))

mutual
inductive Is (H : Hp) : V → D → Prop
  | non : Is H .non .non
  | bl (b : Bool) : Is H (.bl b) (.bl b)
  | int (i : Int) : Is H (.int i) (.int i)
  | str (x : Str) : Is H (.str x) (.str x)
  | lst {a : Addr} {xs : List V} {ds : List D} : H a = some (.lst xs) → IsA H xs ds → Is H (.ref a) (.lst ds)
  | tup {a : Addr} {xs : List V} {ds : List D} : H a = some (.tup xs) → IsA H xs ds → Is H (.ref a) (.tup ds)
  | scr {a : Addr} {xs : List V} {ds : List D} {o : Obj} : H a = some (.frz o (.lst xs)) → IsA H xs ds → Is H (.ref a) (.scr ds)
  | dic {a : Addr} {kvs : List (Key × V)} {es : List (Key × D)} : H a = some (.dK kvs) → IsK H kvs es → Is H (.ref a) (.dic es)
  | obj {a C dx : Addr} {fs : List (Str × V)} {gs : List (Str × D)} : H a = some (.ins C dx fs) → IsF H fs gs → Is H (.ref a) (.obj C gs)
inductive IsA (H : Hp) : List V → List D → Prop
  | nil : IsA H [] []
  | cons {v : V} {d : D} {vs : List V} {ds : List D} : Is H v d → IsA H vs ds → IsA H (v :: vs) (d :: ds)
inductive IsK (H : Hp) : List (Key × V) → List (Key × D) → Prop
  | nil : IsK H [] []
  | cons {k : Key} {v : V} {d : D} {vs : List (Key × V)} {ds : List (Key × D)} : Is H v d → IsK H vs ds → IsK H ((k, v) :: vs) ((k, d) :: ds)
inductive IsF (H : Hp) : List (Str × V) → List (Str × D) → Prop
  | nil : IsF H [] []
  | cons {k : Str} {v : V} {d : D} {vs : List (Str × V)} {ds : List (Str × D)} : Is H v d → IsF H vs ds → IsF H ((k, v) :: vs) ((k, d) :: ds)
end

section
variable {H H' : Hp}
mutual
theorem Is.mono (e : Same H H') : ∀ {v : V} {d : D}, Is H v d → Is H' v d
  | _, _, .non => .non
  | _, _, .bl b => .bl b
  | _, _, .int i => .int i
  | _, _, .str x => .str x
  | _, _, .lst h q => .lst (e _ _ h) (IsA.mono e q)
  | _, _, .tup h q => .tup (e _ _ h) (IsA.mono e q)
  | _, _, .scr h q => .scr (e _ _ h) (IsA.mono e q)
  | _, _, .dic h q => .dic (e _ _ h) (IsK.mono e q)
  | _, _, .obj h q => .obj (e _ _ h) (IsF.mono e q)
theorem IsA.mono (e : Same H H') : ∀ {v : List V} {d : List D}, IsA H v d → IsA H' v d
  | _, _, .nil => .nil
  | _, _, .cons h q => .cons (Is.mono e h) (IsA.mono e q)
theorem IsK.mono (e : Same H H') : ∀ {v : List (Key × V)} {d : List (Key × D)}, IsK H v d → IsK H' v d
  | _, _, .nil => .nil
  | _, _, .cons h q => .cons (Is.mono e h) (IsK.mono e q)
theorem IsF.mono (e : Same H H') : ∀ {v : List (Str × V)} {d : List (Str × D)}, IsF H v d → IsF H' v d
  | _, _, .nil => .nil
  | _, _, .cons h q => .cons (Is.mono e h) (IsF.mono e q)
end
theorem IsA.length : ∀ {vs : List V} {ds : List D}, IsA H vs ds → vs.length = ds.length
  | _, _, .nil => rfl
  | _, _, .cons _ q => congrArg (· + 1) q.length
theorem IsA.get : ∀ {vs : List V} {ds : List D} {i : Nat} {v : V}, IsA H vs ds → vs[i]? = some v → ∃ d, ds[i]? = some d ∧ Is H v d
  | _, _, i, v, .nil, e => by simp at e
  | _, _, 0, v, .cons h q, e => by simp at e; subst e; exact ⟨_, rfl, h⟩
  | _, _, i + 1, v, .cons h q, e => by
    obtain ⟨d, h1, h2⟩ := IsA.get (i := i) q (by simpa using e)
    exact ⟨d, by simpa using h1, h2⟩
theorem IsA.at : ∀ {vs : List V} {ds : List D} {i : Nat} {d : D}, IsA H vs ds → ds[i]? = some d → ∃ v, vs[i]? = some v ∧ Is H v d
  | _, _, i, v, .nil, e => by simp at e
  | _, _, 0, v, .cons h q, e => by simp at e; subst e; exact ⟨_, rfl, h⟩
  | _, _, i + 1, v, .cons h q, e => by
    obtain ⟨d, h1, h2⟩ := IsA.at (i := i) q (by simpa using e)
    exact ⟨d, by simpa using h1, h2⟩
theorem IsA.append : ∀ {xs ys : List V} {as bs : List D}, IsA H xs as → IsA H ys bs → IsA H (xs ++ ys) (as ++ bs)
  | _, _, _, _, .nil, s => s
  | _, _, _, _, .cons h t, s => .cons h (IsA.append t s)
theorem IsA.set {v : V} {d : D} (h : Is H v d) : ∀ {vs : List V} {ds : List D} (i : Nat), IsA H vs ds → IsA H (vs.set i v) (ds.set i d)
  | _, _, _, .nil => .nil
  | _, _, 0, .cons _ t => .cons h t
  | _, _, i + 1, .cons q t => .cons q (IsA.set h i t)
theorem IsA.take : ∀ {xs : List V} {as : List D} (n : Nat), IsA H xs as → IsA H (xs.take n) (as.take n)
  | _, _, 0, _ => .nil
  | _, _, n + 1, .nil => .nil
  | _, _, n + 1, .cons h t => .cons h (IsA.take n t)
theorem IsA.drop : ∀ {xs : List V} {as : List D} (n : Nat), IsA H xs as → IsA H (xs.drop n) (as.drop n)
  | _, _, 0, h => h
  | _, _, n + 1, .nil => .nil
  | _, _, n + 1, .cons h t => IsA.drop n t
theorem IsA.one {v : V} {d : D} (h : Is H v d) : IsA H [v] [d] := .cons h .nil
theorem IsF.lookup {f : Str} {d : D} : ∀ {fs : List (Str × V)} {gs : List (Str × D)}, IsF H fs gs → gs.lookup f = some d → ∃ v, fs.lookup f = some v ∧ Is H v d
  | _, _, .nil, e => by cases e
  | _, _, .cons (k := k) h q, e => by
    rw [List.lookup_cons] at e
    rw [List.lookup_cons]
    cases hk : (f == k) with
    | true => rw [hk] at e; cases e; exact ⟨_, rfl, h⟩
    | false => rw [hk] at e; exact IsF.lookup q e
theorem IsF.none {f : Str} : ∀ {fs : List (Str × V)} {gs : List (Str × D)}, IsF H fs gs → gs.lookup f = none → fs.lookup f = none
  | _, _, .nil, e => rfl
  | _, _, .cons (k := k) h q, e => by
    rw [List.lookup_cons] at e
    rw [List.lookup_cons]
    cases hk : (f == k) with
    | true => rw [hk] at e; cases e
    | false => rw [hk] at e; exact IsF.none q e
theorem IsF.length : ∀ {vs : List (Str × V)} {ds : List (Str × D)}, IsF H vs ds → vs.length = ds.length
  | _, _, .nil => rfl
  | _, _, .cons _ q => congrArg (· + 1) q.length
/-- a field put -/
def putG (f : Str) (d : D) : List (Str × D) → List (Str × D)
  | [] => [(f, d)]
  | (k, e) :: r => if k = f then (k, d) :: r else (k, e) :: putG f d r
end

theorem same_trans {A B C : Hp} (a : Same A B) (b : Same B C) : Same A C := Same.trans a b

/-- a step: the known part grows, what is not in S stays -/
structure Stp (S : Addr → Prop) (B H B' H' : Hp) : Prop where
  up : Same B B'
  inn : Same B' H'
  fr : ∀ a o, ¬ S a → H a = some o → H' a = some o
  kp : ∀ a, H a ≠ none → H' a ≠ none
  nw : ∀ a o, B' a = some o → B a = some o ∨ H a = none ∨ S a
abbrev Stp0 (B H B' H' : Hp) : Prop := Stp (fun _ => False) B H B' H'
section
variable {S S1 : Addr → Prop} {B H B1 H1 B2 H2 : Hp} {p : Addr} {o : HO}
theorem Stp.refl (h : Same B H) : Stp S B H B H := ⟨Same.refl _, h, fun _ _ _ e => e, fun _ e => e, fun _ _ e => .inl e⟩
theorem Stp.trans (a : Stp S B H B1 H1) (b : Stp S1 B1 H1 B2 H2) (hs : ∀ a, S1 a → S a ∨ H a = none) : Stp S B H B2 H2 where
  up := a.up.trans b.up
  inn := b.inn
  fr := fun x o hx e => b.fr x o (fun z => (hs x z).elim hx fun q => by rw [q] at e; cases e) (a.fr x o hx e)
  kp := fun x e => b.kp x (a.kp x e)
  nw := fun x o e => by
    rcases b.nw x o e with h | h | h
    · exact a.nw x o h
    · refine .inr (.inl ?_)
      cases q : H x with
      | none => rfl
      | some u => exact absurd h (a.kp x (by rw [q]; simp))
    · rcases hs x h with h | h
      · exact .inr (.inr h)
      · exact .inr (.inl h)
theorem Stp.mono (a : Stp S B H B1 H1) (hs : ∀ a, S a → S1 a) : Stp S1 B H B1 H1 :=
  ⟨a.up, a.inn, fun x o hx e => a.fr x o (fun z => hx (hs x z)) e, a.kp, fun x o e => (a.nw x o e).imp id (Or.imp id (hs x))⟩
theorem Stp.zero (a : Stp0 B H B1 H1) : Stp S B H B1 H1 := a.mono fun _ z => z.elim
theorem Stp.trans0 (a : Stp S B H B1 H1) (b : Stp0 B1 H1 B2 H2) : Stp S B H B2 H2 := a.trans b fun _ z => z.elim
theorem Stp.same (a : Stp0 B H B1 H1) : Same H H1 := fun x o e => a.fr x o id e
theorem free_of (h : Same B H) (e : H p = none) : B p = none := h.free e
theorem Same.upd (h : Same B H) (e : H p = none) : Same (upd B p o) (upd H p o) := fun a u q => by
  by_cases ha : a = p
  · subst ha; rw [upd_same] at q ⊢; exact q
  · rw [upd_ne ha] at q ⊢; exact h a u q
/-- a new known object -/
theorem Stp.new (h : Same B H) (e : H p = none) : Stp S B H (upd B p o) (upd H p o) where
  up := fun a u q => by rw [upd_ne (ne_of_none q (free_of h e))]; exact q
  inn := Same.upd h e
  fr := fun a u _ q => by rw [upd_ne (ne_of_none q e)]; exact q
  kp := fun a q => by
    by_cases ha : a = p
    · subst ha; rw [upd_same]; simp
    · rw [upd_ne ha]; exact q
  nw := fun a u q => by
    by_cases ha : a = p
    · subst ha; exact .inr (.inl e)
    · rw [upd_ne ha] at q; exact .inl q
/-- a new object that stays apart -/
theorem Stp.apart (h : Same B H) (e : H p = none) : Stp S B H B (upd H p o) where
  up := Same.refl _
  inn := fun a u q => by rw [upd_ne (ne_of_none q (free_of h e))]; exact h a u q
  fr := fun a u _ q => by rw [upd_ne (ne_of_none q e)]; exact q
  kp := fun a q => by
    by_cases ha : a = p
    · subst ha; rw [upd_same]; simp
    · rw [upd_ne ha]; exact q
  nw := fun a u q => .inl q
/-- an object of S changes -/
theorem Stp.write (h : Same B H) (hp : S p) (hb : B p = none) : Stp S B H B (upd H p o) where
  up := Same.refl _
  inn := fun a u q => by rw [upd_ne (ne_of_none q hb)]; exact h a u q
  fr := fun a u hn q => by
    by_cases ha : a = p
    · subst ha; exact absurd hp hn
    · rw [upd_ne ha]; exact q
  kp := fun a q => by
    by_cases ha : a = p
    · subst ha; rw [upd_same]; simp
    · rw [upd_ne ha]; exact q
  nw := fun a u q => .inl q
end

/-- what a slot holds -/
inductive Slo where
  | no
  | dat (d : D)
  | mls (ds : List D)
  | mob (C : Addr) (gs : List (Str × D))
def Slo.mut : Slo → Bool
  | .mls _ => true
  | .mob _ _ => true
  | _ => false

/-- the addresses of the slots that may change -/
def Mu (σ : L2.St) (ε : List Slo) (a : Addr) : Prop := ∃ (i : Nat) (e : Slo), ε[i]? = some e ∧ e.mut = true ∧ σ[i]? = some (some (.ref a))
structure Knw (B H : Hp) (σ : L2.St) (ε : List Slo) : Prop where
  sub : Same B H
  len : ε.length = σ.length
  dat : ∀ (i : Nat) (d : D), ε[i]? = some (.dat d) → ∃ v, σ[i]? = some (some v) ∧ Is B v d
  mls : ∀ (i : Nat) (ds : List D), ε[i]? = some (.mls ds) → ∃ l vs, σ[i]? = some (some (.ref l)) ∧ B l = none ∧ H l = some (.lst vs) ∧ IsA B vs ds
  mob : ∀ (i : Nat) (C : Addr) (gs : List (Str × D)), ε[i]? = some (.mob C gs) → ∃ l dx fs, σ[i]? = some (some (.ref l)) ∧ B l = none ∧ H l = some (.ins C dx fs) ∧ IsF B fs gs
  apart : ∀ (i j : Nat) (e e' : Slo) (l : Addr), i ≠ j → ε[i]? = some e → e.mut = true → ε[j]? = some e' → e'.mut = true → σ[i]? = some (some (.ref l)) → σ[j]? ≠ some (some (.ref l))

section
variable {B H B' H' : Hp} {σ : L2.St} {ε ε' : List Slo}
theorem Knw.mut_free (v : Knw B H σ ε) {a : Addr} (h : Mu σ ε a) : B a = none ∧ H a ≠ none := by
  obtain ⟨i, e, h1, h2, h3⟩ := h
  cases e with
  | no => cases h2
  | dat d => cases h2
  | mls ds =>
    obtain ⟨l, vs, q1, q2, q3, _⟩ := v.mls i ds h1
    rw [h3] at q1
    cases q1
    exact ⟨q2, by rw [q3]; simp⟩
  | mob C gs =>
    obtain ⟨l, dx, fs, q1, q2, q3, _⟩ := v.mob i C gs h1
    rw [h3] at q1
    cases q1
    exact ⟨q2, by rw [q3]; simp⟩
/-- a step that touches no changing slot -/
theorem Knw.step0 (v : Knw B H σ ε) (s : Stp0 B H B' H') : Knw B' H' σ ε where
  sub := s.inn
  len := v.len
  dat := fun i d h => by
    obtain ⟨x, h1, h2⟩ := v.dat i d h
    exact ⟨x, h1, h2.mono s.up⟩
  mls := fun i ds h => by
    obtain ⟨l, vs, h1, h2, h3, h4⟩ := v.mls i ds h
    refine ⟨l, vs, h1, ?_, s.fr l _ id h3, h4.mono s.up⟩
    cases q : B' l with
    | none => rfl
    | some o =>
      rcases s.nw l o q with z | z | z
      · rw [h2] at z; cases z
      · rw [h3] at z; cases z
      · exact z.elim
  mob := fun i C gs h => by
    obtain ⟨l, dx, fs, h1, h2, h3, h4⟩ := v.mob i C gs h
    refine ⟨l, dx, fs, h1, ?_, s.fr l _ id h3, h4.mono s.up⟩
    cases q : B' l with
    | none => rfl
    | some o =>
      rcases s.nw l o q with z | z | z
      · rw [h2] at z; cases z
      · rw [h3] at z; cases z
      · exact z.elim
  apart := v.apart
/-- one changing slot, a list, gets another content -/
theorem Knw.wrote (v : Knw B H σ ε) {i : Nat} {ds : List D} {l : Addr} {ws : List V} {es : List D} (hi : ε[i]? = some (.mls ds)) (hl : σ[i]? = some (some (.ref l)))
    (s : Stp (· = l) B H B' H') (hb : B' l = none) (hw : H' l = some (.lst ws)) (hd : IsA B' ws es) : Knw B' H' σ (ε.set i (.mls es)) where
  sub := s.inn
  len := by rw [List.length_set]; exact v.len
  dat := fun j d h => by
    by_cases hj : i = j
    · subst hj
      obtain ⟨hlt, _⟩ := List.getElem?_eq_some_iff.mp hi
      rw [List.getElem?_set_self hlt] at h; cases h
    · rw [List.getElem?_set_ne hj] at h
      obtain ⟨x, h1, h2⟩ := v.dat j d h
      exact ⟨x, h1, h2.mono s.up⟩
  mls := fun j cs h => by
    by_cases hj : i = j
    · subst hj
      obtain ⟨hlt, _⟩ := List.getElem?_eq_some_iff.mp hi
      rw [List.getElem?_set_self hlt] at h
      cases h
      exact ⟨l, ws, hl, hb, hw, hd⟩
    · rw [List.getElem?_set_ne hj] at h
      obtain ⟨m, vs, h1, h2, h3, h4⟩ := v.mls j cs h
      have hne : m ≠ l := fun z => by subst z; exact v.apart i j _ _ m hj hi rfl h rfl hl h1
      refine ⟨m, vs, h1, ?_, s.fr m _ hne h3, h4.mono s.up⟩
      cases q : B' m with
      | none => rfl
      | some o =>
        rcases s.nw m o q with z | z | z
        · rw [h2] at z; cases z
        · rw [h3] at z; cases z
        · exact absurd z hne
  mob := fun j C gs h => by
    by_cases hj : i = j
    · subst hj
      obtain ⟨hlt, _⟩ := List.getElem?_eq_some_iff.mp hi
      rw [List.getElem?_set_self hlt] at h; cases h
    · rw [List.getElem?_set_ne hj] at h
      obtain ⟨m, dx, fs, h1, h2, h3, h4⟩ := v.mob j C gs h
      have hne : m ≠ l := fun z => by subst z; exact v.apart i j _ _ m hj hi rfl h rfl hl h1
      refine ⟨m, dx, fs, h1, ?_, s.fr m _ hne h3, h4.mono s.up⟩
      cases q : B' m with
      | none => rfl
      | some o =>
        rcases s.nw m o q with z | z | z
        · rw [h2] at z; cases z
        · rw [h3] at z; cases z
        · exact absurd z hne
  apart := fun j k e e' m hjk h1 h2 h3 h4 h5 => by
    have fix : ∀ {j : Nat} {e : Slo}, (ε.set i (.mls es))[j]? = some e → e.mut = true → ∃ e0, ε[j]? = some e0 ∧ e0.mut = true := fun {j e} h hm => by
      by_cases hj : i = j
      · subst hj; exact ⟨_, hi, rfl⟩
      · rw [List.getElem?_set_ne hj] at h; exact ⟨_, h, hm⟩
    obtain ⟨e0, q1, q2⟩ := fix h1 h2
    obtain ⟨e1, q3, q4⟩ := fix h3 h4
    exact v.apart j k e0 e1 m hjk q1 q2 q3 q4 h5
/-- one changing slot, an object under way, gets another content -/
theorem Knw.wroteO (v : Knw B H σ ε) {i : Nat} {C : Addr} {gs gs' : List (Str × D)} {l dx : Addr} {fs : List (Str × V)} (hi : ε[i]? = some (.mob C gs)) (hl : σ[i]? = some (some (.ref l)))
    (s : Stp (· = l) B H B' H') (hb : B' l = none) (hw : H' l = some (.ins C dx fs)) (hd : IsF B' fs gs') : Knw B' H' σ (ε.set i (.mob C gs')) where
  sub := s.inn
  len := by rw [List.length_set]; exact v.len
  dat := fun j d h => by
    by_cases hj : i = j
    · subst hj
      obtain ⟨hlt, _⟩ := List.getElem?_eq_some_iff.mp hi
      rw [List.getElem?_set_self hlt] at h; cases h
    · rw [List.getElem?_set_ne hj] at h
      obtain ⟨x, h1, h2⟩ := v.dat j d h
      exact ⟨x, h1, h2.mono s.up⟩
  mob := fun j C' gs2 h => by
    by_cases hj : i = j
    · subst hj
      obtain ⟨hlt, _⟩ := List.getElem?_eq_some_iff.mp hi
      rw [List.getElem?_set_self hlt] at h
      cases h
      exact ⟨l, dx, fs, hl, hb, hw, hd⟩
    · rw [List.getElem?_set_ne hj] at h
      obtain ⟨m, dy, vs, h1, h2, h3, h4⟩ := v.mob j C' gs2 h
      have hne : m ≠ l := fun z => by subst z; exact v.apart i j _ _ m hj hi rfl h rfl hl h1
      refine ⟨m, dy, vs, h1, ?_, s.fr m _ hne h3, h4.mono s.up⟩
      cases q : B' m with
      | none => rfl
      | some o =>
        rcases s.nw m o q with z | z | z
        · rw [h2] at z; cases z
        · rw [h3] at z; cases z
        · exact absurd z hne
  mls := fun j gs2 h => by
    by_cases hj : i = j
    · subst hj
      obtain ⟨hlt, _⟩ := List.getElem?_eq_some_iff.mp hi
      rw [List.getElem?_set_self hlt] at h; cases h
    · rw [List.getElem?_set_ne hj] at h
      obtain ⟨m, vs, h1, h2, h3, h4⟩ := v.mls j gs2 h
      have hne : m ≠ l := fun z => by subst z; exact v.apart i j _ _ m hj hi rfl h rfl hl h1
      refine ⟨m, vs, h1, ?_, s.fr m _ hne h3, h4.mono s.up⟩
      cases q : B' m with
      | none => rfl
      | some o =>
        rcases s.nw m o q with z | z | z
        · rw [h2] at z; cases z
        · rw [h3] at z; cases z
        · exact absurd z hne
  apart := fun j k e e' m hjk h1 h2 h3 h4 h5 => by
    have fix : ∀ {j : Nat} {e : Slo}, (ε.set i (.mob C gs'))[j]? = some e → e.mut = true → ∃ e0, ε[j]? = some e0 ∧ e0.mut = true := fun {j e} h hm => by
      by_cases hj : i = j
      · subst hj; exact ⟨_, hi, rfl⟩
      · rw [List.getElem?_set_ne hj] at h; exact ⟨_, h, hm⟩
    obtain ⟨e0, q1, q2⟩ := fix h1 h2
    obtain ⟨e1, q3, q4⟩ := fix h3 h4
    exact v.apart j k e0 e1 m hjk q1 q2 q3 q4 h5
/-- a slot is stored -/
theorem Knw.set_dat (v : Knw B H σ ε) {i : Nat} {x : V} {d : D} (h : Is B x d) : Knw B H (σ.set i (some x)) (ε.set i (.dat d)) where
  sub := v.sub
  len := by rw [List.length_set, List.length_set]; exact v.len
  dat := fun j e hj => by
    by_cases hi : i = j
    · subst hi
      by_cases hlt : i < ε.length
      · rw [List.getElem?_set_self hlt] at hj
        cases hj
        exact ⟨x, by rw [List.getElem?_set_self (v.len ▸ hlt)], h⟩
      · rw [List.getElem?_eq_none (by rw [List.length_set]; omega)] at hj; cases hj
    · rw [List.getElem?_set_ne hi] at hj ⊢
      exact v.dat j e hj
  mls := fun j e hj => by
    by_cases hi : i = j
    · subst hi
      by_cases hlt : i < ε.length
      · rw [List.getElem?_set_self hlt] at hj; cases hj
      · rw [List.getElem?_eq_none (by rw [List.length_set]; omega)] at hj; cases hj
    · rw [List.getElem?_set_ne hi] at hj ⊢
      exact v.mls j e hj
  mob := fun j C e hj => by
    by_cases hi : i = j
    · subst hi
      by_cases hlt : i < ε.length
      · rw [List.getElem?_set_self hlt] at hj; cases hj
      · rw [List.getElem?_eq_none (by rw [List.length_set]; omega)] at hj; cases hj
    · rw [List.getElem?_set_ne hi] at hj ⊢
      exact v.mob j C e hj
  apart := fun j k e e' m hjk h1 h2 h3 h4 h5 => by
    have fix : ∀ {j : Nat} {e : Slo}, (ε.set i (.dat d))[j]? = some e → e.mut = true → i ≠ j ∧ ε[j]? = some e := fun {j e} h hm => by
      by_cases hj : i = j
      · subst hj
        by_cases hlt : i < ε.length
        · rw [List.getElem?_set_self hlt] at h; cases h; cases hm
        · rw [List.getElem?_eq_none (by rw [List.length_set]; omega)] at h; cases h
      · rw [List.getElem?_set_ne hj] at h; exact ⟨hj, h⟩
    obtain ⟨n1, q1⟩ := fix h1 h2
    obtain ⟨n2, q2⟩ := fix h3 h4
    rw [List.getElem?_set_ne n1] at h5
    rw [List.getElem?_set_ne n2]
    exact v.apart j k e e' m hjk q1 h2 q2 h4 h5
/-- a slot gets a new list that stays apart -/
theorem Knw.set_mls (v : Knw B H σ ε) {i : Nat} {p : Addr} {vs : List V} {ds : List D} (hp : H p = none) (h : IsA B vs ds) : Knw B (upd H p (.lst vs)) (σ.set i (some (.ref p))) (ε.set i (.mls ds)) := by
  have hb := free_of v.sub hp
  have old : ∀ {l : Addr} {o : HO}, H l = some o → upd H p (.lst vs) l = some o := fun {l o} e => by rw [upd_ne (ne_of_none e hp)]; exact e
  refine ⟨fun a o q => old (v.sub a o q), by rw [List.length_set, List.length_set]; exact v.len, fun j e hj => ?_, fun j e hj => ?_, fun j C e hj => ?_, fun j k e e' m hjk h1 h2 h3 h4 h5 => ?_⟩
  · by_cases hi : i = j
    · subst hi
      by_cases hlt : i < ε.length
      · rw [List.getElem?_set_self hlt] at hj; cases hj
      · rw [List.getElem?_eq_none (by rw [List.length_set]; omega)] at hj; cases hj
    · rw [List.getElem?_set_ne hi] at hj ⊢
      exact v.dat j e hj
  · by_cases hi : i = j
    · subst hi
      by_cases hlt : i < ε.length
      · rw [List.getElem?_set_self hlt] at hj
        cases hj
        exact ⟨p, vs, by rw [List.getElem?_set_self (v.len ▸ hlt)], hb, upd_same, h⟩
      · rw [List.getElem?_eq_none (by rw [List.length_set]; omega)] at hj; cases hj
    · rw [List.getElem?_set_ne hi] at hj ⊢
      obtain ⟨l, ws, q1, q2, q3, q4⟩ := v.mls j e hj
      exact ⟨l, ws, q1, q2, old q3, q4⟩
  · by_cases hi : i = j
    · subst hi
      by_cases hlt : i < ε.length
      · rw [List.getElem?_set_self hlt] at hj; cases hj
      · rw [List.getElem?_eq_none (by rw [List.length_set]; omega)] at hj; cases hj
    · rw [List.getElem?_set_ne hi] at hj ⊢
      obtain ⟨l, dx, ws, q1, q2, q3, q4⟩ := v.mob j C e hj
      exact ⟨l, dx, ws, q1, q2, old q3, q4⟩
  · have fix : ∀ {j : Nat} {e : Slo}, (ε.set i (.mls ds))[j]? = some e → e.mut = true → (i = j ∧ i < ε.length) ∨ (i ≠ j ∧ ε[j]? = some e) := fun {j e} h hm => by
      by_cases hj : i = j
      · subst hj
        by_cases hlt : i < ε.length
        · exact .inl ⟨rfl, hlt⟩
        · rw [List.getElem?_eq_none (by rw [List.length_set]; omega)] at h; cases h
      · rw [List.getElem?_set_ne hj] at h; exact .inr ⟨hj, h⟩
    have oldM : ∀ {j : Nat} {e : Slo}, ε[j]? = some e → e.mut = true → σ[j]? ≠ some (some (.ref p)) := fun {j e} q1 q2 q3 => (v.mut_free ⟨j, e, q1, q2, q3⟩).2 hp
    rcases fix h1 h2 with ⟨rfl, hlt⟩ | ⟨n1, q1⟩
    · rcases fix h3 h4 with ⟨rfl, _⟩ | ⟨n2, q2⟩
      · exact absurd rfl hjk
      · rw [List.getElem?_set_self (v.len ▸ hlt)] at h5
        cases h5
        rw [List.getElem?_set_ne n2]
        exact oldM q2 h4
    · rw [List.getElem?_set_ne n1] at h5
      rcases fix h3 h4 with ⟨rfl, hlt⟩ | ⟨n2, q2⟩
      · rw [List.getElem?_set_self (v.len ▸ hlt)]
        intro z
        cases z
        exact oldM q1 h2 h5
      · rw [List.getElem?_set_ne n2]
        exact v.apart j k e e' m hjk q1 h2 q2 h4 h5
/-- what one no longer cares for -/
def Le (ε' ε : List Slo) : Prop := ε'.length = ε.length ∧ ∀ (i : Nat) (e : Slo), ε'[i]? = some e → e = .no ∨ ε[i]? = some e
theorem Knw.weak (v : Knw B H σ ε) (h : Le ε' ε) : Knw B H σ ε' where
  sub := v.sub
  len := h.1.trans v.len
  dat := fun i d q => (h.2 i _ q).elim (fun z => nomatch z) (v.dat i d)
  mls := fun i d q => (h.2 i _ q).elim (fun z => nomatch z) (v.mls i d)
  mob := fun i C d q => (h.2 i _ q).elim (fun z => nomatch z) (v.mob i C d)
  apart := fun i j e e' l hij h1 h2 h3 h4 => v.apart i j e e' l hij ((h.2 i _ h1).elim (fun z => by subst z; cases h2) id) h2 ((h.2 j _ h3).elim (fun z => by subst z; cases h4) id) h4
theorem Le.refl (ε : List Slo) : Le ε ε := ⟨rfl, fun _ _ h => .inr h⟩
theorem Le.mu (h : Le ε' ε) {a : Addr} (m : Mu σ ε' a) : Mu σ ε a := by
  obtain ⟨i, e, h1, h2, h3⟩ := m
  rcases h.2 i e h1 with z | z
  · subst z; cases h2
  · exact ⟨i, e, z, h2, h3⟩
/-- a list that will not change any more -/
theorem Knw.freeze (v : Knw B H σ ε) {i : Nat} {ds : List D} (hi : ε[i]? = some (.mls ds)) :
    ∃ l B', σ[i]? = some (some (.ref l)) ∧ Mu σ ε l ∧ Stp (Mu σ ε) B H B' H ∧ Knw B' H σ (ε.set i (.dat (.lst ds))) ∧ Is B' (.ref l) (.lst ds) := by
  obtain ⟨l, vs, h1, h2, h3, h4⟩ := v.mls i ds hi
  have hlt : i < ε.length := (List.getElem?_eq_some_iff.mp hi).1
  have up : Same B (upd B l (.lst vs)) := fun a o q => by rw [upd_ne (ne_of_none q h2)]; exact q
  have inn : Same (upd B l (.lst vs)) H := fun a o q => by
    by_cases ha : a = l
    · subst ha; rw [upd_same] at q; rw [h3]; exact q
    · rw [upd_ne ha] at q; exact v.sub a o q
  have hm : Mu σ ε l := ⟨i, _, hi, rfl, h1⟩
  have hI : Is (upd B l (.lst vs)) (.ref l) (.lst ds) := .lst upd_same (h4.mono up)
  refine ⟨l, upd B l (.lst vs), h1, hm, ⟨up, inn, fun _ _ _ e => e, fun _ e => e, fun a o q => ?_⟩, ⟨inn, by rw [List.length_set]; exact v.len, fun j d q => ?_, fun j d q => ?_, fun j C d q => ?_, fun j k e e' m hjk q1 q2 q3 q4 q5 => ?_⟩, hI⟩
  · by_cases ha : a = l
    · subst ha; exact .inr (.inr hm)
    · rw [upd_ne ha] at q; exact .inl q
  · by_cases hj : i = j
    · subst hj
      rw [List.getElem?_set_self hlt] at q
      cases q
      exact ⟨_, h1, hI⟩
    · rw [List.getElem?_set_ne hj] at q
      obtain ⟨x, q1, q2⟩ := v.dat j d q
      exact ⟨x, q1, q2.mono up⟩
  · by_cases hj : i = j
    · subst hj
      rw [List.getElem?_set_self hlt] at q; cases q
    · rw [List.getElem?_set_ne hj] at q
      obtain ⟨m, ws, q1, q2, q3, q4⟩ := v.mls j d q
      have hne : m ≠ l := fun z => by subst z; exact v.apart i j _ _ m hj hi rfl q rfl h1 q1
      exact ⟨m, ws, q1, by rw [upd_ne hne]; exact q2, q3, q4.mono up⟩
  · by_cases hj : i = j
    · subst hj
      rw [List.getElem?_set_self hlt] at q; cases q
    · rw [List.getElem?_set_ne hj] at q
      obtain ⟨m, dx, ws, q1, q2, q3, q4⟩ := v.mob j C d q
      have hne : m ≠ l := fun z => by subst z; exact v.apart i j _ _ m hj hi rfl q rfl h1 q1
      exact ⟨m, dx, ws, q1, by rw [upd_ne hne]; exact q2, q3, q4.mono up⟩
  · have fix : ∀ {j : Nat} {e : Slo}, (ε.set i (.dat (.lst ds)))[j]? = some e → e.mut = true → ε[j]? = some e := fun {j e} h hm => by
      by_cases hj : i = j
      · subst hj; rw [List.getElem?_set_self hlt] at h; cases h; cases hm
      · rw [List.getElem?_set_ne hj] at h; exact h
    exact v.apart j k e e' m hjk (fix q1 q2) q2 (fix q3 q4) q4 q5
end
end Wd
/-! What evaluates to which data, by what the slots hold; heaps, addresses and slots' values stay hidden. -/
namespace Wd
open PySem L2

/-- nothing becomes changing -/
structure Keeps (ε ε' : List Slo) : Prop where
  len : ε'.length = ε.length
  muts : ∀ (i : Nat) (e' : Slo), ε'[i]? = some e' → e'.mut = true → ∃ e, ε[i]? = some e ∧ e.mut = true
theorem Keeps.refl (ε : List Slo) : Keeps ε ε := ⟨rfl, fun _ e h m => ⟨e, h, m⟩⟩
theorem Keeps.trans {a b c : List Slo} (h : Keeps a b) (k : Keeps b c) : Keeps a c := ⟨k.len.trans h.len, fun i e q m => let ⟨e1, q1, m1⟩ := k.muts i e q m; h.muts i e1 q1 m1⟩
theorem Keeps.mu {ε ε' : List Slo} (h : Keeps ε ε') {σ : L2.St} {a : Addr} (m : Mu σ ε' a) : Mu σ ε a := by
  obtain ⟨i, e, h1, h2, h3⟩ := m
  obtain ⟨e0, q1, q2⟩ := h.muts i e h1 h2
  exact ⟨i, e0, q1, q2, h3⟩
theorem Keeps.wrote {ε : List Slo} {i : Nat} {e e' : Slo} (h : ε[i]? = some e) (m : e.mut = true) : Keeps ε (ε.set i e') := by
  refine ⟨List.length_set, fun j u q k => ?_⟩
  by_cases hj : i = j
  · subst hj; exact ⟨e, h, m⟩
  · rw [List.getElem?_set_ne hj] at q; exact ⟨u, q, k⟩
theorem Keeps.dat {ε : List Slo} {i : Nat} {d : D} : Keeps ε (ε.set i (.dat d)) := by
  refine ⟨List.length_set, fun j u q k => ?_⟩
  by_cases hj : i = j
  · subst hj
    by_cases hlt : i < ε.length
    · rw [List.getElem?_set_self hlt] at q; cases q; cases k
    · rw [List.getElem?_eq_none (by rw [List.length_set]; omega)] at q; cases q
  · rw [List.getElem?_set_ne hj] at q; exact ⟨u, q, k⟩

structure EV (te : TE) (ε : List Slo) (d : D) (ε' : List Slo) : Prop where
  keeps : Keeps ε ε'
  run : ∀ (B H : Hp) (σ : L2.St) (Q : VK), Knw B H σ ε → (∀ v B' H', Stp (Mu σ ε) B H B' H' → Knw B' H' σ ε' → Is B' v d → Q v H') → te σ H Q
structure EVT (tt : TT) (ε : List Slo) (b : Bool) (ε' : List Slo) : Prop where
  keeps : Keeps ε ε'
  run : ∀ (B H : Hp) (σ : L2.St) (Q : Bool → Hp → Prop), Knw B H σ ε → (∀ B' H', Stp (Mu σ ε) B H B' H' → Knw B' H' σ ε' → Q b H') → tt σ H Q
structure EVA (ta : TA) (ε : List Slo) (ds : List D) (ε' : List Slo) : Prop where
  keeps : Keeps ε ε'
  run : ∀ (B H : Hp) (σ : L2.St) (Q : List V → Hp → Prop), Knw B H σ ε → (∀ vs B' H', Stp (Mu σ ε) B H B' H' → Knw B' H' σ ε' → IsA B' vs ds → Q vs H') → ta σ H Q

/-- an operation by values, on data -/
def RD2 (r : R2) (x y z : D) : Prop := ∀ (B H : Hp) (v u : V) (Q : VK), Same B H → Is B v x → Is B u y → (∀ w B' H', Stp0 B H B' H' → Is B' w z → Q w H') → r v u H Q
def RD1 (r : V → Hp → VK → Prop) (x z : D) : Prop := ∀ (B H : Hp) (v : V) (Q : VK), Same B H → Is B v x → (∀ w B' H', Stp0 B H B' H' → Is B' w z → Q w H') → r v H Q
def RDn (r : List V → Hp → VK → Prop) (xs : List D) (z : D) : Prop := ∀ (B H : Hp) (vs : List V) (Q : VK), Same B H → IsA B vs xs → (∀ w B' H', Stp0 B H B' H' → Is B' w z → Q w H') → r vs H Q

section
variable {ε ε1 ε2 ε3 : List Slo} {ta tb tc te : TE} {t u : TT} {x y z d : D} {ds : List D} {b c : Bool} {i : Nat}

theorem Knw.stp0 {B H B' H' : Hp} {σ : L2.St} (v : Knw B H σ ε) (s : Stp0 B H B' H') : Knw B' H' σ ε := v.step0 s

theorem ev_var (h : ε[i]? = some (.dat d)) : EV (tVar i) ε d ε := ⟨.refl _, fun B H σ Q k q => by
  obtain ⟨v, h1, h2⟩ := k.dat i d h
  exact ⟨v, h1, q v B H (.refl k.sub) k h2⟩⟩
/-- a list's name, where it is to stay as it is from now on -/
theorem ev_frz (h : ε[i]? = some (.mls ds)) : EV (tVar i) ε (.lst ds) (ε.set i (.dat (.lst ds))) := ⟨.dat, fun B H σ Q k q => by
  obtain ⟨l, B', h1, hm, s, k', hI⟩ := k.freeze h
  exact ⟨_, h1, q _ B' H s k' hI⟩⟩
theorem ev_int {j : Int} : EV (tC (.int j)) ε (.int j) ε := ⟨.refl _, fun B H σ Q k q => q _ B H (.refl k.sub) k (.int j)⟩
theorem ev_bl : EV (tC (.bl b)) ε (.bl b) ε := ⟨.refl _, fun B H σ Q k q => q _ B H (.refl k.sub) k (.bl b)⟩
theorem ev_str {s : Str} : EV (tC (.str s)) ε (.str s) ε := ⟨.refl _, fun B H σ Q k q => q _ B H (.refl k.sub) k (.str s)⟩
theorem ev_non : EV (tC .non) ε .non ε := ⟨.refl _, fun B H σ Q k q => q _ B H (.refl k.sub) k .non⟩
theorem EV.to {d' : D} {ε' : List Slo} (h : EV te ε d ε1) (e : d = d') (e' : ε1 = ε') : EV te ε d' ε' := by subst e e'; exact h
theorem EV.as {d' : D} (h : EV te ε d ε1) (e : d = d') : EV te ε d' ε1 := by subst e; exact h
theorem EVT.as {b' : Bool} (h : EVT t ε b ε1) (e : b = b') : EVT t ε b' ε1 := by subst e; exact h

theorem ev_op {r : R2} (ha : EV ta ε x ε1) (hb : EV tb ε1 y ε2) (hr : RD2 r x y z) : EV (tOp r ta tb) ε z ε2 := ⟨ha.keeps.trans hb.keeps, fun B H σ Q k q =>
  ha.run B H σ _ k fun v B1 H1 s1 k1 i1 => hb.run B1 H1 σ _ k1 fun w B2 H2 s2 k2 i2 => hr B2 H2 v w Q k2.sub (i1.mono s2.up) i2 fun o B3 H3 s3 i3 =>
    q o B3 H3 ((s1.trans s2 fun a m => .inl (ha.keeps.mu m)).trans0 s3) (k2.step0 s3) i3⟩
theorem ev_un {r : V → Hp → VK → Prop} (ha : EV ta ε x ε1) (hr : RD1 r x z) : EV (tUn r ta) ε z ε1 := ⟨ha.keeps, fun B H σ Q k q =>
  ha.run B H σ _ k fun v B1 H1 s1 k1 i1 => hr B1 H1 v Q k1.sub i1 fun o B3 H3 s3 i3 => q o B3 H3 (s1.trans0 s3) (k1.step0 s3) i3⟩
theorem eva_nil : EVA tNil ε [] ε := ⟨.refl _, fun B H σ Q k q => q [] B H (.refl k.sub) k .nil⟩
theorem eva_cons {tr : TA} (ha : EV ta ε x ε1) (hb : EVA tr ε1 ds ε2) : EVA (tCons ta tr) ε (x :: ds) ε2 := ⟨ha.keeps.trans hb.keeps, fun B H σ Q k q =>
  ha.run B H σ _ k fun v B1 H1 s1 k1 i1 => hb.run B1 H1 σ _ k1 fun vs B2 H2 s2 k2 i2 => q _ B2 H2 (s1.trans s2 fun a m => .inl (ha.keeps.mu m)) k2 (.cons (i1.mono s2.up) i2)⟩
theorem eva_one (ha : EV ta ε x ε1) : EVA (tCons ta tNil) ε [x] ε1 := eva_cons ha eva_nil
theorem ev_tcb {r : List V → Hp → VK → Prop} {tr : TA} (ha : EVA tr ε ds ε1) (hr : RDn r ds z) : EV (tCB r tr) ε z ε1 := ⟨ha.keeps, fun B H σ Q k q =>
  ha.run B H σ _ k fun vs B1 H1 s1 k1 i1 => hr B1 H1 vs Q k1.sub i1 fun o B3 H3 s3 i3 => q o B3 H3 (s1.trans0 s3) (k1.step0 s3) i3⟩
theorem ev_tup {tr : TA} (ha : EVA tr ε ds ε1) (hl : ds.length ≤ 1000) : EV (tTup tr) ε (.tup ds) ε1 := ⟨ha.keeps, fun B H σ Q k q =>
  ha.run B H σ _ k fun vs B1 H1 s1 k1 i1 => ⟨by rw [i1.length]; exact Nat.le_trans hl (by decide), fun p hp => by
    have s2 : Stp0 B1 H1 (upd B1 p (.tup vs)) (upd H1 p (.tup vs)) := .new k1.sub hp
    exact q _ _ _ (s1.trans0 s2) (k1.step0 s2) (.tup upd_same (i1.mono s2.up))⟩⟩
theorem ev_lst {tr : TA} (ha : EVA tr ε ds ε1) (hl : ds.length ≤ 1000) : EV (tLst tr) ε (.lst ds) ε1 := ⟨ha.keeps, fun B H σ Q k q =>
  ha.run B H σ _ k fun vs B1 H1 s1 k1 i1 => ⟨by rw [i1.length]; exact Nat.le_trans hl (by decide), fun p hp => by
    have s2 : Stp0 B1 H1 (upd B1 p (.lst vs)) (upd H1 p (.lst vs)) := .new k1.sub hp
    exact q _ _ _ (s1.trans0 s2) (k1.step0 s2) (.lst upd_same (i1.mono s2.up))⟩⟩
theorem ev_dic : EV (fun _ H Q => ∀ p, H p = none → Q (.ref p) (upd H p (.dK []))) ε (.dic []) ε := ⟨.refl _, fun B H σ Q k q p hp => by
  have s2 : Stp0 B H (upd B p (.dK [])) (upd H p (.dK [])) := .new k.sub hp
  exact q _ _ _ s2.zero (k.step0 s2) (.dic upd_same .nil)⟩
theorem ev_fld {K : PySem.W.Frag} {C : Addr} {gs : List (Str × D)} {f : Str} (ha : EV ta ε (.obj C gs) ε1) (hc : Cls K C) (hn : NoAttr K C f) (hf : gs.lookup f = some d) : EV (tFld K ta f) ε d ε1 := ⟨ha.keeps, fun B H σ Q k q =>
  ha.run B H σ _ k fun v B1 H1 s1 k1 i1 => by
    cases i1 with
    | obj h g =>
      obtain ⟨w, h1, h2⟩ := g.lookup hf
      exact ⟨_, C, _, _, w, rfl, k1.sub _ _ h, hc, hn, h1, q w B1 H1 s1 k1 h2⟩⟩

/-! ### truth -/
theorem evt_test (h : EV te ε (.bl b) ε1) : EVT (tTest te) ε b ε1 := ⟨h.keeps, fun B H σ Q k q => h.run B H σ _ k fun v B1 H1 s1 k1 i1 => by cases i1; exact ⟨b, rfl, q B1 H1 s1 k1⟩⟩
theorem evt_B (h : EV te ε (.bl b) ε1) : EVT (tB te) ε b ε1 := ⟨h.keeps, fun B H σ Q k q => h.run B H σ _ k fun v B1 H1 s1 k1 i1 => by cases i1; exact ⟨b, rfl, q B1 H1 s1 k1⟩⟩
theorem evt_not (h : EVT t ε b ε1) : EVT (tNot t) ε (!b) ε1 := ⟨h.keeps, fun B H σ Q k q => h.run B H σ _ k q⟩
theorem evt_and (h : EVT t ε b ε1) (h1 : b = true → EVT u ε1 c ε2) (h0 : b = false → c = false ∧ ε2 = ε1) : EVT (tAnd t u) ε c ε2 := by
  cases b with
  | true =>
    have g := h1 rfl
    exact ⟨h.keeps.trans g.keeps, fun B H σ Q k q => h.run B H σ _ k fun B1 H1 s1 k1 => by
      show u σ H1 Q
      exact g.run B1 H1 σ _ k1 fun B2 H2 s2 k2 => q B2 H2 (s1.trans s2 fun a m => .inl (h.keeps.mu m)) k2⟩
  | false =>
    obtain ⟨rfl, rfl⟩ := h0 rfl
    exact ⟨h.keeps, fun B H σ Q k q => h.run B H σ _ k fun B1 H1 s1 k1 => by
      show Q false H1
      exact q B1 H1 s1 k1⟩
theorem evt_or (h : EVT t ε b ε1) (h0 : b = false → EVT u ε1 c ε2) (h1 : b = true → c = true ∧ ε2 = ε1) : EVT (tOr t u) ε c ε2 := by
  cases b with
  | false =>
    have g := h0 rfl
    exact ⟨h.keeps.trans g.keeps, fun B H σ Q k q => h.run B H σ _ k fun B1 H1 s1 k1 => by
      show u σ H1 Q
      exact g.run B1 H1 σ _ k1 fun B2 H2 s2 k2 => q B2 H2 (s1.trans s2 fun a m => .inl (h.keeps.mu m)) k2⟩
  | true =>
    obtain ⟨rfl, rfl⟩ := h1 rfl
    exact ⟨h.keeps, fun B H σ Q k q => h.run B H σ _ k fun B1 H1 s1 k1 => by
      show Q true H1
      exact q B1 H1 s1 k1⟩
theorem ev_and (h : EV ta ε (.bl b) ε1) (h1 : b = true → EV tb ε1 (.bl c) ε2) (h0 : b = false → c = false ∧ ε2 = ε1) : EV (tAndV ta tb) ε (.bl c) ε2 := by
  cases b with
  | true =>
    have g := h1 rfl
    exact ⟨h.keeps.trans g.keeps, fun B H σ Q k q => h.run B H σ _ k fun v B1 H1 s1 k1 i1 => by
      cases i1
      refine ⟨true, rfl, ?_⟩
      show tb σ H1 Q
      exact g.run B1 H1 σ _ k1 fun w B2 H2 s2 k2 i2 => q w B2 H2 (s1.trans s2 fun a m => .inl (h.keeps.mu m)) k2 i2⟩
  | false =>
    obtain ⟨rfl, rfl⟩ := h0 rfl
    exact ⟨h.keeps, fun B H σ Q k q => h.run B H σ _ k fun v B1 H1 s1 k1 i1 => by
      cases i1
      exact ⟨false, rfl, q _ B1 H1 s1 k1 (.bl false)⟩⟩
theorem ev_or (h : EV ta ε (.bl b) ε1) (h0 : b = false → EV tb ε1 (.bl c) ε2) (h1 : b = true → c = true ∧ ε2 = ε1) : EV (tOrV ta tb) ε (.bl c) ε2 := by
  cases b with
  | false =>
    have g := h0 rfl
    exact ⟨h.keeps.trans g.keeps, fun B H σ Q k q => h.run B H σ _ k fun v B1 H1 s1 k1 i1 => by
      cases i1
      refine ⟨false, rfl, ?_⟩
      show tb σ H1 Q
      exact g.run B1 H1 σ _ k1 fun w B2 H2 s2 k2 i2 => q w B2 H2 (s1.trans s2 fun a m => .inl (h.keeps.mu m)) k2 i2⟩
  | true =>
    obtain ⟨rfl, rfl⟩ := h1 rfl
    exact ⟨h.keeps, fun B H σ Q k q => h.run B H σ _ k fun v B1 H1 s1 k1 i1 => by
      cases i1
      exact ⟨true, rfl, q _ B1 H1 s1 k1 (.bl true)⟩⟩
/-- the plain cases: the second part changes nothing -/
theorem evt_and0 (h : EVT t ε b ε1) (h1 : b = true → EVT u ε1 c ε1) : EVT (tAnd t u) ε (b && c) ε1 := evt_and h (fun e => by subst e; exact h1 rfl) fun e => by subst e; exact ⟨rfl, rfl⟩
theorem evt_or0 (h : EVT t ε b ε1) (h1 : b = false → EVT u ε1 c ε1) : EVT (tOr t u) ε (b || c) ε1 := evt_or h (fun e => by subst e; exact h1 rfl) fun e => by subst e; exact ⟨rfl, rfl⟩
theorem ev_and0 (h : EV ta ε (.bl b) ε1) (h1 : b = true → EV tb ε1 (.bl c) ε1) : EV (tAndV ta tb) ε (.bl (b && c)) ε1 := ev_and h (fun e => by subst e; exact h1 rfl) fun e => by subst e; exact ⟨rfl, rfl⟩
theorem ev_or0 (h : EV ta ε (.bl b) ε1) (h1 : b = false → EV tb ε1 (.bl c) ε1) : EV (tOrV ta tb) ε (.bl (b || c)) ε1 := ev_or h (fun e => by subst e; exact h1 rfl) fun e => by subst e; exact ⟨rfl, rfl⟩
theorem ev_not (h : EV ta ε (.bl b) ε1) : EV (tNotV ta) ε (.bl (!b)) ε1 := ⟨h.keeps, fun B H σ Q k q => h.run B H σ _ k fun v B1 H1 s1 k1 i1 => by
  cases i1
  exact ⟨b, rfl, q _ B1 H1 s1 k1 (.bl _)⟩⟩
theorem ev_if (h : EVT t ε b ε1) (h1 : b = true → EV ta ε1 d ε2) (h0 : b = false → EV tb ε1 d ε2) : EV (tIf t ta tb) ε d ε2 := by
  cases b with
  | true =>
    have g := h1 rfl
    exact ⟨h.keeps.trans g.keeps, fun B H σ Q k q => h.run B H σ _ k fun B1 H1 s1 k1 => by
      show ta σ H1 Q
      exact g.run B1 H1 σ _ k1 fun w B2 H2 s2 k2 i2 => q w B2 H2 (s1.trans s2 fun a m => .inl (h.keeps.mu m)) k2 i2⟩
  | false =>
    have g := h0 rfl
    exact ⟨h.keeps.trans g.keeps, fun B H σ Q k q => h.run B H σ _ k fun B1 H1 s1 k1 => by
      show tb σ H1 Q
      exact g.run B1 H1 σ _ k1 fun w B2 H2 s2 k2 i2 => q w B2 H2 (s1.trans s2 fun a m => .inl (h.keeps.mu m)) k2 i2⟩
/-- a < b < c -/
theorem ev_chain {r r' : R2} (ha : EV ta ε x ε1) (hb : EV tb ε1 y ε2) (hr : RD2 r x y (.bl b)) (hc : b = true → EV tc ε2 z ε2) (hr' : b = true → RD2 r' y z (.bl c)) : EV (tChain r r' ta tb tc) ε (.bl (b && c)) ε2 := ⟨ha.keeps.trans hb.keeps, fun B H σ Q k q =>
  ha.run B H σ _ k fun v B1 H1 s1 k1 i1 => hb.run B1 H1 σ _ k1 fun w B2 H2 s2 k2 i2 => hr B2 H2 v w _ k2.sub (i1.mono s2.up) i2 fun o B3 H3 s3 i3 => by
    cases i3
    have s4 := (s1.trans s2 fun a m => .inl (ha.keeps.mu m)).trans0 s3
    have k3 := k2.step0 s3
    refine ⟨b, rfl, ?_⟩
    cases b with
    | false => exact q _ B3 H3 s4 k3 (.bl false)
    | true =>
      show tc σ H3 _
      exact (hc rfl).run B3 H3 σ _ k3 fun w2 B5 H5 s5 k5 i5 => hr' rfl B5 H5 w w2 Q k5.sub ((i2.mono s3.up).mono s5.up) i5 fun o2 B6 H6 s6 i6 => by
        cases i6
        exact q _ B6 H6 ((s4.trans s5 fun a m => .inl (ha.keeps.mu (hb.keeps.mu m))).trans0 s6) (k5.step0 s6) (.bl c)⟩
end
end Wd
/-! Operations on data. -/
namespace Wd
open PySem L2

mutual
def D.py : D → PyData
  | .non => .none
  | .bl b => .bool b
  | .int i => .int i
  | .str x => .str x
  | .lst ds => .list (D.pyA ds)
  | .tup ds => .tuple (D.pyA ds)
  | .dic _ => .none
  | .scr _ => .none
  | .obj _ _ => .none
def D.pyA : List D → List PyData
  | [] => []
  | d :: ds => d.py :: D.pyA ds
end
mutual
def D.plain : D → Bool
  | .lst ds => D.plainA ds
  | .tup ds => D.plainA ds
  | .dic _ => false
  | .scr _ => false
  | .obj _ _ => false
  | _ => true
def D.plainA : List D → Bool
  | [] => true
  | d :: ds => d.plain && D.plainA ds
end
section
variable {K : PySem.W.Frag} {B H : Hp}
mutual
theorem Is.dp (s : Same B H) : ∀ {v : V} {d : D}, Is B v d → d.plain = true → Dp K H v d.py
  | _, _, .non, _ => .non
  | _, _, .bl b, _ => .bl b
  | _, _, .int i, _ => .int i
  | _, _, .str x, _ => .str x
  | _, _, .lst h q, p => .lst (.of (s _ _ h)) (IsA.dp s q (by simpa [D.plain] using p))
  | _, _, .tup h q, p => .tup (.of (s _ _ h)) (IsA.dp s q (by simpa [D.plain] using p))
  | _, _, .dic h q, p => by simp [D.plain] at p
  | _, _, .scr h q, p => by simp [D.plain] at p
  | _, _, .obj h q, p => by simp [D.plain] at p
theorem IsA.dp (s : Same B H) : ∀ {v : List V} {d : List D}, IsA B v d → D.plainA d = true → DpAll K H v (D.pyA d)
  | _, _, .nil, _ => .nil
  | _, _, .cons h q, p => by
    simp only [D.plainA, Bool.and_eq_true] at p
    exact .cons (Is.dp s h p.1) (IsA.dp s q p.2)
end
end
/-- plain data that == and in may go through -/
structure Pl (d : D) : Prop where
  pl : d.plain = true
  sh : SeqAt.shaped d.py = true

theorem pyA_eq : ∀ ds : List D, D.pyA ds = ds.map D.py
  | [] => by simp [D.pyA]
  | d :: ds => by simp [D.pyA, pyA_eq ds]
theorem plainA_eq : ∀ ds : List D, D.plainA ds = ds.all D.plain
  | [] => by simp [D.plainA]
  | d :: ds => by simp [D.plainA, plainA_eq ds]
theorem canLayAll0_eq : ∀ ds : List PyData, PyData.canLayAll0 ds = ds.all PyData.canLay0
  | [] => by simp [PyData.canLayAll0]
  | d :: ds => by simp [PyData.canLayAll0, canLayAll0_eq ds]
theorem depthAll_le {n : Nat} : ∀ {ds : List PyData}, (∀ d ∈ ds, d.depth ≤ n) → PyData.depthAll ds ≤ n
  | [], _ => by simp [PyData.depthAll]
  | d :: ds, h => by
    simp only [PyData.depthAll]
    have h1 := h d (by simp)
    have h2 := depthAll_le (ds := ds) fun e he => h e (by simp [he])
    omega
/-- plain, of so small a depth -/
structure PlN (n : Nat) (d : D) : Prop where
  pl : d.plain = true
  lay : d.py.canLay0 = true
  dep : d.py.depth ≤ n
theorem PlN.to {n : Nat} {d : D} (h : PlN n d) (hn : n ≤ 64 := by decide) : Pl d := ⟨h.pl, by
  unfold SeqAt.shaped
  rw [h.lay, Bool.true_and]
  exact decide_eq_true (Nat.le_trans h.dep hn)⟩
theorem PlN.mono {n m : Nat} {d : D} (h : PlN n d) (hn : n ≤ m) : PlN m d := ⟨h.pl, h.lay, Nat.le_trans h.dep hn⟩
theorem pln_int {i : Int} {n : Nat} : PlN n (.int i) := ⟨by simp [D.plain], by simp [D.py, PyData.canLay0], by simp [D.py, PyData.depth]⟩
theorem pln_bl {i : Bool} {n : Nat} : PlN n (.bl i) := ⟨by simp [D.plain], by simp [D.py, PyData.canLay0], by simp [D.py, PyData.depth]⟩
theorem pln_non {n : Nat} : PlN n .non := ⟨by simp [D.plain], by simp [D.py, PyData.canLay0], by simp [D.py, PyData.depth]⟩
theorem pln_str {x : Str} {n : Nat} (h : PyData.strOk x = true) : PlN n (.str x) := ⟨by simp [D.plain], by simp [D.py, PyData.canLay0, h], by simp [D.py, PyData.depth]⟩
theorem pln_tup {ds : List D} {n : Nat} (h : ∀ d ∈ ds, PlN n d) : PlN (n + 1) (.tup ds) := by
  refine ⟨?_, ?_, ?_⟩
  · simp only [D.plain, plainA_eq, List.all_eq_true]
    exact fun d hd => (h d hd).pl
  · simp only [D.py, PyData.canLay0, canLayAll0_eq, pyA_eq, List.all_map, List.all_eq_true]
    exact fun d hd => (h d hd).lay
  · simp only [D.py, PyData.depth, pyA_eq]
    have := depthAll_le (n := n) (ds := ds.map D.py) fun e he => by
      obtain ⟨d, hd, rfl⟩ := List.mem_map.mp he
      exact (h d hd).dep
    omega
theorem pln_lst {ds : List D} {n : Nat} (h : ∀ d ∈ ds, PlN n d) : PlN (n + 1) (.lst ds) := by
  have := pln_tup h
  refine ⟨?_, ?_, ?_⟩
  · simpa only [D.plain] using this.pl
  · simpa only [D.py, PyData.canLay0] using this.lay
  · simpa only [D.py, PyData.depth] using this.dep

/-! ### == of data without truth values is being equal -/
mutual
def D.noB : D → Bool
  | .bl _ => false
  | .lst ds => D.noBA ds
  | .tup ds => D.noBA ds
  | .dic _ => false
  | .scr _ => false
  | .obj _ _ => false
  | _ => true
def D.noBA : List D → Bool
  | [] => true
  | d :: ds => d.noB && D.noBA ds
end
mutual
theorem eqv_iff : ∀ (a b : D), a.noB = true → b.noB = true → (PyData.eqv a.py b.py = true ↔ a = b)
  | .non, b, _, hb => by cases b <;> simp_all [D.noB, D.py, PyData.eqv]
  | .bl _, b, ha, _ => by simp [D.noB] at ha
  | .int i, b, _, hb => by cases b <;> simp_all [D.noB, D.py, PyData.eqv]
  | .str x, b, _, hb => by cases b <;> simp_all [D.noB, D.py, PyData.eqv]
  | .lst ds, b, ha, hb => by
    cases b with
    | lst es =>
      simp only [D.noB] at ha hb
      simp only [D.py, PyData.eqv, D.lst.injEq]
      exact eqvA_iff ds es ha hb
    | _ => simp_all [D.noB, D.py, PyData.eqv]
  | .tup ds, b, ha, hb => by
    cases b with
    | tup es =>
      simp only [D.noB] at ha hb
      simp only [D.py, PyData.eqv, D.tup.injEq]
      exact eqvA_iff ds es ha hb
    | _ => simp_all [D.noB, D.py, PyData.eqv]
  | .dic _, b, ha, _ => by simp [D.noB] at ha
  | .scr _, b, ha, _ => by simp [D.noB] at ha
  | .obj _ _, b, ha, _ => by simp [D.noB] at ha
theorem eqvA_iff : ∀ (a b : List D), D.noBA a = true → D.noBA b = true → (PyData.eqvAll (D.pyA a) (D.pyA b) = true ↔ a = b)
  | [], [], _, _ => by simp [D.pyA, PyData.eqvAll]
  | [], _ :: _, _, _ => by simp [D.pyA, PyData.eqvAll]
  | _ :: _, [], _, _ => by simp [D.pyA, PyData.eqvAll]
  | x :: xs, y :: ys, ha, hb => by
    simp only [D.noBA, Bool.and_eq_true] at ha hb
    simp only [D.pyA, PyData.eqvAll, Bool.and_eq_true, eqv_iff x y ha.1 hb.1, eqvA_iff xs ys ha.2 hb.2, List.cons.injEq]
end

section
variable {X : Cx} {K : PySem.W.Frag}

/-! ### numbers -/
theorem rd_I0 {g : Int → Int → V} {i j : Int} {z : D} (h : ∀ B, Is B (g i j) z) : RD2 (rI0 g) (.int i) (.int j) z := fun B H v u Q s h1 h2 q => by
  cases h1
  cases h2
  exact ⟨i, j, rfl, rfl, q _ B H (.refl s) (h B)⟩
theorem rd_I {C : Int → Int → Prop} {g : Int → Int → V} {i j : Int} {z : D} (hc : C i j) (h : ∀ B, Is B (g i j) z) : RD2 (rI C g) (.int i) (.int j) z := fun B H v u Q s h1 h2 q => by
  cases h1
  cases h2
  exact ⟨i, j, rfl, rfl, hc, q _ B H (.refl s) (h B)⟩
theorem rd_add {i j : Int} : RD2 (rI0 fun i j => .int (i + j)) (.int i) (.int j) (.int (i + j)) := rd_I0 fun _ => .int _
theorem rd_sub {i j : Int} : RD2 (rI0 fun i j => .int (i - j)) (.int i) (.int j) (.int (i - j)) := rd_I0 fun _ => .int _
theorem rd_mul {i j : Int} (h : CMul i j) : RD2 (rI CMul fun i j => .int (i * j)) (.int i) (.int j) (.int (i * j)) := rd_I h fun _ => .int _
theorem rd_mod {i j : Int} (h : 0 < j) : RD2 (rI (fun _ j => 0 < j) fun i j => .int (i % j)) (.int i) (.int j) (.int (i % j)) := rd_I (C := fun _ j => 0 < j) h fun _ => .int _
theorem rd_div {i j : Int} (h : CDiv i j) : RD2 (rI CDiv fun i j => .int (i / j)) (.int i) (.int j) (.int (i / j)) := rd_I h fun _ => .int _
theorem rd_pow {i j : Int} (h : CPow i j) : RD2 (rI CPow fun i j => .int (i ^ j.toNat)) (.int i) (.int j) (.int (i ^ j.toNat)) := rd_I h fun _ => .int _
theorem rd_powW {i j : Int} (h : CPowW i j) : RD2 (rI CPowW fun i j => .int (i ^ j.toNat)) (.int i) (.int j) (.int (i ^ j.toNat)) := rd_I h fun _ => .int _
theorem rd_lt {i j : Int} : RD2 (rI0 fun i j => .bl (decide (i < j))) (.int i) (.int j) (.bl (decide (i < j))) := rd_I0 fun _ => .bl _
theorem rd_le {i j : Int} : RD2 (rI0 fun i j => .bl (decide (i ≤ j))) (.int i) (.int j) (.bl (decide (i ≤ j))) := rd_I0 fun _ => .bl _
theorem rd_gt {i j : Int} : RD2 (rI0 fun i j => .bl (decide (j < i))) (.int i) (.int j) (.bl (decide (j < i))) := rd_I0 fun _ => .bl _
theorem rd_ge {i j : Int} : RD2 (rI0 fun i j => .bl (decide (j ≤ i))) (.int i) (.int j) (.bl (decide (j ≤ i))) := rd_I0 fun _ => .bl _
/-! ### == of atoms -/
theorem rd_eqI {i j : Int} : RD2 rEq (.int i) (.int j) (.bl (decide (i = j))) := fun B H v u Q s h1 h2 q => by
  cases h1
  cases h2
  refine ⟨rfl, q _ B H (.refl s) ?_⟩
  rw [show decide (V.int i = V.int j) = decide (i = j) by simp]
  exact .bl _
theorem rd_neI {i j : Int} : RD2 rNe (.int i) (.int j) (.bl (!decide (i = j))) := fun B H v u Q s h1 h2 q => by
  cases h1
  cases h2
  refine ⟨rfl, q _ B H (.refl s) ?_⟩
  rw [show decide (V.int i = V.int j) = decide (i = j) by simp]
  exact .bl _
theorem rd_eqS {i j : Str} : RD2 rEq (.str i) (.str j) (.bl (decide (i = j))) := fun B H v u Q s h1 h2 q => by
  cases h1
  cases h2
  refine ⟨rfl, q _ B H (.refl s) ?_⟩
  rw [show decide (V.str i = V.str j) = decide (i = j) by simp]
  exact .bl _
theorem rd_neS {i j : Str} : RD2 rNe (.str i) (.str j) (.bl (!decide (i = j))) := fun B H v u Q s h1 h2 q => by
  cases h1
  cases h2
  refine ⟨rfl, q _ B H (.refl s) ?_⟩
  rw [show decide (V.str i = V.str j) = decide (i = j) by simp]
  exact .bl _
theorem rd_eqB {i j : Bool} : RD2 rEq (.bl i) (.bl j) (.bl (decide (i = j))) := fun B H v u Q s h1 h2 q => by
  cases h1
  cases h2
  refine ⟨rfl, q _ B H (.refl s) ?_⟩
  rw [show decide (V.bl i = V.bl j) = decide (i = j) by simp]
  exact .bl _
theorem rd_neB {i j : Bool} : RD2 rNe (.bl i) (.bl j) (.bl (!decide (i = j))) := fun B H v u Q s h1 h2 q => by
  cases h1
  cases h2
  refine ⟨rfl, q _ B H (.refl s) ?_⟩
  rw [show decide (V.bl i = V.bl j) = decide (i = j) by simp]
  exact .bl _
/-! ### == and in of plain data -/
theorem rd_eqD {x y : D} (hx : Pl x) (hy : Pl y) : RD2 (rEqD K) x y (.bl (PyData.eqv x.py y.py)) := fun B H v u Q s h1 h2 q =>
  ⟨x.py, y.py, h1.dp s hx.pl, h2.dp s hy.pl, hx.sh, hy.sh, q _ B H (.refl s) (.bl _)⟩
theorem rd_neD {x y : D} (hx : Pl x) (hy : Pl y) : RD2 (rNeD K) x y (.bl (!PyData.eqv x.py y.py)) := fun B H v u Q s h1 h2 q =>
  ⟨x.py, y.py, h1.dp s hx.pl, h2.dp s hy.pl, hx.sh, hy.sh, q _ B H (.refl s) (.bl _)⟩
theorem rd_inD {x : D} {ys : List D} (hx : Pl x) (hy : Pl (.lst ys)) : RD2 (rInD K) x (.lst ys) (.bl (ys.any fun z => PyData.eqv z.py x.py)) := fun B H v u Q s h1 h2 q => by
  refine ⟨x.py, D.pyA ys, h1.dp s hx.pl, ?_, hx.sh, ?_, q _ B H (.refl s) ?_⟩
  · have := h2.dp (K := K) s hy.pl
    simpa only [D.py] using this
  · have := hy.sh
    simpa only [D.py] using this
  · rw [pyA_eq, List.any_map]
    exact .bl _
/-- in, a tuple of plain data -/
def rInT (K : PySem.W.Frag) : R2 := fun x y H Q => ∃ d ds, Dp K H x d ∧ Dp K H y (.tuple ds) ∧ SeqAt.shaped d = true ∧ SeqAt.shaped (.tuple ds) = true ∧ Q (.bl (ds.any fun z => PyData.eqv z d)) H
theorem op_inT (hu : X.A.units + 65 < cLine) : OpR X (compareOp .In) (rInT X.K) := by
  intro pins s σ H x y v u Q I rx ry h
  obtain ⟨d, ds, hd, he, sd, se, q⟩ := h
  obtain ⟨as, r1⟩ := Dp.reads I d x v hd rx
  obtain ⟨bs, r2⟩ := Dp.reads I (.tuple ds) y u he ry
  exact SeqAt.in_tuple_reads r2 r1 (SeqAt.canLay_of_shaped se) (SeqAt.canLay_of_shaped sd) (PyProof.Rows.room_in_shaped sd hu) ⟨.bl _, H, I, rfl, q⟩
theorem rd_inT {x : D} {ys : List D} (hx : Pl x) (hy : Pl (.tup ys)) : RD2 (rInT K) x (.tup ys) (.bl (ys.any fun z => PyData.eqv z.py x.py)) := fun B H v u Q s h1 h2 q => by
  refine ⟨x.py, D.pyA ys, h1.dp s hx.pl, ?_, hx.sh, ?_, q _ B H (.refl s) ?_⟩
  · have := h2.dp (K := K) s hy.pl
    simpa only [D.py] using this
  · have := hy.sh
    simpa only [D.py] using this
  · rw [pyA_eq, List.any_map]
    exact .bl _
/-! ### places -/
theorem rd_ixL {ds : List D} {i : Int} {d : D} (h : atI ds i = some d) : RD2 (rIx K) (.lst ds) (.int i) d := fun B H v u Q s h1 h2 q => by
  cases h2
  cases h1 with
  | lst ha hx =>
    rename_i a xs
    have hl := hx.length
    unfold atI at h
    rw [← hl] at h
    cases e : ixN xs.length i with
    | none => rw [e] at h; cases h
    | some j =>
      rw [e] at h
      obtain ⟨w, hw, hd⟩ := hx.at (i := j) h
      exact .inl ⟨a, xs, i, w, rfl, rfl, .of (s _ _ ha), by unfold atI; rw [e]; exact hw, q _ B H (.refl s) hd⟩
theorem rd_ixT {ds : List D} {i : Int} {d : D} (h : atI ds i = some d) : RD2 (rIx K) (.tup ds) (.int i) d := fun B H v u Q s h1 h2 q => by
  cases h2
  cases h1 with
  | tup ha hx =>
    rename_i a xs
    have hl := hx.length
    unfold atI at h
    rw [← hl] at h
    cases e : ixN xs.length i with
    | none => rw [e] at h; cases h
    | some j =>
      rw [e] at h
      obtain ⟨w, hw, hd⟩ := hx.at (i := j) h
      exact .inr (.inl ⟨a, xs, i, w, rfl, rfl, .of (s _ _ ha), by unfold atI; rw [e]; exact hw, q _ B H (.refl s) hd⟩)
theorem rd_ixS {z : Str} {i : Int} {c : Nat} (hz : z.length ≤ 100000) (h : atI z.cps.toList i = some c) : RD2 (rIx K) (.str z) (.int i) (.str ⟨#[c]⟩) := fun B H v u Q s h1 h2 q => by
  cases h2
  cases h1
  exact .inr (.inr ⟨z, i, c, rfl, rfl, Nat.le_trans hz (by decide), h, q _ B H (.refl s) (.str _)⟩)
/-! ### built-ins -/
def rLen (K : PySem.W.Frag) : List V → Hp → VK → Prop := fun xs H Q => ∃ x n, xs = [x] ∧ LenV K x H n ∧ Q (.int n) H
theorem call_lenK : CallR X (.builtin "len") (rLen X.K) := call_len
theorem rn_lenL {ds : List D} : RDn (rLen K) [.lst ds] (.int ds.length) := fun B H vs Q s h q => by
  cases h with
  | cons h1 h2 =>
    cases h2
    cases h1 with
    | lst ha hx => exact ⟨_, ds.length, rfl, .inl ⟨_, .of (s _ _ ha), hx.length.symm⟩, q _ B H (.refl s) (.int _)⟩
theorem rn_lenT {ds : List D} : RDn (rLen K) [.tup ds] (.int ds.length) := fun B H vs Q s h q => by
  cases h with
  | cons h1 h2 =>
    cases h2
    cases h1 with
    | tup ha hx => exact ⟨_, ds.length, rfl, .inr ⟨_, .of (s _ _ ha), hx.length.symm⟩, q _ B H (.refl s) (.int _)⟩
theorem rn_lenS {z : Str} (hz : z.length ≤ 100000) : RDn (rLen K) [.str z] (.int z.length) := fun B H vs Q s h q => by
  cases h with
  | cons h1 h2 =>
    cases h2
    cases h1
    exact ⟨_, z.length, rfl, ⟨Nat.le_trans hz (by decide), rfl⟩, q _ B H (.refl s) (.int _)⟩
def rAbs : List V → Hp → VK → Prop := fun xs H Q => ∃ i, xs = [.int i] ∧ Q (.int (if i < 0 then -i else i)) H
theorem call_absK : CallR X (.builtin "abs") rAbs := call_abs
theorem rn_abs {i : Int} : RDn rAbs [.int i] (.int (if i < 0 then -i else i)) := fun B H vs Q s h q => by
  cases h with
  | cons h1 h2 => cases h2; cases h1; exact ⟨i, rfl, q _ B H (.refl s) (.int _)⟩
def rInt1 : List V → Hp → VK → Prop := fun xs H Q => (∃ i, xs = [.int i] ∧ Q (.int i) H) ∨ ∃ k, xs = [.bl k] ∧ Q (.int (if k then 1 else 0)) H
theorem call_intK : CallR X (.type "int") rInt1 := call_int1
theorem rn_int {i : Int} : RDn rInt1 [.int i] (.int i) := fun B H vs Q s h q => by
  cases h with
  | cons h1 h2 => cases h2; cases h1; exact .inl ⟨i, rfl, q _ B H (.refl s) (.int _)⟩
theorem rn_intB {b : Bool} : RDn rInt1 [.bl b] (.int (if b then 1 else 0)) := fun B H vs Q s h q => by
  cases h with
  | cons h1 h2 => cases h2; cases h1; exact .inr ⟨b, rfl, q _ B H (.refl s) (.int _)⟩
def rBool1 : List V → Hp → VK → Prop := fun xs H Q => (∃ i, xs = [.int i] ∧ Q (.bl (i != 0)) H) ∨ ∃ k, xs = [.bl k] ∧ Q (.bl k) H
theorem call_boolK : CallR X (.type "bool") rBool1 := call_bool1
theorem rn_bool {i : Int} : RDn rBool1 [.int i] (.bl (i != 0)) := fun B H vs Q s h q => by
  cases h with
  | cons h1 h2 => cases h2; cases h1; exact .inl ⟨i, rfl, q _ B H (.refl s) (.bl _)⟩
def rStrI : List V → Hp → VK → Prop := fun xs H Q => ∃ i, xs = [.int i] ∧ i.natAbs.log2 < 1920 ∧ Q (.str (toString i)) H
theorem call_strK : CallR X (.type "str") rStrI := call_str_int
theorem rn_str {i : Int} (h : i.natAbs.log2 < 1920) : RDn rStrI [.int i] (.str (toString i)) := fun B H vs Q s hh q => by
  cases hh with
  | cons h1 h2 => cases h2; cases h1; exact ⟨i, rfl, h, q _ B H (.refl s) (.str _)⟩
def rMax2 : List V → Hp → VK → Prop := fun xs H Q => ∃ i j, xs = [.int i, .int j] ∧ Q (.int (if j > i then j else i)) H
theorem call_maxK (hc : X.calm = true) : CallR X (.builtin "max") rMax2 := call_max2 hc
theorem rn_max {i j : Int} : RDn rMax2 [.int i, .int j] (.int (if j > i then j else i)) := fun B H vs Q s h q => by
  cases h with
  | cons h1 h2 =>
    cases h2 with
    | cons h2 h3 => cases h3; cases h1; cases h2; exact ⟨i, j, rfl, q _ B H (.refl s) (.int _)⟩
def rMin2 : List V → Hp → VK → Prop := fun xs H Q => ∃ i j, xs = [.int i, .int j] ∧ Q (.int (if j < i then j else i)) H
theorem call_minK (hc : X.calm = true) : CallR X (.builtin "min") rMin2 := call_min2 hc
theorem rn_min {i j : Int} : RDn rMin2 [.int i, .int j] (.int (if j < i then j else i)) := fun B H vs Q s h q => by
  cases h with
  | cons h1 h2 =>
    cases h2 with
    | cons h2 h3 => cases h3; cases h1; cases h2; exact ⟨i, j, rfl, q _ B H (.refl s) (.int _)⟩
def rListOf (K : PySem.W.Frag) : List V → Hp → VK → Prop := fun xs H Q => ∃ p ys, xs = [.ref p] ∧ (SqL K H p ys ∨ SqT K H p ys) ∧ ∀ l, H l = none → Q (.ref l) (upd H l (.lst ys))
theorem call_listK : CallR X (.type "list") (rListOf X.K) := call_list_of
theorem rn_list {x : D} {ds : List D} (hx : x = .lst ds ∨ x = .tup ds) : RDn (rListOf K) [x] (.lst ds) := fun B H vs Q s h q => by
  cases h with
  | cons h1 h2 =>
    cases h2
    rename_i v
    have : ∃ p ys, v = V.ref p ∧ (SqL K H p ys ∨ SqT K H p ys) ∧ IsA B ys ds := by
      rcases hx with rfl | rfl
      · cases h1 with
        | lst ha hx => exact ⟨_, _, rfl, .inl (.of (s _ _ ha)), hx⟩
      · cases h1 with
        | tup ha hx => exact ⟨_, _, rfl, .inr (.of (s _ _ ha)), hx⟩
    obtain ⟨p, ys, rfl, hy, hd⟩ := this
    refine ⟨p, ys, rfl, hy, fun l hl => ?_⟩
    have s2 : Stp0 B H (upd B l (.lst ys)) (upd H l (.lst ys)) := .new s hl
    exact q _ _ _ s2 (.lst upd_same (hd.mono s2.up))
def rTupOf (K : PySem.W.Frag) : List V → Hp → VK → Prop := fun xs H Q => ∃ p ys, xs = [.ref p] ∧ ((SqL K H p ys ∧ ∀ l, H l = none → Q (.ref l) (upd H l (.tup ys))) ∨ (SqT K H p ys ∧ Q (.ref p) H))
theorem call_tupK : CallR X (.type "tuple") (rTupOf X.K) := call_tuple_of
theorem rn_tup {ds : List D} : RDn (rTupOf K) [.lst ds] (.tup ds) := fun B H vs Q s h q => by
  cases h with
  | cons h1 h2 =>
    cases h2
    cases h1 with
    | lst ha hx =>
      rename_i p ys
      refine ⟨p, ys, rfl, .inl ⟨.of (s _ _ ha), fun l hl => ?_⟩⟩
      have s2 : Stp0 B H (upd B l (.tup ys)) (upd H l (.tup ys)) := .new s hl
      exact q _ _ _ s2 (.tup upd_same (hx.mono s2.up))
theorem rn_tupT {ds : List D} : RDn (rTupOf K) [.tup ds] (.tup ds) := fun B H vs Q s h q => by
  cases h with
  | cons h1 h2 =>
    cases h2
    cases h1 with
    | tup ha hx => exact ⟨_, _, rfl, .inr ⟨.of (s _ _ ha), q _ B H (.refl s) (.tup ha hx)⟩⟩
theorem isA_bools {B : Hp} : ∀ {vs : List V} {bs : List Bool}, IsA B vs (bs.map D.bl) → vs = bs.map V.bl
  | _, [], h => by cases h; rfl
  | _, b :: bs, h => by
    cases h with
    | cons h1 h2 => cases h1; rw [isA_bools h2, List.map_cons]
theorem isA_strs {B : Hp} : ∀ {vs : List V} {bs : List Str}, IsA B vs (bs.map D.str) → vs = bs.map V.str
  | _, [], h => by cases h; rfl
  | _, b :: bs, h => by
    cases h with
    | cons h1 h2 => cases h1; rw [isA_strs h2, List.map_cons]
theorem isA_ints {B : Hp} : ∀ {vs : List V} {bs : List Int}, IsA B vs (bs.map D.int) → vs = bs.map V.int
  | _, [], h => by cases h; rfl
  | _, b :: bs, h => by
    cases h with
    | cons h1 h2 => cases h1; rw [isA_ints h2, List.map_cons]
theorem rn_all {bs : List Bool} : RDn (rAll K) [.lst (bs.map D.bl)] (.bl (bs.all id)) := fun B H vs Q s h q => by
  cases h with
  | cons h1 h2 =>
    cases h2
    cases h1 with
    | lst ha hx =>
      have e := isA_bools hx
      subst e
      exact ⟨_, bs, rfl, .of (s _ _ ha), q _ B H (.refl s) (.bl _)⟩
/-! ### texts -/
def rJoin (K : PySem.W.Frag) : V → List V → Hp → VK → Prop := fun x xs H Q => ∃ a p, ∃ ys : List Str, x = .str a ∧ xs = [.ref p] ∧ (SqL K H p (ys.map V.str) ∨ SqT K H p (ys.map V.str)) ∧
  (ys.map (·.length)).sum + ys.length * a.length ≤ 16777216 ∧ Q (.str (Txt.join a ys)) H
theorem ev_join {ε ε1 ε2 : List Slo} {to te : TE} {a : Str} {ys : List Str} (ho : EV to ε (.str a) ε1) (he : EV te ε1 (.lst (ys.map D.str)) ε2) (hz : (ys.map (·.length)).sum + ys.length * a.length ≤ 16777216) : EV (tM1 (rJoin K) to te) ε (.str (Txt.join a ys)) ε2 := ⟨ho.keeps.trans he.keeps, fun B H σ Q k q =>
  ho.run B H σ _ k fun v B1 H1 s1 k1 i1 => by
    cases i1
    refine ⟨⟨a, rfl⟩, ?_⟩
    refine he.run B1 H1 σ _ k1 fun w B2 H2 s2 k2 i2 => ?_
    cases i2 with
    | lst ha hx =>
      have e := isA_strs hx
      subst e
      exact ⟨a, _, ys, rfl, rfl, .inl (.of (k2.sub _ _ ha)), hz, q _ B2 H2 (s1.trans s2 fun x m => .inl (ho.keeps.mu m)) k2 (.str _)⟩⟩
end
end Wd
/-! Comprehensions over data. -/
namespace Wd
open PySem L2

/-- slots forgotten -/
def wipeE (ε : List Slo) : List Nat → List Slo
  | [] => ε
  | v :: vs => (wipeE ε vs).set v .no
theorem wipeE_length (ε : List Slo) : ∀ vs : List Nat, (wipeE ε vs).length = ε.length
  | [] => rfl
  | v :: vs => by unfold wipeE; rw [List.length_set, wipeE_length ε vs]
theorem wipeE_in {ε : List Slo} {j : Nat} {e : Slo} : ∀ {vs : List Nat}, j ∈ vs → (wipeE ε vs)[j]? = some e → e = .no
  | [], h, _ => by cases h
  | v :: vs, h, q => by
    unfold wipeE at q
    by_cases hv : v = j
    · subst hv
      by_cases hlt : v < (wipeE ε vs).length
      · rw [List.getElem?_set_self hlt] at q; cases q; rfl
      · rw [List.getElem?_eq_none (by rw [List.length_set]; omega)] at q; cases q
    · rw [List.getElem?_set_ne hv] at q
      exact wipeE_in (by simpa [Ne.symm hv] using h) q
theorem wipeE_out {ε : List Slo} {j : Nat} : ∀ {vs : List Nat}, j ∉ vs → (wipeE ε vs)[j]? = ε[j]?
  | [], _ => rfl
  | v :: vs, h => by
    unfold wipeE
    have h1 : v ≠ j := fun z => h (by simp [z])
    rw [List.getElem?_set_ne h1]
    exact wipeE_out fun z => h (by simp [z])
theorem wipe_in {σ : L2.St} {j : Nat} : ∀ {vs : List Nat}, j ∈ vs → ∀ v, (wipe σ vs)[j]? ≠ some (some v) := fun {vs} h v q => (wipe_some q).2 h
theorem wipe_idem {σ : L2.St} {vs : List Nat} : wipe (wipe σ vs) vs = wipe σ vs := by
  apply List.ext_getElem?
  intro j
  by_cases hj : j ∈ vs
  · have h1 : ∀ τ : L2.St, (wipe τ vs)[j]? = if j < τ.length then some none else none := fun τ => by
      by_cases hl : j < τ.length
      · rw [if_pos hl]
        have hl' : j < (wipe τ vs).length := by rw [wipe_length]; exact hl
        rw [List.getElem?_eq_getElem hl']
        cases q : (wipe τ vs)[j] with
        | none => rfl
        | some v => exact absurd (by rw [List.getElem?_eq_getElem hl', q]) (wipe_in (σ := τ) hj v)
      · rw [if_neg hl]
        exact List.getElem?_eq_none (by rw [wipe_length]; omega)
    rw [h1, h1, wipe_length]
  · rw [wipe_out hj]
theorem wipe_set {σ : L2.St} {vs : List Nat} {i : Nat} {x : Option V} (hi : i ∈ vs) : wipe (σ.set i x) vs = wipe σ vs := by
  apply List.ext_getElem?
  intro j
  by_cases hj : j ∈ vs
  · have h1 : ∀ τ : L2.St, (wipe τ vs)[j]? = if j < τ.length then some none else none := fun τ => by
      by_cases hl : j < τ.length
      · rw [if_pos hl]
        have hl' : j < (wipe τ vs).length := by rw [wipe_length]; exact hl
        rw [List.getElem?_eq_getElem hl']
        cases q : (wipe τ vs)[j] with
        | none => rfl
        | some v => exact absurd (by rw [List.getElem?_eq_getElem hl', q]) (wipe_in (σ := τ) hj v)
      · rw [if_neg hl]
        exact List.getElem?_eq_none (by rw [wipe_length]; omega)
    rw [h1, h1, List.length_set]
  · rw [wipe_out hj, wipe_out hj, List.getElem?_set_ne (fun z => hj (by rw [← z]; exact hi))]
theorem Keeps.wipe {ε : List Slo} {vs : List Nat} : Keeps ε (wipeE ε vs) := ⟨wipeE_length ε vs, fun j e q m => by
  by_cases hj : j ∈ vs
  · rw [wipeE_in hj q] at m; cases m
  · rw [wipeE_out hj] at q; exact ⟨e, q, m⟩⟩
theorem wipeE_le {ε : List Slo} {vs : List Nat} : Le (wipeE ε vs) ε := ⟨wipeE_length ε vs, fun j e q => by
  by_cases hj : j ∈ vs
  · exact .inl (wipeE_in hj q)
  · rw [wipeE_out hj] at q; exact .inr q⟩
section
variable {B H : Hp} {σ : L2.St} {ε : List Slo} {vs : List Nat}
/-- the same slots otherwise -/
theorem Knw.slots {σ' : L2.St} (k : Knw B H σ ε) (hl : σ'.length = σ.length) (h : ∀ (j : Nat) (e : Slo), ε[j]? = some e → e ≠ .no → σ'[j]? = σ[j]?) : Knw B H σ' ε where
  sub := k.sub
  len := k.len.trans hl.symm
  dat := fun i d q => by rw [h i _ q (fun z => nomatch z)]; exact k.dat i d q
  mls := fun i d q => by rw [h i _ q (fun z => nomatch z)]; exact k.mls i d q
  mob := fun i C d q => by rw [h i _ q (fun z => nomatch z)]; exact k.mob i C d q
  apart := fun i j e e' l hij h1 h2 h3 h4 => by
    rw [h i _ h1 (fun z => by subst z; cases h2), h j _ h3 (fun z => by subst z; cases h4)]
    exact k.apart i j e e' l hij h1 h2 h3 h4
theorem Knw.wipe (k : Knw B H σ ε) : Knw B H (L2.wipe σ vs) (wipeE ε vs) :=
  (k.weak wipeE_le).slots (wipe_length σ vs) fun j e q hn => by
    by_cases hj : j ∈ vs
    · exact absurd (wipeE_in hj q) hn
    · exact wipe_out hj
theorem Knw.unwipe (k : Knw B H (L2.wipe σ vs) ε) (h : ∀ (j : Nat) (e : Slo), j ∈ vs → ε[j]? = some e → e = .no) : Knw B H σ ε :=
  k.slots (wipe_length σ vs).symm fun j e q hn => by
    by_cases hj : j ∈ vs
    · exact absurd (h j e hj q) hn
    · exact (wipe_out hj).symm
/-- an object that no slot knows changes -/
theorem Knw.out (k : Knw B H σ ε) {p : Addr} {o : HO} (hb : B p = none) (hm : ¬ Mu σ ε p) : Knw B (upd H p o) σ ε where
  sub := fun a u q => by rw [upd_ne (ne_of_none q hb)]; exact k.sub a u q
  len := k.len
  dat := k.dat
  mls := fun i ds q => by
    obtain ⟨l, vs, h1, h2, h3, h4⟩ := k.mls i ds q
    exact ⟨l, vs, h1, h2, by rw [upd_ne (fun z => hm (by rw [← z]; exact ⟨i, _, q, rfl, h1⟩))]; exact h3, h4⟩
  mob := fun i C gs q => by
    obtain ⟨l, dx, vs, h1, h2, h3, h4⟩ := k.mob i C gs q
    exact ⟨l, dx, vs, h1, h2, by rw [upd_ne (fun z => hm (by rw [← z]; exact ⟨i, _, q, rfl, h1⟩))]; exact h3, h4⟩
  apart := k.apart
theorem Stp.seal {S : Addr → Prop} {B0 H0 : Hp} {p : Addr} {o : HO} (s : Stp S B0 H0 B H) (h0 : H0 p = none) (hb : B p = none) (hh : H p = some o) : Stp S B0 H0 (upd B p o) H where
  up := fun a u q => by
    have q' := s.up a u q
    rw [upd_ne (ne_of_none q' hb)]; exact q'
  inn := fun a u q => by
    by_cases ha : a = p
    · subst ha; rw [upd_same] at q; rw [hh]; exact q
    · rw [upd_ne ha] at q; exact s.inn a u q
  fr := s.fr
  kp := s.kp
  nw := fun a u q => by
    by_cases ha : a = p
    · subst ha; exact .inr (.inl h0)
    · rw [upd_ne ha] at q; exact s.nw a u q
theorem Knw.seal (k : Knw B H σ ε) {p : Addr} {o : HO} (hb : B p = none) (hh : H p = some o) (hm : ¬ Mu σ ε p) : Knw (upd B p o) H σ ε := by
  have up : Same B (upd B p o) := fun a u q => by rw [upd_ne (ne_of_none q hb)]; exact q
  refine ⟨fun a u q => ?_, k.len, fun i d q => ?_, fun i ds q => ?_, fun i C gs q => ?_, k.apart⟩
  · by_cases ha : a = p
    · subst ha; rw [upd_same] at q; rw [hh]; exact q
    · rw [upd_ne ha] at q; exact k.sub a u q
  · obtain ⟨x, h1, h2⟩ := k.dat i d q
    exact ⟨x, h1, h2.mono up⟩
  · obtain ⟨l, vs, h1, h2, h3, h4⟩ := k.mls i ds q
    exact ⟨l, vs, h1, by rw [upd_ne (fun z => hm (by rw [← z]; exact ⟨i, _, q, rfl, h1⟩))]; exact h2, h3, h4.mono up⟩
  · obtain ⟨l, dx, vs, h1, h2, h3, h4⟩ := k.mob i C gs q
    exact ⟨l, dx, vs, h1, by rw [upd_ne (fun z => hm (by rw [← z]; exact ⟨i, _, q, rfl, h1⟩))]; exact h2, h3, h4.mono up⟩
theorem Stp.none {S : Addr → Prop} {B0 H0 : Hp} {p : Addr} (s : Stp S B0 H0 B H) (hb : B0 p = none) (hh : H0 p ≠ none) (hs : ¬ S p) : B p = none := by
  cases q : B p with
  | none => rfl
  | some o =>
    rcases s.nw p o q with z | z | z
    · rw [hb] at z; cases z
    · exact absurd z hh
    · exact absurd z hs
end

/-- what a comprehension, a for goes over: n things, their data -/
structure EVI (wi : TI) (ε : List Slo) (n : Nat) (it : Nat → D) (ε' : List Slo) : Prop where
  keeps : Keeps ε ε'
  run : ∀ (B H : Hp) (σ : L2.St) (R : It → Hp → Prop), Knw B H σ ε →
    (∀ (J : It) (B' H' : Hp) (G : Hp → Prop) (Y : Nat → Hp → V → Hp → Prop), Stp (Mu σ ε) B H B' H' → Knw B' H' σ ε' → Walk J n G Y → (∀ H2, Same B' H2 → G H2) →
      (∀ (i : Nat) (B1 H1 : Hp) (x : V) (H2 : Hp), i < n → Same B' B1 → Same B1 H1 → Y i H1 x H2 → ∃ B2, Stp0 B1 H1 B2 H2 ∧ Is B2 x (it i)) → R J H') → wi σ H R
/-- a target of a comprehension (or a for) stored -/
def EVG (g : TG) (vs : List Nat) (d : D) (ε ε' : List Slo) : Prop := Keeps ε ε' ∧ ∀ (B H : Hp) (σ : L2.St) (x : V) (R : L2.St → Hp → Prop), Knw B H σ ε → Is B x d →
  (∀ σ2, Knw B H σ2 ε' → wipe σ2 vs = wipe σ vs → (∀ a, Mu σ2 ε' a → Mu σ ε a) → R σ2 H) → g x σ H R
section
variable {ε ε1 : List Slo} {d : D} {i j : Nat} {vs : List Nat} {K : PySem.W.Frag}
theorem Mu.of_set {σ : L2.St} {x : V} {a : Addr} (m : Mu (σ.set i (some x)) (ε.set i (.dat d)) a) : Mu σ ε a := by
  obtain ⟨k, e, h1, h2, h3⟩ := m
  by_cases hk : i = k
  · subst hk
    by_cases hlt : i < ε.length
    · rw [List.getElem?_set_self hlt] at h1; cases h1; cases h2
    · rw [List.getElem?_eq_none (by rw [List.length_set]; omega)] at h1; cases h1
  · rw [List.getElem?_set_ne hk] at h1 h3
    exact ⟨k, e, h1, h2, h3⟩
theorem evg_name (hi : i ∈ vs) : EVG (gName i) vs d ε (ε.set i (.dat d)) := ⟨.dat, fun B H σ x R k h q => q _ (k.set_dat h) (wipe_set hi) fun a m => m.of_set⟩
theorem evg_pair {d1 d2 : D} (hi : i ∈ vs) (hj : j ∈ vs) : EVG (gTup K 2 (gCons (gName i) (gCons (gName j) gNil))) vs (.tup [d1, d2]) ε ((ε.set i (.dat d1)).set j (.dat d2)) := ⟨Keeps.dat.trans .dat, fun B H σ x R k h q => by
  cases h with
  | tup ha hx =>
    cases hx with
    | cons h1 hx =>
      cases hx with
      | cons h2 hx =>
        cases hx
        exact ⟨_, _, rfl, .of (k.sub _ _ ha), rfl, _, _, rfl, _, _, rfl, rfl, q _ ((k.set_dat h1).set_dat h2) ((wipe_set hj).trans (wipe_set hi)) fun a m => m.of_set.of_set⟩⟩

theorem evi_list {tl : TE} {ds : List D} (h : EV tl ε (.lst ds) ε1) : EVI (iList K tl) ε ds.length (fun i => ds.getD i .non) ε1 := ⟨h.keeps, fun B H σ R k q => h.run B H σ _ k fun v B1 H1 s1 k1 i1 => by
  cases i1 with
  | lst ha hx =>
    refine ⟨_, rfl, ⟨_, .of (k1.sub _ _ ha)⟩, q _ B1 H1 _ _ s1 k1 (hx.length ▸ walk_list) (fun H2 s => .of (s _ _ ha)) fun i B2 H2 x H3 hi sb ss y => ?_⟩
    obtain ⟨rfl, e⟩ := y
    obtain ⟨d, hd, hI⟩ := hx.get e
    exact ⟨B2, .refl ss, by rw [List.getD_eq_getElem?_getD, hd]; exact hI.mono sb⟩⟩
theorem evi_tup {tl : TE} {ds : List D} (h : EV tl ε (.tup ds) ε1) : EVI (iTup K tl) ε ds.length (fun i => ds.getD i .non) ε1 := ⟨h.keeps, fun B H σ R k q => h.run B H σ _ k fun v B1 H1 s1 k1 i1 => by
  cases i1 with
  | tup ha hx =>
    refine ⟨_, rfl, ⟨_, .of (k1.sub _ _ ha)⟩, q _ B1 H1 _ _ s1 k1 (hx.length ▸ walk_tup) (fun H2 s => .of (s _ _ ha)) fun i B2 H2 x H3 hi sb ss y => ?_⟩
    obtain ⟨rfl, e⟩ := y
    obtain ⟨d, hd, hI⟩ := hx.get e
    exact ⟨B2, .refl ss, by rw [List.getD_eq_getElem?_getD, hd]; exact hI.mono sb⟩⟩
theorem evi_rng1 {ta : TA} {n : Int} (h : EVA ta ε [.int n] ε1) (hn : -1000000 ≤ n ∧ n ≤ 1000000) : EVI (iRng1 ta) ε n.toNat (fun i => .int i) ε1 := ⟨h.keeps, fun B H σ R k q => h.run B H σ _ k fun v B1 H1 s1 k1 i1 => by
  cases i1 with
  | cons h1 h2 =>
    cases h2
    cases h1
    refine ⟨n, rfl, by omega, by omega, q _ B1 H1 _ _ s1 k1 walk_range (fun _ _ => True.intro) fun i B2 H2 x H3 hi sb ss y => ?_⟩
    obtain ⟨rfl, rfl⟩ := y
    exact ⟨B2, .refl ss, by show Is B2 (V.int (0 + (i : Int))) _; rw [Int.zero_add]; exact .int _⟩⟩
theorem evi_rng2 {ta : TA} {m n : Int} (h : EVA ta ε [.int m, .int n] ε1) (hm : -1000000 ≤ m ∧ m ≤ 1000000) (hn : -1000000 ≤ n ∧ n ≤ 1000000) : EVI (iRng2 ta) ε (n - m).toNat (fun i => .int (m + i)) ε1 := ⟨h.keeps, fun B H σ R k q => h.run B H σ _ k fun v B1 H1 s1 k1 i1 => by
  cases i1 with
  | cons h1 h2 =>
    cases h2 with
    | cons h2 h3 =>
      cases h3
      cases h1
      cases h2
      refine ⟨m, n, rfl, ⟨by omega, by omega, by omega, by omega⟩, q _ B1 H1 _ _ s1 k1 walk_range (fun _ _ => True.intro) fun i B2 H2 x H3 hi sb ss y => ?_⟩
      obtain ⟨rfl, rfl⟩ := y
      exact ⟨B2, .refl ss, .int _⟩⟩
theorem evi_str {te : TE} {z : Str} (h : EV te ε (.str z) ε1) : EVI (iStr te) ε z.cps.size (fun i => .str ⟨#[z.cps.getD i 0]⟩) ε1 := ⟨h.keeps, fun B H σ R k q => h.run B H σ _ k fun v B1 H1 s1 k1 i1 => by
  cases i1
  refine ⟨z, rfl, q _ B1 H1 _ _ s1 k1 walk_str (fun _ _ => True.intro) fun i B2 H2 x H3 hi sb ss y => ?_⟩
  obtain ⟨rfl, c, hc, rfl⟩ := y
  exact ⟨B2, .refl ss, by rw [show z.cps.getD i 0 = c by simp [Array.getD_eq_getD_getElem?, hc]]; exact .str _⟩⟩
theorem evi_enum {ta : TA} {ds : List D} (h : EVA ta ε [.lst ds] ε1) : EVI (iEnum K ta) ε ds.length (fun i => .tup [.int i, ds.getD i .non]) ε1 := ⟨h.keeps, fun B H σ R k q => h.run B H σ _ k fun v B1 H1 s1 k1 i1 => by
  cases i1 with
  | cons h1 h2 =>
    cases h2
    cases h1 with
    | lst ha hx =>
      refine ⟨_, _, rfl, .of (k1.sub _ _ ha), q _ B1 H1 _ _ s1 k1 (hx.length ▸ walk_enum) (fun H2 s => .of (s _ _ ha)) fun i B2 H2 x H3 hi sb ss y => ?_⟩
      obtain ⟨T, x1, x2, rfl, hT, rfl, e1, e2⟩ := y
      cases e1
      obtain ⟨d, hd, hI⟩ := hx.get e2
      have s2 : Stp0 B2 H2 (upd B2 T (.tup [V.int i, x2])) (upd H2 T (.tup [V.int i, x2])) := .new ss hT
      exact ⟨_, s2, .tup upd_same (.cons (.int _) (.one (by rw [List.getD_eq_getElem?_getD, hd]; exact (hI.mono sb).mono s2.up)))⟩⟩
end

/-- [te for g in wi if tt], turn by turn: the slots at each turn, what is made so far -/
theorem ev_lc {wi : TI} {g : TG} {tt : TT} {te : TE} {vs : List Nat} {ε ε1 : List Slo} {n : Nat} {it : Nat → D} (hi : EVI wi ε n it ε1) (E : Nat → List Slo) (O : Nat → List D) (h0 : E 0 = wipeE ε1 vs) (o0 : O 0 = [])
    (ol : ∀ i, i ≤ n → (O i).length ≤ 100000)
    (hs : ∀ i, i < n → ∃ ε2 b ε3, EVG g vs (it i) (E i) ε2 ∧ EVT tt ε2 b ε3 ∧ (b = true → ∃ y ε4, EV te ε3 y ε4 ∧ E (i + 1) = wipeE ε4 vs ∧ O (i + 1) = O i ++ [y]) ∧ (b = false → E (i + 1) = wipeE ε3 vs ∧ O (i + 1) = O i)) :
    EV (tLc wi g tt te vs) ε (.lst (O n)) (E n) := by
  have hE : ∀ i, i ≤ n → Keeps ε1 (E i) ∧ ∀ (j : Nat) (e : Slo), j ∈ vs → (E i)[j]? = some e → e = .no := fun i => by
    induction i with
    | zero => exact fun _ => by rw [h0]; exact ⟨.wipe, fun j e hj => wipeE_in hj⟩
    | succ i ih =>
      intro h
      obtain ⟨k1, _⟩ := ih (by omega)
      obtain ⟨ε2, b, ε3, g1, t1, c1, c0⟩ := hs i (by omega)
      cases b with
      | true =>
        obtain ⟨y, ε4, v1, e1, _⟩ := c1 rfl
        rw [e1]
        exact ⟨(((k1.trans g1.1).trans t1.keeps).trans v1.keeps).trans .wipe, fun j e hj => wipeE_in hj⟩
      | false =>
        rw [(c0 rfl).1]
        exact ⟨((k1.trans g1.1).trans t1.keeps).trans .wipe, fun j e hj => wipeE_in hj⟩
  refine ⟨hi.keeps.trans (hE n (Nat.le_refl _)).1, fun B H σ Q k q => ?_⟩
  refine hi.run B H σ _ k fun J B1 H1 G Y s1 k1 w hG hY => ?_
  intro P hP
  have noP : ∀ i, i ≤ n → ¬ Mu (wipe σ vs) (E i) P := fun i hin m => by
    have m1 := (hE i hin).1.mu m
    obtain ⟨j, e, q1, q2, q3⟩ := m1
    exact (k1.mut_free ⟨j, e, q1, q2, (wipe_some q3).1⟩).2 hP
  have toBase : ∀ i, i ≤ n → ∀ a, Mu (wipe σ vs) (E i) a → Mu σ ε1 a := fun i hin a m => by
    obtain ⟨j, e, q1, q2, q3⟩ := (hE i hin).1.mu m
    exact ⟨j, e, q1, q2, (wipe_some q3).1⟩
  refine lc_it w (fun i H2 => ∃ B2 acc, Knw B2 H2 (wipe σ vs) (E i) ∧ Stp (Mu σ ε1) B1 H1 B2 H2 ∧ B2 P = none ∧ H2 P = some (.lst acc) ∧ IsA B2 acc (O i)) ?_ ?_ ?_ ?_
  · refine ⟨B1, [], ?_, .apart k1.sub hP, free_of k1.sub hP, upd_same, by rw [o0]; exact .nil⟩
    rw [h0]
    exact k1.wipe.out (free_of k1.sub hP) (by have := noP 0 (Nat.zero_le _); rw [h0] at this; exact this)
  · rintro i H2 hin ⟨B2, acc, k2, s2, _⟩
    exact hG H2 fun a o e => k2.sub a o (s2.up a o e)
  · rintro i x H2 H3 hin ⟨B2, acc, k2, s2, p2, a2, i2⟩ y
    obtain ⟨B3, s3, x3⟩ := hY i B2 H2 x H3 hin s2.up k2.sub y
    have k3 := k2.step0 s3
    have p3 : B3 P = none := s3.none p2 (by rw [a2]; simp) id
    have a3 := s3.fr P _ id a2
    have s3' := s2.trans0 s3
    obtain ⟨ε2, b, ε3, ⟨_, g1⟩, t1, c1, c0⟩ := hs i hin
    refine g1 B3 H3 _ x _ k3 x3 fun σ2 k4 hw hm => ⟨hw.trans wipe_idem, ?_⟩
    have hm2 : ∀ a, Mu σ2 ε2 a → Mu σ ε1 a := fun a m => toBase i (Nat.le_of_lt hin) a (hm a m)
    have np2 : ¬ Mu σ2 ε2 P := fun m => noP i (Nat.le_of_lt hin) (hm P m)
    refine t1.run B3 H3 σ2 _ k4 fun B5 H5 s5 k5 => ?_
    have p5 := s5.none p3 (by rw [a3]; simp) np2
    have a5 := s5.fr P _ np2 a3
    have s5' := s3'.trans s5 fun a m => .inl (hm2 a m)
    cases b with
    | false =>
      obtain ⟨e1, e2⟩ := c0 rfl
      show ∃ B2 acc, _
      refine ⟨B5, acc, ?_, s5', p5, a5, by rw [e2]; exact i2.mono ((s3.up).trans s5.up)⟩
      have := k5.wipe (vs := vs)
      rw [hw, wipe_idem, ← e1] at this
      exact this
    | true =>
      obtain ⟨y, ε4, v1, e1, e2⟩ := c1 rfl
      show te σ2 H5 _
      have hm3 : ∀ a, Mu σ2 ε3 a → Mu σ ε1 a := fun a m => hm2 a (t1.keeps.mu m)
      have np3 : ¬ Mu σ2 ε3 P := fun m => np2 (t1.keeps.mu m)
      refine v1.run B5 H5 σ2 _ k5 fun yv B6 H6 s6 k6 y6 => ?_
      have p6 := s6.none p5 (by rw [a5]; simp) np3
      have a6 := s6.fr P _ np3 a5
      have s6' := s5'.trans s6 fun a m => .inl (hm3 a m)
      have i6 : IsA B6 acc (O i) := i2.mono ((s3.up.trans s5.up).trans s6.up)
      have hsz : acc.length ≤ 100000 := by rw [i6.length]; exact ol i (Nat.le_of_lt hin)
      refine ⟨acc, a6, Nat.lt_of_le_of_lt hsz (by decide), B6, acc ++ [yv], ?_, ?_, p6, upd_same, ?_⟩
      · have k7 := k6.wipe (vs := vs)
        rw [hw, wipe_idem, ← e1] at k7
        exact k7.out p6 (noP (i + 1) hin)
      · refine ⟨s6'.up, fun a u qq => ?_, fun a u hn qq => ?_, fun a qq => ?_, s6'.nw⟩
        · rw [upd_ne (ne_of_none qq p6)]; exact s6'.inn a u qq
        · rw [upd_ne (ne_of_none qq hP)]; exact s6'.fr a u hn qq
        · by_cases ha : a = P
          · subst ha; rw [upd_same]; simp
          · rw [upd_ne ha]; exact s6'.kp a qq
      · rw [e2]
        exact i6.append (.one y6)
  · rintro H2 ⟨B2, acc, k2, s2, p2, a2, i2⟩
    have k3 := (k2.seal p2 a2 (noP n (Nat.le_refl _))).unwipe (hE n (Nat.le_refl _)).2
    have s3 := s2.seal hP p2 a2
    exact q _ _ H2 (s1.trans s3 fun a m => .inl (hi.keeps.mu m)) k3 (.lst upd_same (i2.mono fun a u e => by rw [upd_ne (ne_of_none e p2)]; exact e))

/-- the plain map: nothing changes, no test -/
theorem ev_map {wi : TI} {te : TE} {x : Nat} {ε ε1 : List Slo} {n : Nat} {it : Nat → D} (hi : EVI wi ε n it ε1) (f : Nat → D) (hn : n ≤ 100000)
    (hs : ∀ i, i < n → EV te ((wipeE ε1 [x]).set x (.dat (it i))) (f i) ((wipeE ε1 [x]).set x (.dat (it i)))) :
    EV (tLc wi (gName x) tYes te [x]) ε (.lst ((List.range n).map f)) (wipeE ε1 [x]) := by
  have hw : ∀ d, wipeE ((wipeE ε1 [x]).set x (.dat d)) [x] = wipeE ε1 [x] := fun d => by
    simp [wipeE]
  refine ev_lc hi (fun _ => wipeE ε1 [x]) (fun i => (List.range i).map f) rfl rfl (fun i h => by simp; omega) fun i h => ?_
  refine ⟨_, true, _, evg_name (by simp), ⟨.refl _, fun B H σ Q k q => q B H (.refl k.sub) k⟩, fun _ => ⟨f i, _, hs i h, (hw _).symm, by rw [List.range_succ, List.map_append]; rfl⟩, fun z => nomatch z⟩
/-- the plain map with a test -/
theorem ev_filter {wi : TI} {tt : TT} {te : TE} {x : Nat} {ε ε1 : List Slo} {n : Nat} {it : Nat → D} (hi : EVI wi ε n it ε1) (f : Nat → D) (p : Nat → Bool) (hn : n ≤ 100000)
    (ht : ∀ i, i < n → EVT tt ((wipeE ε1 [x]).set x (.dat (it i))) (p i) ((wipeE ε1 [x]).set x (.dat (it i))))
    (hs : ∀ i, i < n → p i = true → EV te ((wipeE ε1 [x]).set x (.dat (it i))) (f i) ((wipeE ε1 [x]).set x (.dat (it i)))) :
    EV (tLc wi (gName x) tt te [x]) ε (.lst (((List.range n).filter p).map f)) (wipeE ε1 [x]) := by
  have hw : ∀ d, wipeE ((wipeE ε1 [x]).set x (.dat d)) [x] = wipeE ε1 [x] := fun d => by
    simp [wipeE]
  refine ev_lc hi (fun _ => wipeE ε1 [x]) (fun i => ((List.range i).filter p).map f) rfl rfl (fun i h => ?_) fun i h => ?_
  · have := List.length_filter_le p (List.range i)
    simp only [List.length_map, List.length_range] at *
    omega
  · refine ⟨_, p i, _, evg_name (by simp), ht i h, fun hp => ⟨f i, _, hs i h hp, (hw _).symm, ?_⟩, fun hp => ⟨(hw _).symm, ?_⟩⟩
    · rw [List.range_succ, List.filter_append, List.map_append]
      simp [hp]
    · rw [List.range_succ, List.filter_append, List.map_append]
      simp [hp]
end Wd
/-! Statements and calls over data. -/
namespace Wd
open PySem L2

/-- where a body has begun: what may change, what was known, the heap, the slot 0 that must stay -/
structure Frm where
  S : Addr → Prop
  B : Hp
  H : Hp
  pin : Option Addr
def At (F : Frm) (ε : List Slo) (σ : L2.St) (H : Hp) : Prop :=
  ∃ B, Knw B H σ ε ∧ Stp F.S F.B F.H B H ∧ (∀ a, Mu σ ε a → F.S a ∨ F.H a = none) ∧ ∀ p, F.pin = some p → σ[0]? = some (some (.ref p))
/-- from what the slots hold on, N holds -/
def NX (F : Frm) (ε : List Slo) (N : L2.St → Hp → Prop) : Prop := ∀ σ H, At F ε σ H → N σ H
/-- a return of d is good -/
def RT (F : Frm) (ε : List Slo) (d : D) (rt : VK) : Prop := ∀ (σ : L2.St) (B H : Hp) (v : V), Knw B H σ ε → Stp F.S F.B F.H B H → (∀ a, Mu σ ε a → F.S a ∨ F.H a = none) → (∀ p, F.pin = some p → σ[0]? = some (some (.ref p))) → Is B v d → rt v H

/-- what comes next, and the rest -/
def eNx (E : Ends) (n : L2.St → Hp → Prop) : Ends := { E with nx := n }
/-- within a loop -/
def eLp (E : Ends) (n : L2.St → Hp → Prop) : Ends := { E with nx := n, ct := n, bk := E.nx }
section
variable {F : Frm} {ε ε1 ε2 ε' : List Slo} {d : D} {ds es : List D} {te ti : TE} {ta : TA} {tc : TT} {t u tb : TS} {E : Ends} {i j : Nat} {b : Bool} {K : PySem.W.Frag} {N : L2.St → Hp → Prop}

theorem At.weak {σ : L2.St} {H : Hp} (a : At F ε σ H) (h : Le ε' ε) : At F ε' σ H := by
  obtain ⟨B, k, s, m, p⟩ := a
  exact ⟨B, k.weak h, s, fun x q => m x (h.mu q), p⟩
theorem nx_at (h : Le ε' ε) : NX F ε (fun σ H => At F ε' σ H) := fun σ H a => a.weak h
theorem nx_weak (h : Le ε' ε) (n : NX F ε' N) : NX F ε N := fun σ H a => n σ H (a.weak h)
theorem NX.to (n : NX F ε N) (e : ε = ε') : NX F ε' N := by subst e; exact n

theorem nx_seq (n : NX F ε (t (eNx E (u E)))) : NX F ε (tSeq t u E) := n
theorem nx_go {n : L2.St → Hp → Prop} (h : NX F ε n) : NX F ε (eNx E n).nx := h
theorem nx_goL {n : L2.St → Hp → Prop} (h : NX F ε n) : NX F ε (eLp E n).nx := h
theorem nx_next (n : NX F ε E.nx) : NX F ε (tNext E) := n
theorem nx_set (h : EV te ε d ε1) (n : NX F (ε1.set i (.dat d)) E.nx) (hi : i ≠ 0 ∨ F.pin = none := by first | exact .inl (by decide) | exact .inr rfl) : NX F ε (tAsg te (gName i) E) := fun σ H ⟨B, k, s, m, p⟩ =>
  h.run B H σ _ k fun v B1 H1 s1 k1 i1 => n _ H1 ⟨B1, k1.set_dat i1, s.trans s1 m, fun a q => m a (h.keeps.mu q.of_set), fun q hq => by
    rcases hi with z | z
    · rw [List.getElem?_set_ne z]; exact p q hq
    · rw [z] at hq; cases hq⟩
/-- x = [a, b, ..], a list that is to grow -/
theorem nx_new (h : EVA ta ε ds ε1) (hl : ds.length ≤ 1000) (n : NX F (ε1.set i (.mls ds)) E.nx) (hi : i ≠ 0 ∨ F.pin = none := by first | exact .inl (by decide) | exact .inr rfl) : NX F ε (tAsg (tLst ta) (gName i) E) := fun σ H ⟨B, k, s, m, p⟩ =>
  h.run B H σ _ k fun vs B1 H1 s1 k1 i1 => ⟨by rw [i1.length]; exact Nat.le_trans hl (by decide), fun x hx => n _ _ ⟨B1, k1.set_mls hx i1, (s.trans s1 m).trans0 (.apart k1.sub hx), fun a q => by
    obtain ⟨j, e, q1, q2, q3⟩ := q
    by_cases hj : i = j
    · subst hj
      by_cases hlt : i < σ.length
      · rw [List.getElem?_set_self hlt] at q3
        cases q3
        refine .inr ?_
        have h2 : H1 x = none := hx
        have s' := s.trans s1 m
        cases z : F.H x with
        | none => rfl
        | some o => exact absurd h2 (s'.kp x (by rw [z]; simp))
      · rw [List.getElem?_eq_none (by rw [List.length_set]; omega)] at q3; cases q3
    · rw [List.getElem?_set_ne hj] at q1 q3
      exact m a (h.keeps.mu ⟨j, e, q1, q2, q3⟩), fun q hq => by
    rcases hi with z | z
    · rw [List.getElem?_set_ne z]; exact p q hq
    · rw [z] at hq; cases hq⟩⟩
/-- the slot's address -/
theorem Knw.at_mls {B H : Hp} {σ : L2.St} (k : Knw B H σ ε) (h : ε[i]? = some (.mls ds)) : ∃ l vs, σ[i]? = some (some (.ref l)) ∧ B l = none ∧ H l = some (.lst vs) ∧ IsA B vs ds := k.mls i ds h
/-- a changing list gets another content -/
theorem At.wrote {σ : L2.St} {H : Hp} {B : Hp} {l : Addr} {ws : List V} (k : Knw B H σ ε) (s : Stp F.S F.B F.H B H) (m : ∀ a, Mu σ ε a → F.S a ∨ F.H a = none) (p : ∀ p, F.pin = some p → σ[0]? = some (some (.ref p)))
    (hi : ε[i]? = some (.mls ds)) (hl : σ[i]? = some (some (.ref l))) (hd : IsA B ws es) : At F (ε.set i (.mls es)) σ (upd H l (.lst ws)) := by
  have hm : Mu σ ε l := ⟨i, _, hi, rfl, hl⟩
  obtain ⟨hb, _⟩ := k.mut_free hm
  have s1 : Stp (· = l) B H B (upd H l (.lst ws)) := .write k.sub rfl hb
  refine ⟨B, k.wrote hi hl s1 hb upd_same hd, s.trans s1 fun a e => m a (e ▸ hm), fun a q => m a ?_, p⟩
  exact (Keeps.wrote hi rfl).mu q
theorem nx_append (h : EV te ε d ε1) (hi : ε1[i]? = some (.mls ds)) (h0 : ε[i]? = some (.mls es)) (hz : ds.length ≤ 100000) (n : NX F (ε1.set i (.mls (ds ++ [d]))) E.nx) : NX F ε (tDrop (tBM K "list" rAppend (tVar i) (tCons te tNil)) E) := fun σ H ⟨B, k, s, m, p⟩ => by
  obtain ⟨l, vs0, q1, q2, q3, _⟩ := k.mls i es h0
  refine ⟨_, q1, .inl ⟨rfl, _, .of q3⟩, h.run B H σ _ k fun v B1 H1 s1 k1 i1 => ?_⟩
  obtain ⟨l', vs, r1, r2, r3, r4⟩ := k1.mls i ds hi
  rw [q1] at r1
  cases r1
  refine ⟨l, vs, v, rfl, rfl, r3, by rw [r4.length]; exact Nat.lt_of_le_of_lt hz (by decide), n _ _ ?_⟩
  exact At.wrote k1 (s.trans s1 m) (fun a q => m a (h.keeps.mu q)) p hi q1 (r4.append (.one i1))
theorem nx_extend (h : EV te ε (.lst es) ε1) {cs : List D} (hi : ε1[i]? = some (.mls ds)) (h0 : ε[i]? = some (.mls cs)) (hz : ds.length + es.length ≤ 100000) (n : NX F (ε1.set i (.mls (ds ++ es))) E.nx) : NX F ε (tDrop (tBM K "list" rExtend (tVar i) (tCons te tNil)) E) := fun σ H ⟨B, k, s, m, p⟩ => by
  obtain ⟨l, vs0, q1, q2, q3, _⟩ := k.mls i cs h0
  refine ⟨_, q1, .inl ⟨rfl, _, .of q3⟩, h.run B H σ _ k fun v B1 H1 s1 k1 i1 => ?_⟩
  obtain ⟨l', vs, r1, r2, r3, r4⟩ := k1.mls i ds hi
  rw [q1] at r1
  cases r1
  cases i1 with
  | lst ha hx =>
    rename_i a xs
    refine ⟨l, a, vs, xs, rfl, rfl, r3, k1.sub _ _ ha, by rw [r4.length, hx.length]; exact Nat.le_trans hz (by decide), n _ _ ?_⟩
    exact At.wrote k1 (s.trans s1 m) (fun a q => m a (h.keeps.mu q)) p hi q1 (r4.append hx)
theorem nx_item {ms : List D} {c : Int} {j : Nat} (h : EV te ε d ε1) (hk : EV ti ε1 (.int c) ε2) (hi : ε2[i]? = some (.mls ds)) (h0 : ε1[i]? = some (.mls ms)) (hj : ixN ds.length c = some j) (n : NX F (ε2.set i (.mls (ds.set j d))) E.nx) :
    NX F ε (tAsg te (gSub (tVar i) ti rSetL) E) := fun σ H ⟨B, k, s, m, p⟩ =>
  h.run B H σ _ k fun v B1 H1 s1 k1 i1 => by
    obtain ⟨l, vs0, q1, q2, q3, _⟩ := k1.mls i ms h0
    refine ⟨_, q1, hk.run B1 H1 σ _ k1 fun w B2 H2 s2 k2 i2 => ?_⟩
    obtain ⟨l', vs, r1, r2, r3, r4⟩ := k2.mls i ds hi
    rw [q1] at r1
    cases r1
    cases i2
    have i1' : Is B2 v d := i1.mono s2.up
    refine ⟨l, vs, c, j, rfl, rfl, r3, by rw [r4.length]; exact hj, n _ _ ?_⟩
    exact At.wrote k2 ((s.trans s1 m).trans s2 fun a q => m a (h.keeps.mu q)) (fun a q => m a (h.keeps.mu (hk.keeps.mu q))) p hi q1 (r4.set i1' j)
theorem nx_ret (h : EV te ε d ε1) (r : RT F ε1 d E.rt) : NX F ε (tRet te E) := fun σ H ⟨B, k, s, m, p⟩ =>
  h.run B H σ _ k fun v B1 H1 s1 k1 i1 => r σ B1 H1 v k1 (s.trans s1 m) (fun a q => m a (h.keeps.mu q)) p i1
theorem nx_if (h : EVT tc ε b ε1) (h1 : b = true → NX F ε1 (t E)) (h0 : b = false → NX F ε1 (u E)) : NX F ε (tIfS tc t u E) := fun σ H ⟨B, k, s, m, p⟩ =>
  h.run B H σ _ k fun B1 H1 s1 k1 => by
    have a : At F ε1 σ H1 := ⟨B1, k1, s.trans s1 m, fun a q => m a (h.keeps.mu q), p⟩
    cases b with
    | true => exact h1 rfl _ _ a
    | false => exact h0 rfl _ _ a
theorem nx_drop (h : EV te ε d ε1) (n : NX F ε1 E.nx) : NX F ε (tDrop te E) := fun σ H ⟨B, k, s, m, p⟩ =>
  h.run B H σ _ k fun v B1 H1 s1 k1 i1 => n σ H1 ⟨B1, k1, s.trans s1 m, fun a q => m a (h.keeps.mu q), p⟩
theorem nx_never : NX F ε (tNever E) → NX F ε (tNever E) := id
/-- a, b = e -/
theorem nx_tup2 {d1 d2 : D} (h : EV te ε (.tup [d1, d2]) ε1) (n : NX F ((ε1.set i (.dat d1)).set j (.dat d2)) E.nx) (hi : i ≠ 0 ∨ F.pin = none := by first | exact .inl (by decide) | exact .inr rfl) (hj : j ≠ 0 ∨ F.pin = none := by first | exact .inl (by decide) | exact .inr rfl) :
    NX F ε (tAsg te (gTup K 2 (gCons (gName i) (gCons (gName j) gNil))) E) := fun σ H ⟨B, k, s, m, p⟩ =>
  h.run B H σ _ k fun v B1 H1 s1 k1 i1 => by
    cases i1 with
    | tup ha hx =>
      cases hx with
      | cons h1 hx =>
        cases hx with
        | cons h2 hx =>
          cases hx
          refine ⟨_, _, rfl, .of (k1.sub _ _ ha), rfl, _, _, rfl, _, _, rfl, rfl, n _ H1 ⟨B1, (k1.set_dat h1).set_dat h2, s.trans s1 m, fun a q => m a (h.keeps.mu q.of_set.of_set), fun q hq => ?_⟩⟩
          rcases hi with z | z
          · rcases hj with y | y
            · rw [List.getElem?_set_ne y, List.getElem?_set_ne z]; exact p q hq
            · rw [y] at hq; cases hq
          · rw [z] at hq; cases hq
/-- a, b = e1, e2 -/
theorem nx_par {d1 d2 : D} (h : EVA ta ε [d1, d2] ε1) (n : NX F ((ε1.set i (.dat d1)).set j (.dat d2)) E.nx) (hi : i ≠ 0 ∨ F.pin = none := by first | exact .inl (by decide) | exact .inr rfl) (hj : j ≠ 0 ∨ F.pin = none := by first | exact .inl (by decide) | exact .inr rfl) :
    NX F ε (tPar i j ta E) := fun σ H ⟨B, k, s, m, p⟩ =>
  h.run B H σ _ k fun vs B1 H1 s1 k1 i1 => by
    cases i1 with
    | cons h1 hx =>
      cases hx with
      | cons h2 hx =>
        cases hx
        refine ⟨_, _, rfl, n _ H1 ⟨B1, (k1.set_dat h1).set_dat h2, s.trans s1 m, fun a q => m a (h.keeps.mu q.of_set.of_set), fun q hq => ?_⟩⟩
        rcases hi with z | z
        · rcases hj with y | y
          · rw [List.getElem?_set_ne y, List.getElem?_set_ne z]; exact p q hq
          · rw [y] at hq; cases hq
        · rw [z] at hq; cases hq
/-- a later frame of the same body -/
structure FrE (F F' : Frm) : Prop where
  pin : F'.pin = F.pin
  stp : Stp F.S F.B F.H F'.B F'.H
  fresh : ∀ a, F'.S a → F.S a ∨ F.H a = none
theorem FrE.out {F F' : Frm} (e : FrE F F') {B H : Hp} (s : Stp F'.S F'.B F'.H B H) : Stp F.S F.B F.H B H := e.stp.trans s e.fresh
theorem FrE.free {F F' : Frm} (e : FrE F F') {a : Addr} (h : F'.S a ∨ F'.H a = none) : F.S a ∨ F.H a = none := by
  rcases h with h | h
  · exact e.fresh a h
  · refine .inr ?_
    cases z : F.H a with
    | none => rfl
    | some o => exact absurd h (e.stp.kp a (by rw [z]; simp))
theorem At.out {F F' : Frm} (e : FrE F F') {σ : L2.St} {H : Hp} (a : At F' ε σ H) : At F ε σ H := by
  obtain ⟨B, k, s, m, p⟩ := a
  exact ⟨B, k, e.out s, fun x q => e.free (m x q), fun q hq => p q (e.pin.trans hq)⟩
theorem NX.inn {F F' : Frm} (e : FrE F F') (n : NX F ε N) : NX F' ε N := fun σ H a => n σ H (a.out e)
theorem RT.inn {F F' : Frm} (e : FrE F F') {rt : VK} (r : RT F ε d rt) : RT F' ε d rt := fun σ B H v k s m p i => r σ B H v k (e.out s) (fun a q => e.free (m a q)) (fun q hq => p q (e.pin.trans hq)) i
/-- for g in wi: the slots at each turn -/
theorem nx_for {wi : TI} {g : TG} {vs : List Nat} {n : Nat} {it : Nat → D} (hi : EVI wi ε n it ε1) (ES : Nat → List Slo) (h0 : Le (ES 0) ε1) (hv : (0 ∉ vs) ∨ F.pin = none)
    (hs : ∀ F', FrE F F' → ∀ i, i < n → ∃ ε2, EVG g vs (it i) (ES i) ε2 ∧ NX F' ε2 (tb (eLp E fun σ H => At F' (ES (i + 1)) σ H))) (hd : NX F (ES n) E.nx) : NX F ε (tFor wi g tb E) := fun σ H ⟨B, k, s, m, p⟩ =>
  hi.run B H σ _ k fun J B1 H1 G Y s1 k1 w hG hY => by
    have e : FrE F ⟨Mu σ ε1, B1, H1, F.pin⟩ := ⟨rfl, s.trans s1 m, fun a q => m a (hi.keeps.mu q)⟩
    refine for_it w (fun i σ2 H2 => At ⟨Mu σ ε1, B1, H1, F.pin⟩ (ES i) σ2 H2) ?_ ?_ ?_ ?_
    · exact ⟨B1, k1.weak h0, .refl k1.sub, fun a q => .inl (h0.mu q), p⟩
    · rintro i σ2 H2 _ ⟨B2, k2, s2, _, _⟩
      exact hG H2 fun a o q => k2.sub a o (s2.up a o q)
    · rintro i x σ2 H2 H3 hin ⟨B2, k2, s2, m2, p2⟩ y
      obtain ⟨B3, s3, x3⟩ := hY i B2 H2 x H3 hin s2.up k2.sub y
      have k3 := k2.step0 s3
      obtain ⟨ε2, ⟨_, g1⟩, nb⟩ := hs _ e i hin
      refine g1 B3 H3 σ2 x _ k3 x3 fun σ3 k4 hw hm => nb σ3 H3 ⟨B3, k4, s2.trans0 s3, fun a q => m2 a (hm a q), fun q hq => ?_⟩
      rcases hv with z | z
      · have := p2 q hq
        rw [← wipe_out (vs := vs) z, ← hw, wipe_out z] at this
        exact this
      · exact absurd (hq.symm.trans z) (by simp)
    · rintro σ2 H2 a
      exact hd σ2 H2 (a.out e)

/-! ### promises -/
/-- a def that makes data of data, and changes nothing -/
def spR (R : List D → D → Prop) : Sp := fun vs H Q _ => ∃ B ds d, Same B H ∧ IsA B vs ds ∧ R ds d ∧ ∀ v B' H', Stp0 B H B' H' → Is B' v d → Q v H'
/-- a def whose first argument is a list that it changes -/
def spM (R : List D → List D → D → List D → Prop) : Sp := fun vs H Q _ => ∃ B p ws ms vs' ds d ms', vs = V.ref p :: vs' ∧ Same B H ∧ B p = none ∧ H p = some (.lst ws) ∧ IsA B ws ms ∧ IsA B vs' ds ∧ R ms ds d ms' ∧
  ∀ v B' H' ws', Stp (· = p) B H B' H' → B' p = none → H' p = some (.lst ws') → IsA B' ws' ms' → Is B' v d → Q v H'
/-- an __init__ -/
def spI (C : Addr) (R : List D → List (Str × D) → Prop) : Sp := fun vs H Q _ => ∃ B x dx vs' ds gs, vs = V.ref x :: vs' ∧ Same B H ∧ B x = none ∧ H x = some (.ins C dx []) ∧ IsA B vs' ds ∧ R ds gs ∧
  ∀ B' H' dx' fs, Stp (· = x) B H B' H' → B' x = none → H' x = some (.ins C dx' fs) → IsF B' fs gs → Q .non H'

theorem ev_call {R : List D → D → Prop} {XE : XK} (h : EVA ta ε ds ε1) (r : R ds d) : EV (tCall (spR R) [] XE ta) ε d ε1 := ⟨h.keeps, fun B H σ Q k q => h.run B H σ _ k fun vs B1 H1 s1 k1 i1 =>
  ⟨B1, ds, d, k1.sub, by rw [List.append_nil]; exact i1, r, fun v B2 H2 s2 i2 => q v B2 H2 (s1.trans0 s2) (k1.step0 s2) i2⟩⟩
theorem ev_callM {R : List D → List D → D → List D → Prop} {XE : XK} {ms es ms' : List D} (h : EVA ta ε ds ε1) (h0 : ε[i]? = some (.mls es)) (hi : ε1[i]? = some (.mls ms)) (r : R ms ds d ms') :
    EV (tCall (spM R) [] XE (tCons (tVar i) ta)) ε d (ε1.set i (.mls ms')) := ⟨h.keeps.trans (.wrote hi rfl), fun B H σ Q k q => by
  obtain ⟨l, vs0, q1, _, _, _⟩ := k.mls i es h0
  refine ⟨_, q1, h.run B H σ _ k fun vs B1 H1 s1 k1 i1 => ?_⟩
  obtain ⟨l', ws, r1, r2, r3, r4⟩ := k1.mls i ms hi
  rw [q1] at r1
  cases r1
  refine ⟨B1, l, ws, ms, vs, ds, d, ms', by rw [List.append_nil], k1.sub, r2, r3, r4, i1, r, fun v B2 H2 ws' s2 b2 h2 w2 i2 => ?_⟩
  have hm : Mu σ ε1 l := ⟨i, _, hi, rfl, q1⟩
  exact q v B2 H2 (s1.trans s2 fun a e => .inl (h.keeps.mu (e ▸ hm))) (k1.wrote hi q1 s2 b2 h2 w2) i2⟩
theorem ev_make {C : Addr} {R : List D → List (Str × D) → Prop} {gs : List (Str × D)} {XE : XK} (h : EVA ta ε ds ε1) (r : R ds gs) : EV (tMake C (spI C R) [] XE ta) ε (.obj C gs) ε1 := ⟨h.keeps, fun B H σ Q k q => h.run B H σ _ k fun vs B1 H1 s1 k1 i1 x dx hx hdx hne => by
  have bx := free_of k1.sub hx
  have bd := free_of k1.sub hdx
  have s2 : Stp0 B1 H1 B1 (upd H1 dx (.own x)) := .apart k1.sub hdx
  have hx2 : upd H1 dx (.own x) x = none := by rw [upd_ne hne.symm]; exact hx
  have s3 : Stp0 B1 (upd H1 dx (.own x)) B1 (upd (upd H1 dx (.own x)) x (.ins C dx [])) := .apart s2.inn hx2
  have s4 := s2.trans0 s3
  refine ⟨B1, x, dx, vs, ds, gs, by rw [List.append_nil], s4.inn, bx, upd_same, i1, r, fun B5 H5 dx5 fs s5 b5 h5 f5 => ⟨rfl, ?_⟩⟩
  have s6 : Stp0 B1 H1 B5 H5 := s4.trans s5 fun a e => .inr (by rw [e]; exact hx)
  have s7 := s6.seal hx b5 h5
  exact q _ _ H5 (s1.trans0 s7) (k1.step0 s7) (.obj upd_same (f5.mono fun a u e => by rw [upd_ne (ne_of_none e b5)]; exact e))⟩
/-- self.f = e, in an __init__ -/
theorem nx_field {C : Addr} {gs : List (Str × D)} {f : Str} (h : EV te ε d ε1) (hi : ε1[i]? = some (.mob C gs)) (hc : Cls K C) (hn : NoAttr K C f) (hf : ∀ x ∈ gs, x.1 ≠ f) (hz : gs.length < 900) (n : NX F (ε1.set i (.mob C (gs ++ [(f, d)]))) E.nx) :
    NX F ε (sFld K (tVar i) te f E) := fun σ H ⟨B, k, s, m, p⟩ =>
  h.run B H σ _ k fun v B1 H1 s1 k1 i1 => by
    obtain ⟨l, dx, fs, q1, q2, q3, q4⟩ := k1.mob i C gs hi
    have put : ∀ {fs : List (Str × V)} {gs : List (Str × D)}, IsF B1 fs gs → (∀ x ∈ gs, x.1 ≠ f) → IsF B1 (putF f v fs) (gs ++ [(f, d)]) := by
      intro fs gs hf
      induction gs generalizing fs with
      | nil => intro _; cases hf; exact .cons i1 .nil
      | cons g gs ih =>
        intro hn
        cases hf with
        | cons h1 h2 =>
          rename_i ff vv dd fs'
          have e : putF f v ((ff, vv) :: fs') = (ff, vv) :: putF f v fs' := if_neg (hn (ff, dd) (by simp))
          rw [e]
          exact .cons h1 (ih h2 fun x hx => hn x (by simp [hx]))
    refine ⟨_, q1, l, C, dx, fs, rfl, q3, hc, hn, by rw [q4.length]; omega, n _ _ ?_⟩
    have hm : Mu σ ε1 l := ⟨i, _, hi, rfl, q1⟩
    obtain ⟨hb, _⟩ := k1.mut_free hm
    have s2 : Stp (· = l) B1 H1 B1 (upd H1 l (.ins C dx (putF f v fs))) := .write k1.sub rfl hb
    refine ⟨B1, k1.wroteO hi q1 s2 hb upd_same (put q4 hf), (s.trans s1 m).trans s2 fun a e => m a (h.keeps.mu (e ▸ hm)), fun a q => m a (h.keeps.mu ((Keeps.wrote hi rfl).mu q)), p⟩

/-! ### operators of own classes -/
section
variable {C : Addr} {gs : List (Str × D)} {x : D} {R : List D → D → Prop} {XE : XK}
theorem rd_inOwn (r : R [.obj C gs, x] (.bl b)) : RD2 (rInOwn C (spR R) XE) x (.obj C gs) (.bl b) := fun B H v u Q s h1 h2 q => by
  cases h2 with
  | obj ha hf => exact ⟨_, _, _, rfl, s _ _ ha, B, _, _, s, .cons (.obj ha hf) (.one h1), r, fun w B' H' s' i' => by cases i'; exact ⟨b, rfl, q _ B' H' s' (.bl b)⟩⟩
theorem rd_invOwn (r : R [.obj C gs] d) : RD1 (rInvOwn C (spR R) XE) (.obj C gs) d := fun B H v Q s h1 q => by
  cases h1 with
  | obj ha hf => exact ⟨_, _, _, rfl, s _ _ ha, B, _, _, s, .one (.obj ha hf), r, fun w B' H' s' i' => q _ B' H' s' i'⟩
theorem rn_lenOwn {n : Nat} (hn : n ≤ 1000000) (r : R [.obj C gs] (.int n)) : RDn (rLenOwn C (spR R) XE) [.obj C gs] (.int n) := fun B H vs Q s h q => by
  cases h with
  | cons h1 h2 =>
    cases h2
    cases h1 with
    | obj ha hf => exact ⟨_, _, _, rfl, s _ _ ha, B, _, _, s, .one (.obj ha hf), r, fun w B' H' s' i' => by cases i'; exact ⟨n, rfl, ⟨by omega, by omega⟩, q _ B' H' s' (.int _)⟩⟩
/-- what an own class must be so that a value of it can be asked for its class -/
structure ClsK (K : PySem.W.Frag) (C : Addr) : Prop where
  cl : Cls K C
  ca : PySem.W.findIn K (.ref C) "__class__" = some (some (.builtin "object.__class__"))
  cn : PySem.W.specialIn K (.builtin "object.__class__") "__get__" = some (some (.builtin "getset_descriptor.__get__"))
  ct : PySem.W.takesIn K (.builtin "object.__class__") = some true
  cm : PySem.W.mroIn K C (.type "object") = some true
/-- the class of data -/
def D.ty : D → Value
  | .non => .type "NoneType"
  | .bl _ => .type "bool"
  | .int _ => .type "int"
  | .str _ => .type "str"
  | .lst _ => .type "list"
  | .tup _ => .type "tuple"
  | .dic _ => .type "dict"
  | .scr _ => .type "list"
  | .obj C _ => .ref C
theorem Is.tyOf {B H : Hp} {v : V} {y : D} (h : Is B v y) (s : Same B H) (hk : ∀ C gs, y = .obj C gs → ClsK K C) : TyOf K H v y.ty := by
  cases h with
  | non => exact .non
  | bl b => exact .bl b
  | int i => exact .int i
  | str x => exact .str x
  | lst ha _ => exact .lst (s _ _ ha)
  | tup ha _ => exact .tup (s _ _ ha)
  | dic ha _ => exact .dK (s _ _ ha)
  | scr ha _ => exact .frz (s _ _ ha)
  | obj ha _ => have c := hk _ _ rfl; exact .ins (s _ _ ha) c.cl c.ca c.cn c.ct c.cm
theorem rd_eqOwn {y : D} (hk : ∀ C gs, y = .obj C gs → ClsK K C) (hn : PySem.W.notFirst K C y.ty = true) (r : R [.obj C gs, y] d) : RD2 (rEqOwn K C (spR R) XE) (.obj C gs) y d := fun B H v u Q s h1 h2 q => by
  cases h1 with
  | obj ha hf => exact ⟨_, _, _, _, rfl, s _ _ ha, h2.tyOf s hk, hn, B, _, _, s, .cons (.obj ha hf) (.one h2), r, fun w B' H' s' i' => q _ B' H' s' i'⟩
/-- isinstance(x, T): T a class's name in the text -/
theorem ev_isi {c : V} {cv : Value} {b : Bool} (hc : ClsV c cv) (h : EV te ε x ε1) (hk : ∀ C gs, x = .obj C gs → ClsK K C) (e : PySem.W.kitOne K x.ty cv = some b) : EV (tCB (rIsi K) (tCons te (tCons (tC c) tNil))) ε (.bl b) ε1 := ⟨h.keeps, fun B H σ Q k q =>
  h.run B H σ _ k fun v B1 H1 s1 k1 i1 => ⟨v, c, x.ty, cv, b, rfl, hc, .base (i1.tyOf k1.sub hk), e, q _ B1 H1 s1 k1 (.bl b)⟩⟩
/-- repr of plain data -/
theorem rn_repr {x : D} (hx : Pl x) (hl : x.py.showable = true) (hd : x.py.depth ≤ 60) (hz : x.py.shown.length ≤ sizeLine) (hr : (∃ ds, x = .lst ds) ∨ ∃ ds, x = .tup ds) : RDn (rReprD K) [x] (.str x.py.shown) := fun B H vs Q s h q => by
  cases h with
  | cons h1 h2 =>
    cases h2
    rename_i v
    have hv : ∃ a, v = V.ref a := by
      rcases hr with ⟨ds, rfl⟩ | ⟨ds, rfl⟩ <;> (cases h1; exact ⟨_, rfl⟩)
    obtain ⟨a, rfl⟩ := hv
    have lay : x.py.canLay0 = true := SeqAt.canLay_of_shaped hx.sh
    exact ⟨a, x.py, rfl, h1.dp s hx.pl, hl, PyData.hasDict_of_canLay _ lay, hd, hz, q _ B H (.refl s) (.str _)⟩
end

/-! ### from a body's reading to its def's promise -/
def startE (n : Nat) (ds : List D) : List Slo := ds.map Slo.dat ++ List.replicate (n - ds.length) .no
theorem startE_knw {B H : Hp} {vs : List V} {ds : List D} {Nm : List Str} (s : Same B H) (h : IsA B vs ds) : Knw B H (L2.start Nm vs) (startE Nm.length ds) where
  sub := s
  len := by unfold startE L2.start; rw [List.length_append, List.length_append, List.length_map, List.length_map, List.length_replicate, List.length_replicate, h.length]
  dat := fun i d q => by
    unfold startE at q
    by_cases hi : i < ds.length
    · rw [List.getElem?_append_left (by simpa using hi), List.getElem?_map] at q
      have e : ds[i]? = some d := by
        cases e : ds[i]? with
        | none => rw [e] at q; cases q
        | some u => rw [e] at q; cases q; rfl
      obtain ⟨v, h1, h2⟩ := h.at e
      refine ⟨v, ?_, h2⟩
      unfold L2.start
      rw [List.getElem?_append_left (by rw [List.length_map, h.length]; exact hi), List.getElem?_map, h1]
      rfl
    · rw [List.getElem?_append_right (by simpa using hi), List.getElem?_replicate] at q
      split at q <;> cases q
  mls := fun i d q => by
    unfold startE at q
    by_cases hi : i < ds.length
    · rw [List.getElem?_append_left (by simpa using hi), List.getElem?_map] at q
      cases e : ds[i]? with
      | none => rw [e] at q; cases q
      | some u => rw [e] at q; cases q
    · rw [List.getElem?_append_right (by simpa using hi), List.getElem?_replicate] at q
      split at q <;> cases q
  mob := fun i C d q => by
    unfold startE at q
    by_cases hi : i < ds.length
    · rw [List.getElem?_append_left (by simpa using hi), List.getElem?_map] at q
      cases e : ds[i]? with
      | none => rw [e] at q; cases q
      | some u => rw [e] at q; cases q
    · rw [List.getElem?_append_right (by simpa using hi), List.getElem?_replicate] at q
      split at q <;> cases q
  apart := fun i j e e' l hij h1 h2 => by
    exfalso
    unfold startE at h1
    by_cases hi : i < ds.length
    · rw [List.getElem?_append_left (by simpa using hi), List.getElem?_map] at h1
      cases z : ds[i]? with
      | none => rw [z] at h1; cases h1
      | some u => rw [z] at h1; cases h1; cases h2
    · rw [List.getElem?_append_right (by simpa using hi), List.getElem?_replicate] at h1
      split at h1
      · cases h1; cases h2
      · cases h1
theorem startE_mu {vs : List V} {ds : List D} {Nm : List Str} {a : Addr} (m : Mu (L2.start Nm vs) (startE Nm.length ds) a) : False := by
  obtain ⟨i, e, h1, h2, _⟩ := m
  unfold startE at h1
  by_cases hi : i < ds.length
  · rw [List.getElem?_append_left (by simpa using hi), List.getElem?_map] at h1
    cases z : ds[i]? with
    | none => rw [z] at h1; cases h1
    | some u => rw [z] at h1; cases h1; cases h2
  · rw [List.getElem?_append_right (by simpa using hi), List.getElem?_replicate] at h1
    split at h1
    · cases h1; cases h2
    · cases h1
end
end Wd
/-! From a body's reading to its def's promise; defs that want to know what runs around (repr). -/
namespace Wd
open PySem L2

abbrev F0 (B H : Hp) : Frm := ⟨fun _ => False, B, H, none⟩
abbrev FM (p : Addr) (B H : Hp) : Frm := ⟨(· = p), B, H, some p⟩
def startS (n : Nat) (e0 : Slo) (ds : List D) : List Slo := e0 :: ds.map Slo.dat ++ List.replicate (n - (ds.length + 1)) .no

/-- the state ahead of a body whose slot 0 changes -/
theorem startS_knw {B H : Hp} {vs : List V} {ds : List D} {Nm : List Str} {p : Addr} {e0 : Slo} (s : Same B H) (hb : B p = none) (h : IsA B vs ds)
    (he : (∃ ms ws, e0 = .mls ms ∧ H p = some (.lst ws) ∧ IsA B ws ms) ∨ ∃ C gs dx fs, e0 = .mob C gs ∧ H p = some (.ins C dx fs) ∧ IsF B fs gs) : Knw B H (L2.start Nm (V.ref p :: vs)) (startS Nm.length e0 ds) := by
  have tail : ∀ {i : Nat} {e : Slo}, (ds.map Slo.dat ++ List.replicate (Nm.length - (ds.length + 1)) .no)[i]? = some e → e = .no ∨ ∃ d v, e = .dat d ∧ (vs.map some ++ List.replicate (Nm.length - (vs.length + 1)) none)[i]? = some (some v) ∧ Is B v d := by
    intro i e q
    by_cases hi : i < ds.length
    · rw [List.getElem?_append_left (by simpa using hi), List.getElem?_map] at q
      cases z : ds[i]? with
      | none => rw [z] at q; cases q
      | some u =>
        rw [z] at q
        obtain ⟨v, h1, h2⟩ := h.at z
        refine .inr ⟨u, v, (Option.some.inj q).symm, ?_, h2⟩
        rw [List.getElem?_append_left (by rw [List.length_map, h.length]; exact hi), List.getElem?_map, h1]
        rfl
    · rw [List.getElem?_append_right (by simpa using hi), List.getElem?_replicate] at q
      split at q
      · exact .inl (Option.some.inj q).symm
      · cases q
  have hσ : L2.start Nm (V.ref p :: vs) = some (V.ref p) :: (vs.map some ++ List.replicate (Nm.length - (vs.length + 1)) none) := by
    unfold L2.start
    simp
  have hε : startS Nm.length e0 ds = e0 :: (ds.map Slo.dat ++ List.replicate (Nm.length - (ds.length + 1)) .no) := rfl
  rw [hσ, hε]
  have tl : ∀ {i : Nat} {e : Slo}, (ds.map Slo.dat ++ List.replicate (Nm.length - (ds.length + 1)) .no)[i]? = some e → e.mut = false := fun {i e} q => by
    rcases tail q with rfl | ⟨d, v, rfl, _⟩ <;> rfl
  refine ⟨s, by simp [h.length], fun i d q => ?_, fun i ms q => ?_, fun i C gs q => ?_, fun i j e e' l hij h1 h2 h3 h4 => ?_⟩
  · cases i with
    | zero =>
      simp at q
      subst q
      rcases he with ⟨_, _, z, _⟩ | ⟨_, _, _, _, z, _⟩ <;> cases z
    | succ i =>
      rcases tail (by simpa using q) with z | ⟨d', v, z, h1, h2⟩
      · cases z
      · cases z; exact ⟨v, by simpa using h1, h2⟩
  · cases i with
    | zero =>
      simp at q
      subst q
      rcases he with ⟨ms', ws, z, h1, h2⟩ | ⟨_, _, _, _, z, _⟩
      · cases z; exact ⟨p, ws, rfl, hb, h1, h2⟩
      · cases z
    | succ i => exact absurd (tl (by simpa using q)) (by simp [Slo.mut])
  · cases i with
    | zero =>
      simp at q
      subst q
      rcases he with ⟨ms', ws, z, h1, h2⟩ | ⟨C', gs', dx, fs, z, h1, h2⟩
      · cases z
      · cases z; exact ⟨p, dx, fs, rfl, hb, h1, h2⟩
    | succ i => exact absurd (tl (by simpa using q)) (by simp [Slo.mut])
  · have zero : ∀ {k : Nat} {u : Slo}, (e0 :: (ds.map Slo.dat ++ List.replicate (Nm.length - (ds.length + 1)) .no))[k]? = some u → u.mut = true → k = 0 := fun {k u} q m => by
      cases k with
      | zero => rfl
      | succ k => rw [tl (by simpa using q)] at m; cases m
    exact absurd ((zero h1 h2).trans (zero h3 h4).symm) hij
theorem startS_mu {vs : List V} {ds : List D} {Nm : List Str} {p a : Addr} {e0 : Slo} (m : Mu (L2.start Nm (V.ref p :: vs)) (startS Nm.length e0 ds) a) : a = p := by
  obtain ⟨i, e, h1, h2, h3⟩ := m
  cases i with
  | zero => simp [L2.start] at h3; exact h3.symm
  | succ i =>
    exfalso
    have q : (ds.map Slo.dat ++ List.replicate (Nm.length - (ds.length + 1)) .no)[i]? = some e := by simpa [startS] using h1
    by_cases hi : i < ds.length
    · rw [List.getElem?_append_left (by simpa using hi), List.getElem?_map] at q
      cases z : ds[i]? with
      | none => rw [z] at q; cases q
      | some u => rw [z] at q; cases q; cases h2
    · rw [List.getElem?_append_right (by simpa using hi), List.getElem?_replicate] at q
      split at q
      · cases q; cases h2
      · cases q

section
variable {Nm : List Str} {t : TS} {vs : List V} {H : Hp} {Q : VK} {XE : XK} {nx : L2.St → Hp → Prop}
theorem body_R {R : List D → D → Prop} (h : spR R vs H Q XE)
    (rd : ∀ (ds : List D) (d : D) (B : Hp), R ds d → (∀ ε, RT (F0 B H) ε d Q) → NX (F0 B H) (startE Nm.length ds) (t { nx := nx, rt := Q })) : t { nx := nx, rt := Q } (L2.start Nm vs) H := by
  obtain ⟨B, ds, d, s, i, r, k⟩ := h
  exact rd ds d B r (fun ε σ B' H' v k' s' m' p' i' => k v B' H' s' i') _ H ⟨B, startE_knw s i, .refl s, fun a m => (startE_mu m).elim, fun p z => nomatch z⟩
theorem body_M {R : List D → List D → D → List D → Prop} (h : spM R vs H Q XE)
    (rd : ∀ (ms ds : List D) (d : D) (ms' : List D) (p : Addr) (B : Hp), R ms ds d ms' → (∀ ε, ε[0]? = some (.mls ms') → RT (FM p B H) ε d Q) → NX (FM p B H) (startS Nm.length (.mls ms) ds) (t { nx := nx, rt := Q })) : t { nx := nx, rt := Q } (L2.start Nm vs) H := by
  obtain ⟨B, p, ws, ms, vs', ds, d, ms', rfl, s, hb, hp, iw, i, r, k⟩ := h
  refine rd ms ds d ms' p B r (fun ε e0 σ B' H' v k' s' m' p' i' => ?_) _ H ⟨B, startS_knw s hb i (.inl ⟨ms, ws, rfl, hp, iw⟩), .refl s, fun a m => .inl (startS_mu m), fun q z => by cases z; rfl⟩
  obtain ⟨l, us, q1, q2, q3, q4⟩ := k'.mls 0 ms' e0
  rw [p' p rfl] at q1
  cases q1
  exact k v B' H' us s' q2 q3 q4 i'
theorem body_I {C : Addr} {R : List D → List (Str × D) → Prop} (h : spI C R vs H Q XE)
    (rd : ∀ (ds : List D) (gs : List (Str × D)) (p : Addr) (B : Hp), R ds gs → (∀ ε, ε[0]? = some (.mob C gs) → NX (FM p B H) ε fun _ H' => Q .non H') → NX (FM p B H) (startS Nm.length (.mob C []) ds) (t { nx := fun _ H' => Q .non H', rt := Q })) :
    t { nx := fun _ H' => Q .non H', rt := Q } (L2.start Nm vs) H := by
  obtain ⟨B, x, dx, vs', ds, gs, rfl, s, hb, hp, i, r, k⟩ := h
  refine rd ds gs x B r (fun ε e0 σ H' a => ?_) _ H ⟨B, startS_knw s hb i (.inr ⟨C, [], dx, [], rfl, hp, .nil⟩), .refl s, fun a m => .inl (startS_mu m), fun q z => by cases z; rfl⟩
  obtain ⟨B', k', s', m', p'⟩ := a
  obtain ⟨l, dy, us, q1, q2, q3, q4⟩ := k'.mob 0 C gs e0
  rw [p' x rfl] at q1
  cases q1
  exact k B' H' dy us s' q2 q3 q4
end
end Wd
/-! Defs that are run where no repr is under way. -/
namespace Wd
open PySem PySem.Spec PyProof.Rows L2

section
variable {P : Program} {w : World} {K : PySem.W.Frag} {mg : Str → Option Value} {base : Heap} {k : Nat} {f : Addr} {fd : FuncData} {ps : List Str} {sp : Sp}
structure FnG (P : Program) (w : World) (K : PySem.W.Frag) (mg : Str → Option Value) (base : Heap) (k : Nat) (f : Addr) (fd : FuncData) (ps : List Str) (sp : Sp) : Prop where
  len : ∀ vs H Q E, sp vs H Q E → vs.length = ps.length
  run : ∀ (A : Around) (outer : List Env) (s : Shared) (H : Hp) (args : Args) (us : List Value) (vs : List V) (Q : VK) (E : XK), A.guards = some [] → Room k A → Env0 P w K mg base A outer s H →
    BindsTo s fd args (ps.zip us) → Vals vs us → sp vs H Q E → codeAny (model P w) A (.call (.ref f) args) (CR CX0 outer P w H s Q E) s

/-- a def by its body, which may lean on the guards -/
theorem fnG_of {x qual : Str} {st : Stmt} {Nm : List Str} (F : Fun K x qual st f fd) (S : FnScope Nm ps (defScope st)) (len : ∀ vs H Q E, sp vs H Q E → vs.length = ps.length)
    (body : ∀ (cdv : Value) (A : Around) (outer : List Env) (s : Shared) (H : Hp) (vs : List V) (Q : VK) (E : XK), A.guards = some [] → Room k (A.deeper (envOfC qual (defScope st) s.heap.objs.size f cdv)) → sp vs H Q E →
      ∃ t, PSs (cxOf CX0 P w K mg base Nm qual (defScope st) f cdv A outer s H E).nox (defBody st) t ∧ t { nx := fun _ H' => Q .non H', rt := Q } (L2.start Nm vs) H) : FnG P w K mg base (k + 1) f fd ps sp := by
  obtain ⟨oc, od, kV, doc, pm, an, cdv, ct, osl, rfl, look, code⟩ := F.ex
  constructor
  · exact len
  intro A outer s H args us vs Q E gd room e0 bind rel prom
  have size := len vs H Q E prom
  have whole : K.In s.heap := e0.mod.kin.keeps fun a o e => (e0.bs a o e).1
  have nolim : s.heap.NoLimit := e0.mod.nolimit.keeps fun a o e => (e0.bs a o e).1
  have kinds : ∀ y ∈ ps.zip us, (defScope st).names.lookup y.1 = some .local ∨ ((defScope st).names.lookup y.1 = some .cell ∧ ((cellsFrom (s.heap.objs.size + 1) (defScope st).names []).lookup y.1).isSome = true) := by
    rintro ⟨n, v⟩ hy
    cases S.par n (List.of_mem_zip hy).1 with
    | inl q => exact Or.inl q
    | inr q => exact Or.inr ⟨q, PySem.W.cellsFrom_some _ _ _ (Or.inl q)⟩
  apply codeAny_call_function room.depth (whole _ _ look) rfl S.co S.gen rfl (PySem.W.codeRec_of whole code) (bind _ _ _ _ ?_)
  apply wpAny_newFunctionEnv_cells S.kind kinds
  intro env he s1 x
  subst he
  constructor
  · exact nolim.keeps x.toInCall.keep
  apply codeAny_func
  obtain ⟨t, ht, hq⟩ := body cdv A outer s H vs Q E gd (room.deeper _) prom
  have inv0 : Inv (cxOf CX0 P w K mg base Nm qual (defScope st) f cdv A outer s H E) [] (L2.start Nm vs) H s1 := inv_start S room.hd e0 size rel x
  apply wpAny_mono (ht.nox.run [] s1 (L2.start Nm vs) H _ inv0 hq)
  · intro fl s' hs
    cases fl with
    | ret u =>
      obtain ⟨v, σ', H', J, rv, q⟩ := hs
      exact ⟨v, H', J.os, J.bare, J.base, J.hok, rv, q⟩
    | next =>
      obtain ⟨σ', H', J, q⟩ := hs
      exact ⟨V.non, H', J.os, J.bare, J.base, J.hok, rfl, q⟩
    | brk => exact hs.elim fun _ z => z.elim fun _ z => z.2.elim
    | cont => exact hs.elim fun _ z => z.elim fun _ z => z.2.elim
  · exact fun e s' hs => hs
theorem deeper_guards {A : Around} {env : Env} (h : A.guards = some []) : (A.deeper env).guards = some [] := h

section
variable {X : Cx} {x : Str} {p pos : Pos} {e : Expr} {es : List Expr} {t : TA} {E : XK}
theorem pe_callG (gd : X.A.guards = some []) (F : FnG X.prog X.w X.K X.mg X.base k f fd ps sp) (room : Room k X.A) (hg : Gl X x) (hm : X.mg x = some (.ref f)) (hk : PySem.W.keepIn X.K (.ref f) = true) (hb : Binds X.K fd ps [])
    (ha : PA X (e :: es) t) (hdb : (x == ("__debug__" : Str)) = false := by decide) (he : starEach (e :: es) X.env = (false, eval e X.env) :: starEach es X.env := by rfl) (hpl : (backTo pos (starEach es X.env)).any (·.1) = false := by rfl) :
    PE X (.Call (.Name x p) (e :: es) [] pos) (tCall sp [] E t) := by
  constructor
  intro pins s σ H Q I h
  apply wpAny_Call_Name_kw
  apply ld_glob I hg hm (hd := hdb)
  apply PySem.W.callWith_K (h₀ := X.base) I.ok.mod.kin hk _ he hpl
  apply thn (ha.run pos pins s σ H _ I h)
  rintro us s1 ⟨vs, H1, I1, r, q⟩
  constructor
  · exact I1.kIn
  have r0 : Vals (vs ++ []) (us ++ []) := r.append .nil
  have size : (us ++ []).length = ps.length := by rw [← r0.length]; exact F.len _ _ _ _ q
  apply wpAny_call
  apply codeAny_mono (F.run X.A X.stack s1 H1 ⟨us, []⟩ (us ++ []) (vs ++ []) Q E gd room I1.env0 (hb s1 us I1.kIn size) r0 q)
  intro r s' hq
  cases r with
  | error e => exact hq.elim
  | ok fl =>
    cases fl with
    | ret u => exact I1.after hq
    | next => exact hq.elim
    | brk => exact hq.elim
    | cont => exact hq.elim
end

/-- the law's own call, from the top -/
theorem law_callG {mb : Str → Option Value} {fa a : Addr} {x : Str} {s₁ : Shared} {vs : List Value} {ns : List Int}
    (KX : K.In s₁.heap) (hns : s₁.heap.Ns mainGlobals mg) (hb : s₁.heap.Ns builtinsNs mb) (hbb : ∀ x : Str, x ≠ "__name__" → mb x = bootBuiltins x) (hlim : s₁.heap.NoLimit) (hg : s₁.gens = #[])
    (ha : s₁.heap.get? a = some { cls := .type "list", data := .seq vs.toArray }) (hi : IntsAre vs ns) (hl : ns.length ≤ sizeLine) (hr : Room k callerA)
    (F : ∀ base : Heap, K.In base → base.Ns mainGlobals mg → FnG P w K mg base k fa fd [x] sp) (hbind : ∀ (s : Shared) (u : Value), BindsTo s fd ⟨[u], []⟩ [(x, u)])
    (hsp : ∀ H : Hp, Only H → SqL K H a (ns.map V.int) → sp [.ref a] H (fun v _ => v = .bl true) fun _ _ _ => False) :
    codeAny (model P w) callerA (.call (.ref fa) ⟨[.ref a], []⟩) (fun r s' => r = .ok (.ret (.bool true)) ∧ OldK s₁.heap s'.heap ∧ s'.os = s₁.os ∧ AllBare s'.gens) s₁ := by
  have vl := hi.length
  have vr := vals_ints hi
  -- whatever part of the heap is tracked, so long as it is the script alone
  have go : ∀ T : Hp, Only T → SqL K T a (ns.map V.int) → HOk P w T s₁.heap → (∀ c, T c ≠ none → c = a) → (T a ≠ none → K.lookup a = none) →
      codeAny (model P w) callerA (.call (.ref fa) ⟨[.ref a], []⟩) (fun r s' => r = .ok (.ret (.bool true)) ∧ OldK s₁.heap s'.heap ∧ s'.os = s₁.os ∧ AllBare s'.gens) s₁ := by
    intro T only list held alone apart
    have off : ∀ {c : Addr} {o : Obj} {es : Array DictEntry} {ep : Nat}, s₁.heap.get? c = some o → o.data = .dict es ep → T c = none := by
      intro c o es ep h1 h2
      cases z : T c with
      | none => rfl
      | some u =>
        have hc : c = a := alone c (by rw [z]; simp)
        rw [hc] at h1
        rw [ha] at h1
        cases h1
        have h3 : Data.seq vs.toArray _ = Data.dict es ep := h2
        cases h3
    have names : ∀ {c : Addr} {m : Str → Option Value}, s₁.heap.Ns c m → (hidT s₁.heap T).Ns c m := by
      rintro c m ⟨o, es, ep, h1, h2, h3⟩
      exact ⟨o, es, ep, hidT_get h1 (off h1 h2), h2, h3⟩
    have part : K.In (hidT s₁.heap T) := by
      intro c o h1
      refine hidT_get (KX c o h1) ?_
      cases z : T c with
      | none => rfl
      | some u =>
        have hc : c = a := alone c (by rw [z]; simp)
        rw [hc, apart (by rw [← hc, z]; simp)] at h1
        cases h1
    have modOk : Mod K mg (hidT s₁.heap T) := by
      obtain ⟨mc, l1, l2⟩ := hlim
      exact ⟨part, names hns, ⟨mb, names hb, hbb⟩, ⟨mc, names l1, l2⟩⟩
    have env0 : Env0 P w K mg (hidT s₁.heap T) callerA [] s₁ T :=
      ⟨rfl, modOk, fun c o h1 => of_hidT h1, Nat.le_of_eq (hidT_size _ _), trivial, (fun c hc => (by cases hc)), held, .of_eq hg⟩
    apply codeAny_mono ((F _ part (names hns)).run callerA [] s₁ T ⟨[.ref a], []⟩ [.ref a] [.ref a] _ _ rfl hr env0 (hbind s₁ (.ref a)) (.cons rfl .nil) (hsp T only list))
    intro r s' out
    cases r with
    | error e => exact out.elim
    | ok fl =>
      cases fl with
      | next => exact out.elim
      | brk => exact out.elim
      | cont => exact out.elim
      | ret u =>
        obtain ⟨v, T', osE, bareE, unE, heldE, relE, isE⟩ := out
        have isT : v = .bl true := isE
        rw [isT] at relE
        have uT : u = Value.bool true := relE
        rw [uT]
        refine ⟨rfl, OldK.of_keep ?_, osE, bareE⟩
        intro c o h1
        cases z : T c with
        | none => exact unE.keep c o h1 z (fun y => by cases y) (by simp)
        | some u =>
          cases only c with
          | inl y => rw [z] at y; cases y
          | inr y =>
            obtain ⟨ob, xs, y⟩ := y
            have t1 := (held c _ y).1
            have t2 := (heldE c _ (unE.frzs c ob _ y)).1
            rw [h1] at t1
            cases t1
            exact t2
  cases look : K.lookup a with
  | some o =>
    have same := KX a o look
    rw [ha] at same
    cases same
    apply go (fun _ => none) (fun _ => .inl rfl) (.inr ⟨_, vs.toArray, _, look, rfl, rfl, rfl, by rw [List.size_toArray, vl]; exact hl, by simpa using vr⟩)
    · intro c u y
      exact nomatch y
    · intro c y
      exact absurd rfl y
    · intro y
      exact absurd rfl y
  | none =>
    have one : ∀ {c : Addr} {u : HO}, (if c = a then some (HO.frz { cls := .type "list", data := .seq vs.toArray } (.lst (ns.map V.int))) else none) = some u → c = a ∧ u = HO.frz { cls := .type "list", data := .seq vs.toArray } (.lst (ns.map V.int)) := by
      intro c u y
      by_cases hc : c = a
      · rw [if_pos hc] at y
        exact ⟨hc, (Option.some.inj y).symm⟩
      · rw [if_neg hc] at y
        cases y
    apply go (fun c => if c = a then some (.frz { cls := .type "list", data := .seq vs.toArray } (.lst (ns.map V.int))) else none)
    · intro c
      by_cases hc : c = a
      · exact .inr ⟨_, _, if_pos hc⟩
      · exact .inl (if_neg hc)
    · exact .inl (.inr ⟨_, if_pos rfl⟩)
    · intro c u y
      obtain ⟨rfl, rfl⟩ := one y
      exact ⟨ha, by rw [List.length_map]; exact hl, vs, _, vr, ha⟩
    · intro c y
      by_cases hc : c = a
      · exact hc
      · exact absurd (if_neg hc) y
    · exact fun _ => look
theorem walk_G {l : PySem.W.OpenLaw} {n k : Nat} {q : Program} {loose : List Str} {XP : (Str → Option Value) → Heap → Prop} {YP : World → Heap → Prop} {d : DefRec} {K : Params → PySem.W.Frag} {sp : World → Sp} {x : Str}
    (most : l.most = some n) (small : n ≤ sizeLine) (nodef : d.params.defaults = []) (room : Room k callerA) (inn : ∀ (w : World) (h : Heap), YP w h → (K w.params).In h)
    (F : ∀ (w : World) (mg : Str → Option Value) (fa : Addr) (h : Heap), (K w.params).In h → h.Ns mainGlobals mg → mg d.name = some (.ref fa) →
      ∃ fd : FuncData, (∀ (s : Shared) (u : Value), BindsTo s fd ⟨[u], []⟩ [(x, u)]) ∧ ∀ base : Heap, (K w.params).In base → base.Ns mainGlobals mg → FnG l.prog w (K w.params) mg base k fa fd [x] (sp w))
    (prom : ∀ (w : World) (H : Hp) (a : Addr) (ns : List Int), ns.length ≤ n → Only H → SqL (K w.params) H a (ns.map V.int) → sp w [.ref a] H (fun v _ => v = .bl true) fun _ _ _ => False) :
    PySem.W.WalkO q loose XP YP l.row.toRowW d [] (fun f vs => PySem.call f vs) := by
  apply Att.attach_call most nodef
  intro w s₀ s₁ mg mb fa o pm cd doc a vs ns G Y ho hd hcd hmg hobj hints hlen hg
  have whole := inn w _ Y
  obtain ⟨fd, bind, good⟩ := F w mg fa _ whole G.T.g hmg
  exact law_callG whole G.T.g G.T.b G.T.builtins G.T.nolimit hg hobj hints (Nat.le_trans hlen small) room good bind fun H y z => prom w H a ns hlen y z
end
end Wd
/-! One rule an operator, whatever its operands are; comprehensions of two clauses; three names at once. -/
namespace Wd
open PySem L2

theorem hr65 {k : Nat} {A : Around} (h : Room k A) : A.units + 65 < cLine := by have := h.un; omega
theorem hr64 {k : Nat} {A : Around} (h : Room k A) : A.units + 64 < cLine := by have := h.un; omega
section
variable {X : Cx} {K : PySem.W.Frag}
/-! ### + -/
def rCatS : R2 := fun x y H Q => ∃ i j, x = .str i ∧ y = .str j ∧ i.length + j.length ≤ sizeLine ∧ Q (.str (i ++ j)) H
theorem op_catS : OpR X (binaryOp .Add) rCatS := op_add_str
def rAddI : R2 := rI0 fun i j => .int (i + j)
def rAddU (K : PySem.W.Frag) : R2 := fun x y H Q => rAddI x y H Q ∨ rCat x y H Q ∨ rCatA K x y H Q ∨ rCatS x y H Q
theorem op_addU : OpR X (binaryOp .Add) (rAddU X.K) := (show OpR X (binaryOp .Add) rAddI from op_add).or (op_cat.or (op_catA.or op_catS))
theorem ru_addI {i j : Int} : RD2 (rAddU K) (.int i) (.int j) (.int (i + j)) := fun B H v u Q s h1 h2 q => .inl (rd_add B H v u Q s h1 h2 q)
theorem ru_addL {a b : List D} (hz : a.length + b.length ≤ 100000) : RD2 (rAddU K) (.lst a) (.lst b) (.lst (a ++ b)) := fun B H v u Q s h1 h2 q => by
  cases h1 with
  | lst ha hx =>
    cases h2 with
    | lst hb hy =>
      rename_i p xs p2 ys
      refine .inr (.inl ⟨p, p2, xs, ys, rfl, rfl, s _ _ ha, s _ _ hb, by rw [hx.length, hy.length]; exact Nat.le_trans hz (by decide), fun l hl => ?_⟩)
      have s2 : Stp0 B H (upd B l (.lst (xs ++ ys))) (upd H l (.lst (xs ++ ys))) := .new s hl
      exact q _ _ _ s2 (.lst upd_same ((hx.append hy).mono s2.up))
theorem ru_addT {a b : List D} (hz : a.length + b.length ≤ 100000) : RD2 (rAddU K) (.tup a) (.tup b) (.tup (a ++ b)) := fun B H v u Q s h1 h2 q => by
  cases h1 with
  | tup ha hx =>
    cases h2 with
    | tup hb hy =>
      rename_i p xs p2 ys
      refine .inr (.inr (.inl ⟨p, p2, xs, ys, rfl, rfl, .of (s _ _ ha), .of (s _ _ hb), by rw [hx.length, hy.length]; exact Nat.le_trans hz (by decide), fun e => ?_, fun n e => ?_, fun n m l hl => ?_⟩))
      · subst e
        cases hx
        exact q _ B H (.refl s) (.tup hb hy)
      · subst e
        cases hy
        rw [List.append_nil] at q
        exact q _ B H (.refl s) (.tup ha hx)
      · have s2 : Stp0 B H (upd B l (.tup (xs ++ ys))) (upd H l (.tup (xs ++ ys))) := .new s hl
        exact q _ _ _ s2 (.tup upd_same ((hx.append hy).mono s2.up))
theorem ru_addS {a b : Str} (hz : a.length + b.length ≤ 100000) : RD2 (rAddU K) (.str a) (.str b) (.str (a ++ b)) := fun B H v u Q s h1 h2 q => by
  cases h1
  cases h2
  exact .inr (.inr (.inr ⟨a, b, rfl, rfl, Nat.le_trans hz (by decide), q _ B H (.refl s) (.str _)⟩))
/-! ### * -/
def rMulI : R2 := rI CMul fun i j => .int (i * j)
def rMulW : R2 := rI CMulW fun i j => .int (i * j)
def rMulU : R2 := fun x y H Q => rMulI x y H Q ∨ rMulW x y H Q
theorem op_mulU : OpR X (binaryOp .Mult) rMulU := (show OpR X (binaryOp .Mult) rMulI from op_mul).or (show OpR X (binaryOp .Mult) rMulW from op_mulW)
theorem ru_mul {i j : Int} (h : CMul i j) : RD2 rMulU (.int i) (.int j) (.int (i * j)) := fun B H v u Q s h1 h2 q => .inl (rd_mul h B H v u Q s h1 h2 q)
/-! ### ==, != -/
def rEqU (K : PySem.W.Frag) : R2 := fun x y H Q => rEq x y H Q ∨ rEqD K x y H Q
def rNeU (K : PySem.W.Frag) : R2 := fun x y H Q => rNe x y H Q ∨ rNeD K x y H Q
theorem op_eqU (hu : X.A.units + 64 < cLine) : OpR X (compareOp .Eq) (rEqU X.K) := op_eq.or (op_eqD hu)
theorem op_neU (hu : X.A.units + 64 < cLine) : OpR X (compareOp .NotEq) (rNeU X.K) := op_ne.or (op_neD hu)
theorem RD2.l {r r' : R2} {x y z : D} (h : RD2 r x y z) : RD2 (fun x y H Q => r x y H Q ∨ r' x y H Q) x y z := fun B H v u Q s h1 h2 q => .inl (h B H v u Q s h1 h2 q)
theorem RD2.r {r r' : R2} {x y z : D} (h : RD2 r' x y z) : RD2 (fun x y H Q => r x y H Q ∨ r' x y H Q) x y z := fun B H v u Q s h1 h2 q => .inr (h B H v u Q s h1 h2 q)
theorem ru_eqI {i j : Int} : RD2 (rEqU K) (.int i) (.int j) (.bl (decide (i = j))) := rd_eqI.l
theorem ru_eqS {i j : Str} : RD2 (rEqU K) (.str i) (.str j) (.bl (decide (i = j))) := rd_eqS.l
theorem ru_eqB {i j : Bool} : RD2 (rEqU K) (.bl i) (.bl j) (.bl (decide (i = j))) := rd_eqB.l
theorem ru_eqD {x y : D} (hx : Pl x) (hy : Pl y) : RD2 (rEqU K) x y (.bl (PyData.eqv x.py y.py)) := (rd_eqD hx hy).r
theorem ru_neI {i j : Int} : RD2 (rNeU K) (.int i) (.int j) (.bl (!decide (i = j))) := rd_neI.l
theorem ru_neS {i j : Str} : RD2 (rNeU K) (.str i) (.str j) (.bl (!decide (i = j))) := rd_neS.l
theorem ru_neB {i j : Bool} : RD2 (rNeU K) (.bl i) (.bl j) (.bl (!decide (i = j))) := rd_neB.l
theorem ru_neD {x y : D} (hx : Pl x) (hy : Pl y) : RD2 (rNeU K) x y (.bl (!PyData.eqv x.py y.py)) := (rd_neD hx hy).r
/-! ### in -/
def rInS : R2 := fun x y H Q => ∃ (c : Nat) (z : Str), x = .str ⟨#[c]⟩ ∧ y = .str z ∧ Q (.bl (decide (c ∈ z.cps.toList))) H
theorem op_inS : OpR X (compareOp .In) rInS := op_in_sign
def rInU (K : PySem.W.Frag) : R2 := fun x y H Q => rInS x y H Q ∨ rInD K x y H Q ∨ rInT K x y H Q
theorem op_inU (hu : X.A.units + 65 < cLine) : OpR X (compareOp .In) (rInU X.K) := op_inS.or ((op_inD hu).or (op_inT hu))
theorem ru_inS {c : Nat} {z : Str} : RD2 (rInU K) (.str ⟨#[c]⟩) (.str z) (.bl (decide (c ∈ z.cps.toList))) := fun B H v u Q s h1 h2 q => by
  cases h1
  cases h2
  exact .inl ⟨c, z, rfl, rfl, q _ B H (.refl s) (.bl _)⟩
theorem ru_inD {x : D} {ys : List D} (hx : Pl x) (hy : Pl (.lst ys)) : RD2 (rInU K) x (.lst ys) (.bl (ys.any fun z => PyData.eqv z.py x.py)) := fun B H v u Q s h1 h2 q => .inr (.inl (rd_inD hx hy B H v u Q s h1 h2 q))
theorem ru_inT {x : D} {ys : List D} (hx : Pl x) (hy : Pl (.tup ys)) : RD2 (rInU K) x (.tup ys) (.bl (ys.any fun z => PyData.eqv z.py x.py)) := fun B H v u Q s h1 h2 q => .inr (.inr (rd_inT hx hy B H v u Q s h1 h2 q))
/-! ### - -/
theorem rd1_neg {i : Int} : RD1 (rU fun i => .int (-i)) (.int i) (.int (-i)) := fun B H v Q s h1 q => by
  cases h1
  exact ⟨i, rfl, q _ B H (.refl s) (.int _)⟩
/-! ### t[:k] of tuples -/
theorem ev_slT {te : TE} {ε ε1 : List Slo} {ds : List D} {k : Nat} (h : EV te ε (.tup ds) ε1) : EV (tSl (rSlA K) te tNoPart (tPart (tC (.int k)))) ε (.tup (ds.take k)) ε1 := ⟨h.keeps, fun B H σ Q kk q =>
  h.run B H σ _ kk fun v B1 H1 s1 k1 i1 => by
    cases i1 with
    | tup ha hx =>
      rename_i a xs
      refine ⟨(k : Int), rfl, a, xs, rfl, .of (k1.sub _ _ ha), fun hc => ?_, fun hc p hp => ?_⟩
      · have e : ds.take k = ds := by
          have h2 := hc.2
          rw [HT.sIx_nat] at h2
          exact List.take_of_length_le (by rw [← hx.length]; omega)
        rw [e] at q
        exact q _ B1 H1 s1 k1 (.tup ha hx)
      · have e : cutV xs none (some (k : Int)) = xs.take k := by
          unfold cutV
          rw [HT.sIx_none, HT.sIx_nat, List.drop_zero, Nat.sub_zero, Nat.min_comm, ← List.take_take]
          exact List.take_of_length_le (by rw [List.length_take]; omega)
        rw [e]
        have s2 : Stp0 B1 H1 (upd B1 p (.tup (xs.take k))) (upd H1 p (.tup (xs.take k))) := .new k1.sub hp
        exact q _ _ _ (s1.trans0 s2) (k1.step0 s2) (.tup upd_same ((hx.take k).mono s2.up))⟩
/-! ### sorted of pairs of ints that are ascending when sorted: the answer is given -/
def ltI (a b : Int × Int) : Bool := SrtO.lexB a b
def prD (p : Int × Int) : D := .tup [.int p.1, .int p.2]
end
end Wd
/-! The rules once more, with the written part by its name (so that they serve within a comprehension). -/
namespace Wd
open PySem L2
section
variable {X : Cx} {K : PySem.W.Frag} {tg a b e l o : Expr} {ta te tl to : TE} {tA : TA} {p pos apos : Pos} {f : Str}
theorem k_addU (hK : X.K = K) : OpR X (binaryOp .Add) (rAddU K) := hK ▸ op_addU
theorem k_eqU (hK : X.K = K) (hu : X.A.units + 64 < cLine) : OpR X (compareOp .Eq) (rEqU K) := hK ▸ op_eqU hu
theorem k_neU (hK : X.K = K) (hu : X.A.units + 64 < cLine) : OpR X (compareOp .NotEq) (rNeU K) := hK ▸ op_neU hu
theorem k_inU (hK : X.K = K) (hu : X.A.units + 65 < cLine) : OpR X (compareOp .In) (rInU K) := hK ▸ op_inU hu
theorem k_ix (hK : X.K = K) : IxR X (rIx K) := hK ▸ ix_seq
theorem k_slT (hK : X.K = K) : SlR X (rSlA K) := hK ▸ sl_tupA
theorem k_len (hK : X.K = K) : CallR X (.builtin "len") (rLen K) := hK ▸ call_lenK
theorem k_list (hK : X.K = K) : CallR X (.type "list") (rListOf K) := hK ▸ call_listK
theorem k_tuple (hK : X.K = K) : CallR X (.type "tuple") (rTupOf K) := hK ▸ call_tupK
theorem k_all (hK : X.K = K) (hc : X.calm = true) : CallR X (.builtin "all") (rAll K) := hK ▸ cr_all hc
theorem k_any (hK : X.K = K) (hc : X.calm = true) : CallR X (.builtin "any") (rAny K) := hK ▸ cr_any hc
theorem k_isi (hK : X.K = K) : CallR X (.builtin "isinstance") (rIsi K) := hK ▸ call_isi
theorem k_repr {n : Nat} (hK : X.K = K) (hg : X.A.guards = some []) (hr : Room n X.A) : CallR X (.builtin "repr") (rReprD K) := hK ▸ call_reprD hg hr
theorem k_sortedP (hK : X.K = K) : CallR X (.builtin "sorted") (rSortedPO K) := hK ▸ cr_sortedPO
theorem k_fld (hK : X.K = K) (he : PE X e te) (hb : attributeBase e f X.env (eval e X.env) = eval e X.env) : PE X (.Attribute e f pos) (tFld K te f) := hK ▸ pe_fld he hb
theorem k_pil (hK : X.K = K) (hl : PE X l tl) : PI X tg l (iList K tl) := hK ▸ pi_list hl
theorem k_pit (hK : X.K = K) (hl : PE X l tl) : PI X tg l (iTup K tl) := hK ▸ pi_tup hl
theorem k_enum {tpos : Pos} {elts : List Expr} {kk : Nat} (hK : X.K = K) (hg : Gl X "enumerate") (hm : X.mg "enumerate" = none) (ha : PA X [e] tA) (hs : starEach [e] X.env = [(false, eval e X.env)] := by rfl) :
    PI X (.Tuple elts kk tpos) (.Call (.Name "enumerate" p) [e] [] pos) (iEnum K tA) := hK ▸ pi_enum hg hm ha hs
theorem k_join (hK : X.K = K) (ho : PE X o to) (he : PE X e te) (hs : starEach [e] X.env = [(false, eval e X.env)] := by rfl) (hbase : attributeBase o "join" X.env (eval o X.env) = eval o X.env := by rfl) (hline : (apos.endLine == pos.line) = true := by rfl) :
    PE X (.Call (.Attribute o "join" apos) [e] [] pos) (tM1 (rJoin K) to te) := hK ▸ pe_join ho he hs hbase hline
theorem k_gtup {es : List Expr} {k : Nat} {t : TGs} {n : Nat} (hK : X.K = K) (hc : X.calm = true) (h : PGs X es t) (h1 : (assignEach es X.env).length = n := by rfl) (h2 : (assignEach es X.env).findIdx? (·.1) = none := by rfl) :
    PG X (.Tuple es k pos) (gTup K n t) := by
  subst hK
  exact pg_tup hc h h1 h2
theorem k_psfld {value : Expr} {tv : TE} {pos' : Pos} (hK : X.K = K) (ha : PE X o ta) (hv : PE X value tv) (hs : swapsWith value (some (.Attribute o f pos')) pos.line X.env = pure false) : PS X (.Assign [.Attribute o f pos'] value pos) (sFld K ta tv f) := hK ▸ ps_fld ha hv hs
end
end Wd
/-! Boards as tables of truth values. -/
namespace Wd
open PySem L2

def code (b : Bool) : Nat := if b then 111 else 46
def encRow (bs : List Bool) : Str := ⟨(bs.map code).toArray⟩
def rowD (bs : List Bool) : D := .str (encRow bs)
def rowsD (M : List (List Bool)) : D := .tup (M.map rowD)
/-- h rows of w signs -/
structure Sh (M : List (List Bool)) (w : Nat) : Prop where
  h0 : 1 ≤ M.length
  h1 : M.length ≤ 10
  w0 : 1 ≤ w
  w1 : w ≤ 10
  ln : ∀ bs ∈ M, bs.length = w
def Hit (M : List (List Bool)) : Prop := ∀ bs ∈ M, true ∈ bs
def tr (M : List (List Bool)) (w : Nat) : List (List Bool) := (List.range w).map fun c => M.map fun bs => bs.getD c false
structure Bd (M : List (List Bool)) (w : Nat) : Prop where
  sh : Sh M w
  hr : Hit M
  hc : Hit (tr M w)
def cell (M : List (List Bool)) (r c : Nat) : Bool := (M.getD r []).getD c false
/-- the dots, row by row -/
def dots (M : List (List Bool)) (w : Nat) : List (Nat × Nat) := (List.range M.length).flatMap fun r => ((List.range w).filter fun c => cell M r c).map fun c => (r, c)
def dotD (p : Nat × Nat) : D := .tup [.int p.1, .int p.2]
def dotsD (M : List (List Bool)) (w : Nat) : List D := (dots M w).map dotD
def wiresD (h w : Nat) : List D := (List.range w).map (fun c : Nat => D.tup [.str "column", .int c]) ++ (List.range h).map fun r : Nat => D.tup [.str "row", .int r]
def isFull (M : List (List Bool)) (w : Nat) : Bool := decide (((dots M w).length : Int) = (M.length : Int) * w)
def boardG (M : List (List Bool)) (w : Nat) : List (Str × D) := [("rows", rowsD M), ("height", .int M.length), ("width", .int w), ("dots", .tup (dotsD M w)), ("wires", .tup (wiresD M.length w)), ("is_full", .bl (isFull M w))]

theorem code_inj {a b : Bool} (h : code a = code b) : a = b := by cases a <;> cases b <;> simp_all [code]
theorem encRow_inj {a b : List Bool} (h : encRow a = encRow b) : a = b := by
  have h1 : (a.map code).toArray = (b.map code).toArray := by
    have := congrArg Str.cps h
    exact this
  have h2 : a.map code = b.map code := by simpa using congrArg Array.toList h1
  exact List.map_inj_right (fun _ _ => code_inj) |>.mp h2
theorem rowsD_inj {M N : List (List Bool)} (h : rowsD M = rowsD N) : M = N := by
  unfold rowsD at h
  injection h with h
  exact List.map_inj_right (fun a b e => by unfold rowD at e; injection e with e; exact encRow_inj e) |>.mp h
theorem encRow_len (bs : List Bool) : (encRow bs).length = bs.length := by
  show (bs.map code).toArray.size = bs.length
  simp
theorem encRow_size (bs : List Bool) : (encRow bs).cps.size = bs.length := by
  show (bs.map code).toArray.size = bs.length
  simp
theorem encRow_at (bs : List Bool) {i : Nat} (h : i < bs.length) : (encRow bs).cps.getD i 0 = code (bs.getD i false) := by
  show (bs.map code).toArray.getD i 0 = _
  simp [h]
theorem encRow_ok (bs : List Bool) : PyData.strOk (encRow bs) = true := by
  unfold PyData.strOk encRow
  simp only [List.all_toArray, List.all_map, List.all_eq_true, Function.comp]
  intro b _
  cases b <;> decide
theorem sign_ok {c : Nat} (h : c < 0x110000) : PyData.strOk ⟨#[c]⟩ = true := by
  unfold PyData.strOk
  simpa using h
theorem pln_row (bs : List Bool) (n : Nat) : PlN n (rowD bs) := pln_str (encRow_ok bs)
theorem pln_rows (M : List (List Bool)) : PlN 1 (rowsD M) := pln_tup fun d hd => by
  obtain ⟨bs, _, rfl⟩ := List.mem_map.mp hd
  exact pln_row bs 0
theorem pln_dot (p : Nat × Nat) : PlN 1 (dotD p) := pln_tup fun d hd => by
  simp only [List.mem_cons, List.not_mem_nil, or_false] at hd
  rcases hd with rfl | rfl <;> exact pln_int
theorem pln_pair (a b : Int) : PlN 1 (.tup [.int a, .int b]) := pln_tup fun d hd => by
  simp only [List.mem_cons, List.not_mem_nil, or_false] at hd
  rcases hd with rfl | rfl <;> exact pln_int
theorem pln_dots (l : List (Nat × Nat)) : PlN 2 (.tup (l.map dotD)) := pln_tup fun d hd => by
  obtain ⟨p, _, rfl⟩ := List.mem_map.mp hd
  exact pln_dot p
theorem pln_dotsL (l : List (Nat × Nat)) : PlN 2 (.lst (l.map dotD)) := pln_lst fun d hd => by
  obtain ⟨p, _, rfl⟩ := List.mem_map.mp hd
  exact pln_dot p
theorem noB_rows (M : List (List Bool)) : (rowsD M).noB = true := by
  have h : ∀ l : List (List Bool), D.noBA (l.map rowD) = true := fun l => by
    induction l with
    | nil => simp [D.noBA]
    | cons a l ih => simp [D.noBA, rowD, D.noB, ih]
  show D.noB (.tup (M.map rowD)) = true
  simp only [D.noB, h]
theorem eqv_rows (M N : List (List Bool)) : PyData.eqv (rowsD M).py (rowsD N).py = decide (M = N) := by
  rw [Bool.eq_iff_iff, eqv_iff _ _ (noB_rows M) (noB_rows N), decide_eq_true_iff]
  exact ⟨rowsD_inj, fun h => by rw [h]⟩
theorem noB_dot (p : Nat × Nat) : (dotD p).noB = true := by simp [dotD, D.noB, D.noBA]
theorem noB_pair (a b : Int) : (D.tup [.int a, .int b]).noB = true := by simp [D.noB, D.noBA]
/-- whether a pair of ints is one of the dots -/
theorem any_dots (l : List (Nat × Nat)) (a b : Int) : ((l.map dotD).any fun z => PyData.eqv z.py (D.tup [.int a, .int b]).py) = l.any fun p => decide ((p.1 : Int) = a ∧ (p.2 : Int) = b) := by
  rw [List.any_map]
  congr 1
  funext p
  rw [Function.comp, Bool.eq_iff_iff, eqv_iff _ _ (noB_dot p) (noB_pair a b)]
  simp [dotD]
/-- membership in the dots, for any value -/
def inDots (M : List (List Bool)) (w : Nat) : D → Bool
  | .tup [.int a, .int b] => (dots M w).any fun p => decide ((p.1 : Int) = a ∧ (p.2 : Int) = b)
  | _ => false

theorem dots_len {M : List (List Bool)} {w : Nat} (h : Sh M w) : (dots M w).length ≤ 100 := by
  unfold dots
  rw [List.length_flatMap]
  have h1 : ∀ l : List Nat, (l.map fun r => (((List.range w).filter fun c => cell M r c).map fun c => (r, c)).length).sum ≤ l.length * w := fun l => by
    induction l with
    | nil => simp
    | cons a l ih =>
      have := List.length_filter_le (fun c => cell M a c) (List.range w)
      simp only [List.map_cons, List.sum_cons, List.length_map, List.length_cons, List.length_range, Nat.add_mul, Nat.one_mul] at *
      omega
  have h2 := h1 (List.range M.length)
  rw [List.length_range] at h2
  have h3 : M.length * w ≤ 10 * 10 := Nat.mul_le_mul h.h1 h.w1
  omega
theorem tr_len (M : List (List Bool)) (w : Nat) : (tr M w).length = w := by simp [tr]
theorem tr_sh {M : List (List Bool)} {w : Nat} (h : Sh M w) : Sh (tr M w) M.length where
  h0 := by rw [tr_len]; exact h.w0
  h1 := by rw [tr_len]; exact h.w1
  w0 := h.h0
  w1 := h.h1
  ln := fun bs hb => by
    obtain ⟨c, _, rfl⟩ := List.mem_map.mp hb
    simp
theorem tr_tr {M : List (List Bool)} {w : Nat} (h : Sh M w) : tr (tr M w) M.length = M := by
  apply List.ext_getElem
  · simp [tr]
  intro r h1 h2
  have hl : M[r].length = w := h.ln _ (List.getElem_mem h2)
  simp only [tr, List.getElem_map, List.getElem_range, List.map_map]
  apply List.ext_getElem
  · simp [hl]
  intro c h3 h4
  simp [h2, h4]
theorem tr_bd {M : List (List Bool)} {w : Nat} (h : Bd M w) : Bd (tr M w) M.length := ⟨tr_sh h.sh, h.hc, by rw [tr_tr h.sh]; exact h.hr⟩
theorem cell_tr {M : List (List Bool)} {w : Nat} (h : Sh M w) {r c : Nat} (hr : r < M.length) (hc : c < w) : cell (tr M w) c r = cell M r c := by
  unfold cell tr
  simp [hr, hc]
end Wd
namespace Wd
open PySem L2
section
variable {te : TE} {ε ε1 : List Slo} {n : Nat} {K : PySem.W.Frag}
/-- all([..]) -/
theorem ev_all {f : Nat → D} (g : Nat → Bool) (h : EV te ε (.lst ((List.range n).map f)) ε1) (hf : ∀ i, i < n → f i = .bl (g i)) : EV (tCB (rAll K) (tCons te tNil)) ε (.bl ((List.range n).all g)) ε1 := by
  have e : (List.range n).map f = ((List.range n).map g).map D.bl := by
    rw [List.map_map]
    exact List.map_congr_left fun i hi => hf i (List.mem_range.mp hi)
  rw [e] at h
  refine EV.as (ev_tcb (eva_one h) rn_all) ?_
  rw [List.all_map]
  rfl
theorem ev_allT {f : Nat → D} (h : EV te ε (.lst ((List.range n).map f)) ε1) (hf : ∀ i, i < n → f i = .bl true) : EV (tCB (rAll K) (tCons te tNil)) ε (.bl true) ε1 :=
  EV.as (ev_all (fun _ => true) h hf) (by simp)
end
end Wd
namespace Wd
open PySem L2
def signD (b : Bool) : Str := ⟨#[Wd.code b]⟩
theorem str_ext {a b : Str} (h : a.cps = b.cps) : a = b := by
  cases a
  cases b
  exact congrArg _ h
theorem app_cps (a b : Str) : (a ++ b).cps = a.cps ++ b.cps := rfl
theorem joinS_signs : ∀ bs : List Bool, Str.join "" (bs.map signD) = encRow bs
  | [] => rfl
  | [_] => rfl
  | x :: y :: r => by
    show signD x ++ ("" : Str) ++ Str.join "" ((y :: r).map signD) = _
    rw [joinS_signs (y :: r)]
    apply str_ext
    rw [app_cps, app_cps]
    have e : ("" : Str).cps = #[] := rfl
    rw [e, Array.append_empty]
    show #[Wd.code x] ++ ((y :: r).map Wd.code).toArray = ((x :: y :: r).map Wd.code).toArray
    simp
theorem join_signs (bs : List Bool) : Txt.join "" (bs.map signD) = encRow bs := (TL.join_eq _ _).trans (joinS_signs bs)
theorem signs_len (l : List Bool) : ((l.map signD).map (·.length)).sum = l.length := by
  rw [List.map_map]
  induction l with
  | nil => rfl
  | cons a l ih =>
    rw [List.map_cons, List.sum_cons, ih, List.length_cons]
    show 1 + l.length = l.length + 1
    omega
theorem signs_fit {l : List Bool} (h : l.length ≤ 1000) : ((l.map signD).map (·.length)).sum + (l.map signD).length * ("" : Str).length ≤ 16777216 := by
  rw [signs_len]
  have e : ("" : Str).length = 0 := rfl
  rw [e]
  omega
end Wd
/-! Comprehensions of two clauses over data. -/
namespace Wd
open PySem L2
/-- [te for x in wi for y in wi1 if tt1], nothing changes -/
theorem ev_map2 {wi wi1 : TI} {tt1 : TT} {te : TE} {x y : Nat} {ε ε1 : List Slo} {n : Nat} {it : Nat → D} (hxy : x ≠ y) (hi : EVI wi ε n it ε1) (n1 : Nat → Nat) (it1 : Nat → Nat → D) (p : Nat → Nat → Bool) (f : Nat → Nat → D)
    (hl : ∀ i, i ≤ n → ((List.range i).flatMap fun r => ((List.range (n1 r)).filter (p r)).map (f r)).length ≤ 50000) (hn : ∀ i, i < n → n1 i ≤ 50000)
    (h1 : ∀ i, i < n → EVI wi1 ((wipeE ε1 [x, y]).set x (.dat (it i))) (n1 i) (it1 i) ((wipeE ε1 [x, y]).set x (.dat (it i))))
    (ht : ∀ i j, i < n → j < n1 i → EVT tt1 (((wipeE ε1 [x, y]).set x (.dat (it i))).set y (.dat (it1 i j))) (p i j) (((wipeE ε1 [x, y]).set x (.dat (it i))).set y (.dat (it1 i j))))
    (hs : ∀ i j, i < n → j < n1 i → p i j = true → EV te (((wipeE ε1 [x, y]).set x (.dat (it i))).set y (.dat (it1 i j))) (f i j) (((wipeE ε1 [x, y]).set x (.dat (it i))).set y (.dat (it1 i j)))) :
    EV (tLc2 wi (gName x) tYes wi1 (gName y) tt1 te [x, y] [y]) ε (.lst ((List.range n).flatMap fun r => ((List.range (n1 r)).filter (p r)).map (f r))) (wipeE ε1 [x, y]) := by
  refine ⟨hi.keeps.trans .wipe, fun B H σ Q k q => ?_⟩
  refine hi.run B H σ _ k fun J B1 H1 G Y s1 k1 w hG hY => ?_
  intro P hP
  let O : Nat → List D := fun i => (List.range i).flatMap fun r => ((List.range (n1 r)).filter (p r)).map (f r)
  let O1 : Nat → Nat → List D := fun i j => O i ++ ((List.range j).filter (p i)).map (f i)
  have OS : ∀ i, O (i + 1) = O1 i (n1 i) := fun i => by
    show (List.range (i + 1)).flatMap _ = _
    rw [List.range_succ, List.flatMap_append]
    simp [O1, O]
  let e0 : List Slo := wipeE ε1 [x, y]
  have base : ∀ {τ : L2.St} {e : List Slo} {a : Addr}, Keeps ε1 e → (∀ (j : Nat) v, τ[j]? = some (some v) → (∃ u : Slo, e[j]? = some u ∧ u.mut = true) → σ[j]? = some (some v)) → Mu τ e a → Mu σ ε1 a := fun {τ e a} kp hτ m => by
    obtain ⟨j, u, q1, q2, q3⟩ := m
    obtain ⟨u0, r1, r2⟩ := kp.muts j u q1 q2
    exact ⟨j, u0, r1, r2, hτ j _ q3 ⟨u, q1, q2⟩⟩
  have k0 : Keeps ε1 e0 := .wipe
  have noP : ∀ {τ : L2.St} {e : List Slo}, (∀ a, Mu τ e a → Mu σ ε1 a) → ¬ Mu τ e P := fun h m => (k1.mut_free (h P m)).2 hP
  have b0 : ∀ a, Mu (wipe σ [x, y]) e0 a → Mu σ ε1 a := fun a m => by
    obtain ⟨j, u, q1, q2, q3⟩ := k0.mu m
    exact ⟨j, u, q1, q2, (wipe_some q3).1⟩
  -- the outer turns
  refine ⟨fun i m H2 => m = n - i ∧ i ≤ n ∧ ∃ B2 acc, Knw B2 H2 (wipe σ [x, y]) e0 ∧ Stp (Mu σ ε1) B1 H1 B2 H2 ∧ B2 P = none ∧ H2 P = some (.lst acc) ∧ IsA B2 acc (O i), ⟨n, by simp, Nat.zero_le _, B1, [], k1.wipe.out (free_of k1.sub hP) (noP b0), .apart k1.sub hP, free_of k1.sub hP, upd_same, .nil⟩, ?_⟩
  rintro i m H2 ⟨rfl, hin, B2, acc, k2, s2, p2, a2, i2⟩
  have g2 : G H2 := hG H2 fun a o e => k2.sub a o (s2.up a o e)
  by_cases hlt : i < n
  · refine .inr ⟨w.goes i H2 hlt g2, fun H' => ∃ B2 acc, Knw B2 H' (wipe σ [x, y]) e0 ∧ Stp (Mu σ ε1) B1 H1 B2 H' ∧ B2 P = none ∧ H' P = some (.lst acc) ∧ IsA B2 acc (O (i + 1)), fun H' h => ⟨n - (i + 1), by omega, rfl, hlt, h⟩, fun v H3 yv => ?_⟩
    obtain ⟨B3, s3, x3⟩ := hY i B2 H2 v H3 hlt s2.up k2.sub (w.yields i H2 v H3 hlt g2 yv)
    have k3 := k2.step0 s3
    have p3 : B3 P = none := s3.none p2 (by rw [a2]; simp) id
    have a3 := s3.fr P _ id a2
    have s3' := s2.trans0 s3
    have kx := k3.set_dat (i := x) x3
    refine ⟨(wipe_set (by simp)).trans wipe_idem, ?_⟩
    show wi1 _ H3 _
    have bx : ∀ a, Mu ((wipe σ [x, y]).set x (some v)) (e0.set x (.dat (it i))) a → Mu σ ε1 a := fun a m => b0 a m.of_set
    refine (h1 i hlt).run B3 H3 _ _ kx fun J1 B4 H4 G1 Y1 s4 k4 w1 hG1 hY1 => ?_
    have p4 := s4.none p3 (by rw [a3]; simp) (noP bx)
    have a4 := s4.fr P _ (noP bx) a3
    have s4' := s3'.trans s4 fun a m => .inl (bx a m)
    have i4 : IsA B4 acc (O i) := i2.mono (s3.up.trans s4.up)
    -- the inner turns
    refine ⟨fun j m H5 => m = n1 i - j ∧ j ≤ n1 i ∧ ∃ B5 acc, Knw B5 H5 ((wipe σ [x, y]).set x (some v)) (e0.set x (.dat (it i))) ∧ Same B4 B5 ∧ Stp (Mu σ ε1) B1 H1 B5 H5 ∧ B5 P = none ∧ H5 P = some (.lst acc) ∧ IsA B5 acc (O1 i j),
      ⟨n1 i, by simp, Nat.zero_le _, B4, acc, k4, Same.refl _, s4', p4, a4, by simpa [O1] using i4⟩, ?_⟩
    rintro j m H5 ⟨rfl, hjn, B5, acc5, k5, u5, s5, p5, a5, i5⟩
    have g5 : G1 H5 := hG1 H5 fun a o e => k5.sub a o (u5 a o e)
    have hy0 : (e0.set x (.dat (it i)))[y]? = some .no ∨ (e0.set x (.dat (it i)))[y]? = none := by
      rw [List.getElem?_set_ne hxy]
      cases hq : e0[y]? with
      | none => exact .inr rfl
      | some u => exact .inl (by rw [wipeE_in (by simp) hq])
    have wy : ∀ d, ((e0.set x (.dat (it i))).set y (.dat d)).set y .no = e0.set x (.dat (it i)) := fun d => by
      rw [List.set_set]
      apply List.ext_getElem?
      intro z
      by_cases hz : y = z
      · subst hz
        rcases hy0 with h | h
        · obtain ⟨hl, _⟩ := List.getElem?_eq_some_iff.mp h
          rw [List.getElem?_set_self hl, h]
        · rw [h, List.getElem?_eq_none (by rw [List.length_set]; exact List.getElem?_eq_none_iff.mp h)]
      · rw [List.getElem?_set_ne hz]
    by_cases hjlt : j < n1 i
    · refine .inr ⟨w1.goes j H5 hjlt g5, fun H' => ∃ B5 acc, Knw B5 H' ((wipe σ [x, y]).set x (some v)) (e0.set x (.dat (it i))) ∧ Same B4 B5 ∧ Stp (Mu σ ε1) B1 H1 B5 H' ∧ B5 P = none ∧ H' P = some (.lst acc) ∧ IsA B5 acc (O1 i (j + 1)),
        fun H' h => ⟨n1 i - (j + 1), by omega, rfl, hjlt, h⟩, fun v1 H6 yv1 => ?_⟩
      obtain ⟨B6, s6, x6⟩ := hY1 j B5 H5 v1 H6 hjlt u5 k5.sub (w1.yields j H5 v1 H6 hjlt g5 yv1)
      have k6 := k5.step0 s6
      have p6 : B6 P = none := s6.none p5 (by rw [a5]; simp) id
      have a6 := s6.fr P _ id a5
      have s6' := s5.trans0 s6
      -- the slot of the second name
      have k6w : Knw B6 H6 (wipe ((wipe σ [x, y]).set x (some v)) [y]) (e0.set x (.dat (it i))) := k6.slots (wipe_length _ _) fun z e hz hne => by
        by_cases hzy : z ∈ [y]
        · exfalso
          simp at hzy
          subst hzy
          rcases hy0 with h | h <;> rw [h] at hz <;> cases hz
          exact hne rfl
        · exact wipe_out hzy
      have ky := k6w.set_dat (i := y) x6
      refine ⟨(wipe_set (by simp)).trans wipe_idem, ?_⟩
      have by' : ∀ a, Mu ((wipe ((wipe σ [x, y]).set x (some v)) [y]).set y (some v1)) ((e0.set x (.dat (it i))).set y (.dat (it1 i j))) a → Mu σ ε1 a := fun a m => by
        refine bx a ?_
        obtain ⟨z, u, q1, q2, q3⟩ := m.of_set
        exact ⟨z, u, q1, q2, (wipe_some q3).1⟩
      refine (ht i j hlt hjlt).run B6 H6 _ _ ky fun B7 H7 s7 k7 => ?_
      have p7 := s7.none p6 (by rw [a6]; simp) (noP by')
      have a7 := s7.fr P _ (noP by') a6
      have s7' := s6'.trans s7 fun a m => .inl (by' a m)
      have back : ∀ {B H : Hp}, Knw B H ((wipe ((wipe σ [x, y]).set x (some v)) [y]).set y (some v1)) ((e0.set x (.dat (it i))).set y (.dat (it1 i j))) → Knw B H ((wipe σ [x, y]).set x (some v)) (e0.set x (.dat (it i))) := fun {B H} kk => by
        have k8 := kk.wipe (vs := [y])
        have e1 : wipeE ((e0.set x (.dat (it i))).set y (.dat (it1 i j))) [y] = e0.set x (.dat (it i)) := wy _
        rw [e1] at k8
        refine k8.slots ?_ fun z e hz hne => ?_
        · simp [wipe_length]
        · by_cases hzy : z ∈ [y]
          · exfalso
            simp at hzy
            subst hzy
            rcases hy0 with h | h <;> rw [h] at hz <;> cases hz
            exact hne rfl
          · rw [wipe_out hzy, List.getElem?_set_ne (fun q => hzy (List.mem_singleton.mpr q.symm)), wipe_out hzy]
      cases hp : p i j with
      | false =>
        show ∃ B5 acc, _
        refine ⟨B7, acc5, back k7, u5.trans (s6.up.trans s7.up), s7', p7, a7, ?_⟩
        have e : O1 i (j + 1) = O1 i j := by
          show _ ++ _ = _ ++ _
          rw [List.range_succ, List.filter_append, List.map_append]
          simp [hp]
        rw [e]
        exact i5.mono (s6.up.trans s7.up)
      | true =>
        show te _ H7 _
        refine (hs i j hlt hjlt hp).run B7 H7 _ _ k7 fun yv2 B8 H8 s8 k8 y8 => ?_
        have p8 := s8.none p7 (by rw [a7]; simp) (noP by')
        have a8 := s8.fr P _ (noP by') a7
        have s8' := s7'.trans s8 fun a m => .inl (by' a m)
        have i8 : IsA B8 acc5 (O1 i j) := i5.mono ((s6.up.trans s7.up).trans s8.up)
        have hsz : acc5.length ≤ 100000 := by
          rw [i8.length]
          have h2 := hl i hin
          have h3 := hn i hlt
          have h4 := List.length_filter_le (p i) (List.range j)
          show (O i ++ _).length ≤ _
          rw [List.length_append, List.length_map]
          rw [List.length_range] at h4
          have h5 : (O i).length ≤ 50000 := h2
          omega
        refine ⟨acc5, a8, Nat.lt_of_le_of_lt hsz (by decide), B8, acc5 ++ [yv2], ?_, ?_, ?_, p8, upd_same, ?_⟩
        · exact (back k8).out p8 (noP bx)
        · exact u5.trans ((s6.up.trans s7.up).trans s8.up)
        · refine ⟨s8'.up, fun a u qq => ?_, fun a u hn qq => ?_, fun a qq => ?_, s8'.nw⟩
          · rw [upd_ne (ne_of_none qq p8)]; exact s8'.inn a u qq
          · rw [upd_ne (ne_of_none qq hP)]; exact s8'.fr a u hn qq
          · by_cases ha : a = P
            · subst ha; rw [upd_same]; simp
            · rw [upd_ne ha]; exact s8'.kp a qq
        · have e : O1 i (j + 1) = O1 i j ++ [f i j] := by
            show _ ++ _ = (_ ++ _) ++ _
            rw [List.range_succ, List.filter_append, List.map_append]
            simp [hp]
          rw [e]
          exact i8.append (.one y8)
    · have e : j = n1 i := by omega
      subst e
      refine .inl ⟨w1.stops H5 g5, B5, acc5, ?_, s5, p5, a5, by rw [OS]; exact i5⟩
      have k6 := k5.wipe (vs := [x, y])
      have e1 : wipeE (e0.set x (.dat (it i))) [x, y] = e0 := by
        apply List.ext_getElem?
        intro z
        by_cases hz : z ∈ [x, y]
        · cases hq : e0[z]? with
          | none => rw [List.getElem?_eq_none (by rw [wipeE_length, List.length_set]; exact List.getElem?_eq_none_iff.mp hq)]
          | some u =>
            have hu : u = .no := wipeE_in hz hq
            subst hu
            have hlt : z < (wipeE (e0.set x (.dat (it i))) [x, y]).length := by
              rw [wipeE_length, List.length_set]
              exact (List.getElem?_eq_some_iff.mp hq).1
            rw [List.getElem?_eq_getElem hlt]
            congr 1
            exact wipeE_in hz (List.getElem?_eq_getElem hlt)
        · rw [wipeE_out hz, List.getElem?_set_ne (fun q => hz (by rw [← q]; simp))]
      rw [e1, wipe_set (by simp), wipe_idem] at k6
      exact k6
  · have e : i = n := by omega
    subst e
    refine .inl ⟨w.stops H2 g2, ?_⟩
    have k3 := (k2.seal p2 a2 (noP b0)).unwipe fun j e hj hq => wipeE_in hj hq
    have s3 := s2.seal hP p2 a2
    exact q _ _ H2 (s1.trans s3 fun a m => .inl (hi.keeps.mu m)) k3 (.lst upd_same (i2.mono fun a u e => by rw [upd_ne (ne_of_none e p2)]; exact e))
end Wd
namespace Wd
open PySem L2
/-- a field of an object that is under way -/
theorem ev_fldM {K : PySem.W.Frag} {C : Addr} {gs : List (Str × D)} {f : Str} {ε : List Slo} {i : Nat} {d : D} (hi : ε[i]? = some (.mob C gs)) (hc : Cls K C) (hn : NoAttr K C f) (hf : gs.lookup f = some d) : EV (tFld K (tVar i) f) ε d ε := ⟨.refl _, fun B H σ Q k q => by
  obtain ⟨l, dx, fs, h1, h2, h3, h4⟩ := k.mob i C gs hi
  obtain ⟨w, g1, g2⟩ := h4.lookup hf
  exact ⟨_, h1, l, C, dx, fs, w, rfl, h3, hc, hn, g1, q w B H (.refl k.sub) k g2⟩⟩
end Wd
/-! Reading a list that changes; powers. -/
namespace Wd
open PySem L2
section
variable {ε ε1 : List Slo} {ti te : TE} {i : Nat} {ds es : List D} {c : Int} {d : D} {K : PySem.W.Frag}
theorem ev_ixM (h0 : ε[i]? = some (.mls es)) (ht : EV ti ε (.int c) ε1) (hi : ε1[i]? = some (.mls ds)) (h : atI ds c = some d) : EV (tOp (rIx K) (tVar i) ti) ε d ε1 := ⟨ht.keeps, fun B H σ Q k q => by
  obtain ⟨l, vs0, q1, _, _, _⟩ := k.mls i es h0
  refine ⟨_, q1, ht.run B H σ _ k fun v B1 H1 s1 k1 i1 => ?_⟩
  cases i1
  obtain ⟨l', xs, r1, r2, r3, r4⟩ := k1.mls i ds hi
  rw [q1] at r1
  cases r1
  have hl := r4.length
  unfold atI at h
  rw [← hl] at h
  cases e : ixN xs.length c with
  | none => rw [e] at h; cases h
  | some j =>
    rw [e] at h
    obtain ⟨w, hw, hd⟩ := r4.at (i := j) h
    exact .inl ⟨l, xs, c, w, rfl, rfl, .of r3, by unfold atI; rw [e]; exact hw, q _ B1 H1 s1 k1 hd⟩⟩
end
theorem powW_ok {i j : Int} (hj : 0 ≤ j) (h4 : j ≤ 1000) (h : i.natAbs < 2 ^ 2000) : CPowW i j := by
  refine ⟨hj, ?_⟩
  have hb : Builtin.Int.intBits i ≤ 2001 := by
    unfold Builtin.Int.intBits
    by_cases z : i = 0
    · subst z; decide
    · have hz : (i == 0) = false := by simpa using z
      rw [hz]
      have h2 : i.natAbs ≠ 0 := by omega
      have := (Nat.log2_lt h2).mpr h
      simp only [Bool.false_eq_true, if_false]
      omega
  calc (Builtin.Int.intBits i : Int) * j ≤ 2001 * 1000 := by
        have h1 : (Builtin.Int.intBits i : Int) ≤ 2001 := by exact_mod_cast hb
        exact Int.mul_le_mul h1 h4 hj (by decide)
    _ ≤ 2 ^ 27 := by decide
end Wd
namespace Wd
open PySem L2
theorem le_nil : Le [] [] := ⟨rfl, fun _ _ h => by cases h⟩
theorem le_no {a b : List Slo} {e : Slo} (h : Le a b) : Le (.no :: a) (e :: b) := ⟨by simp [h.1], fun i u q => by
  cases i with
  | zero => simp at q; exact .inl q.symm
  | succ i => exact h.2 i u (by simpa using q)⟩
theorem le_eq {a b : List Slo} {e : Slo} (h : Le a b) : Le (e :: a) (e :: b) := ⟨by simp [h.1], fun i u q => by
  cases i with
  | zero => simp at q; subst q; exact .inr rfl
  | succ i => exact h.2 i u (by simpa using q)⟩
theorem le_rfl {a : List Slo} : Le a a := ⟨rfl, fun _ _ h => .inr h⟩
section
variable {F : Frm} {ε ε1 : List Slo} {d1 : D} {te : TE} {E : Ends} {i j : Nat}
/-- a, b = e, [] where b is a list that is to grow -/
theorem nx_parL (h : EV te ε d1 ε1) (n : NX F ((ε1.set i (.dat d1)).set j (.mls [])) E.nx) (hi : i ≠ 0 ∨ F.pin = none := by first | exact .inl (by decide) | exact .inr rfl) (hj : j ≠ 0 ∨ F.pin = none := by first | exact .inl (by decide) | exact .inr rfl) :
    NX F ε (tPar i j (tCons te (tCons (tLst tNil) tNil)) E) := fun σ H ⟨B, k, s, m, p⟩ =>
  h.run B H σ _ k fun v B1 H1 s1 k1 i1 => ⟨by decide, fun x hx => ⟨_, _, rfl, n _ _ ⟨B1, (k1.set_dat i1).set_mls hx .nil, (s.trans s1 m).trans0 (.apart k1.sub hx), fun a q => by
    obtain ⟨z, e, q1, q2, q3⟩ := q
    by_cases hz : j = z
    · subst hz
      by_cases hlt : j < (σ.set i (some v)).length
      · rw [List.getElem?_set_self hlt] at q3
        cases q3
        refine .inr ?_
        have h2 : H1 x = none := hx
        have s' := s.trans s1 m
        cases z : F.H x with
        | none => rfl
        | some o => exact absurd h2 (s'.kp x (by rw [z]; simp))
      · rw [List.getElem?_eq_none (by rw [List.length_set]; omega)] at q3; cases q3
    · rw [List.getElem?_set_ne hz] at q1 q3
      exact m a (h.keeps.mu (Mu.of_set ⟨z, e, q1, q2, q3⟩)), fun q hq => by
    have p1 : σ[0]? = some (some (.ref q)) := p q hq
    rcases hi with z | z
    · rcases hj with y | y
      · rw [List.getElem?_set_ne y, List.getElem?_set_ne z]; exact p1
      · rw [y] at hq; cases hq
    · rw [z] at hq; cases hq⟩⟩⟩
end
end Wd
/-! enumerate over a tuple. -/
namespace Wd
open PySem PySem.Spec PyProof.Rows L2

theorem enum_new1 {v : Value} {o : Obj} {Y : Heap → Prop} (B : Begins v o Y) :
    Meets (Builtin.«enumerate.__new__» ⟨[.type "enumerate", v], []⟩) fun _ R s => Y s.heap ∧ R (.ok (.ret (.ref (s.heap.push o).objs.size)))
      { s with heap := (s.heap.push o).push { cls := .type "enumerate", data := .fields #[.none, .bool false, .ref s.heap.objs.size, rawInt 0, .none, .none] } } := by
  refine .of_wp fun prog w A R s hh => ?_
  obtain ⟨hp, gs, dr, tk, os⟩ := s
  obtain ⟨hY, hR⟩ := hh
  have sub := sub_enumerate
  have go : ∀ {A' : Around} {E' Q' : Value → Shared → Prop}, Q' (.ref hp.objs.size) ⟨hp.push o, gs, dr, tk, os⟩ → wpAny (model prog w) A' (pyIter v) Q' E' ⟨hp, gs, dr, tk, os⟩ := fun q => B.iter prog w _ _ ⟨hp, gs, dr, tk, os⟩ _ hY q
  wp_walk using go
  refine wpAny_stack_any fun _ => wpAny_pure ?_
  split
  · rename_i c _ _ _ _ _
    cases (c == Value.type "enumerate") <;> (wp_walk using go; exact ⟨_, rfl, hR⟩)
  · wp_walk using go
    exact ⟨_, rfl, hR⟩
theorem enum_start {prog : Program} {w : World} {A : Around} {E : Value → Shared → Prop} {s : Shared} {v : Value} {o : Obj} {Y : Heap → Prop} {Q : Value → Shared → Prop} (B : Begins v o Y) (hY : Y s.heap)
    (h : ∀ h', IsEnum h' (s.heap.objs.size + 1) s.heap.objs.size 0 .none → h'.get? s.heap.objs.size = some o → (∀ b u, s.heap.get? b = some u → h'.get? b = some u) → Q (.ref (s.heap.objs.size + 1)) { s with heap := h' }) :
    wpAny (model prog w) A (call (.type "enumerate") [v]) Q E s := by
  refine callType_new F.called_enumerate (by decide) (F.typeCall_enumerate_1 _) (F.newCall_enumerate_1 _) (fun ob => F.args_object_init_2 ob _) F.entry_enumerate_new (enum_new1 B) ⟨hY, ?_⟩
  have z : (s.heap.push o).objs.size = s.heap.objs.size + 1 := Heap.size_push ..
  show _ ∧ _
  rw [z]
  have en := Heap.get?_push_size (s.heap.push o) (o := { cls := .type "enumerate", data := .fields #[.none, .bool false, .ref s.heap.objs.size, rawInt 0, .none, .none] }) rfl
  rw [z] at en
  exact ⟨⟨_, en, rfl⟩, h _ en (Heap.get?_push_of_some _ (Heap.get?_push_size _ B.free)) fun b u q => Heap.get?_push_of_some _ (Heap.get?_push_of_some _ q)⟩

/-- the tuple at a, each item in a new pair behind its number -/
def ItEt (K : PySem.W.Frag) (a : Addr) : It where
  go i H := ∃ (xs : List V) (x : V), SqT K H a xs ∧ xs[i]? = some x
  yld i H v H' := ∃ T x, v = .ref T ∧ H T = none ∧ H' = upd H T (.tup [.int (i : Nat), x]) ∧ ∀ xs, SqT K H a xs → xs[i]? = some x
  stop i H := ∃ xs : List V, SqT K H a xs ∧ xs.length ≤ i
theorem turn_enT {P : Program} {w : World} {K : PySem.W.Frag} {elts : List Expr} {kk : Nat} {tpos : Pos} (a e it : Addr) :
    Turn P w K (.Tuple elts kk tpos) (ItEt K a) [e, it] e fun i h => (∃ old, IsEnum h e it ((i : Nat) : Int) old) ∧ h.IsTupleIter it a i ∧ e ≠ it ∧ a ≠ it ∧ a ≠ e := by
  refine ⟨by simp, fun i h st b hb => ?_, fun i h h' st k => ?_, ?_, ?_, fun A i s Q E st h => ?_⟩
  · obtain ⟨⟨old, he⟩, ⟨o, ho, hc, hd⟩, _⟩ := st
    rcases (show b = e ∨ b = it by simpa using hb) with z | z
    · exact z ▸ ⟨_, he, fun v q => nomatch q⟩
    · exact z ▸ ⟨o, ho, fun v q => by rw [hd] at q; cases q⟩
  · obtain ⟨⟨old, he⟩, hi, r⟩ := st
    exact ⟨⟨old, k e (by simp) _ he⟩, hi.at fun o q => k it (by simp) o q, r⟩
  · intro X hP hw hK hc i pins s σ H E I hf st hg
    subst hP hw hK
    obtain ⟨⟨old, he⟩, hit, hne, ni, na⟩ := st
    obtain ⟨xs, x, hq, hx⟩ := hg
    obtain ⟨its, rv, p, hz⟩ := I.tuple hq
    have tp : s.heap.IsTuple a its.toArray := p
    obtain ⟨u, hu, ru⟩ := rv.get hx
    have le := Heap.lt_size he
    have li : it < s.heap.objs.size := by obtain ⟨_, q, _⟩ := hit; exact Heap.lt_size q
    have lt : i < its.toArray.size := by
      have := (List.getElem?_eq_some_iff.mp hu).1
      simpa using this
    refine wpAny_pyNext_enum_itemC (Draws.tuple (show X.A.in1.handled = none from I.ok.hd hc) it a ni its.toArray) he ⟨hit, tp⟩ lt hne (by simp [hne, Ne.symm na]) fun y h' tk hP ho hs' hT hsz hk => ?_
    have ey : y = u := by
      have h1 : its.toArray[i]? = some y := hP
      simp only [List.getElem?_toArray] at h1
      exact Option.some.inj (h1.symm.trans hu)
    subst ey
    refine ⟨_, rfl, wpAny_letOwnedTupleGo_enum (s := { s with heap := h', toks := tk + 1 }) ho fun h2 he' sb => ?_⟩
    have hT2 := (sb.2 _ (Nat.ne_of_gt le)).trans hT
    have I1 : Inv X pins σ (upd H s.heap.objs.size (.tup [.int (i : Nat), x])) { s with heap := h2, toks := tk + 1 } :=
      I.turnedNew (ch := [e, it]) (fun b ob hb q => (sb.2 b fun z => hb (by simp [z])).trans (hk b ob (fun z => hb (by simp [z])) (fun z => hb (by simp [z])) q)) hf (Nat.le_refl _)
        ⟨show 2 ≤ sizeLine by decide, [.int i tk, y], .cons ⟨_, rfl⟩ (.cons ru .nil), _, hT2, rfl, _, rfl⟩
    refine ⟨.ref s.heap.objs.size, _, I1, rfl, ⟨_, x, rfl, I.hok.fresh (Nat.le_refl _), rfl, fun ys hy => I.tuple_inj hy hq ▸ hx⟩, ⟨⟨y, ?_⟩, hs'.1.at fun o q => (sb.2 it hne.symm).trans q, hne, ni, na⟩, fun b hb => ?_⟩
    · rw [show ((i + 1 : Nat) : Int) = (i : Int) + 1 by omega]
      exact he'
    · have lb : b < s.heap.objs.size := by
        rcases (show b = e ∨ b = it by simpa using hb) with z | z
        · exact z ▸ le
        · exact z ▸ li
      rw [upd_ne (Nat.ne_of_lt lb)]
      exact (hf b hb).1
  · intro X hP hw hK hc i pins s σ H E I hf st hg
    subst hP hw hK
    obtain ⟨⟨old, he⟩, hit, hne, ni, na⟩ := st
    obtain ⟨xs, hq, hx⟩ := hg
    obtain ⟨its, rv, p, hz⟩ := I.tuple hq
    obtain ⟨f0, f1, f2, f3, f4, f5⟩ := hf it (by simp)
    have hh : X.A.in1.handled = none := I.ok.hd hc
    have hl := rv.length
    have D : Draws X.prog X.w X.A.in1 it [it, a] i (fun _ _ => False) fun j h => j = i ∧ h.IsTupleIter it a i ∧ h.IsTuple a its.toArray :=
      ⟨fun _ _ st => let ⟨o, ho, _⟩ := st.2.1; ⟨o, ho⟩, fun _ _ _ st hk => ⟨st.1, st.2.1.at fun o q => hk it (by simp) o q, st.2.2.at fun o q => hk a (by simp) o q⟩,
        fun j s Q E hj st _ => absurd st.1 (Nat.ne_of_lt hj), fun s Q E st hE => wpAny_nextOf_tuple_end hh st.2.1 st.2.2 (by simp; omega) hE⟩
    exact wpAny_pyNext_enum_endD D he ⟨rfl, hit, p⟩ fun h' eb => ⟨rfl, I.turned (t' := s.toks) (fun b o hb q => eb b o hb q) f0 f1 f3 f4 f5⟩
  · obtain ⟨⟨_, he⟩, _⟩ := st
    exact wpAny_pyIter_enum he h
def iEnumT (K : PySem.W.Frag) (ta : TA) : TI := fun σ H R => ta σ H fun vs H1 => ∃ a xs, vs = [.ref a] ∧ SqT K H1 a xs ∧ R (ItEt K a) H1
theorem pi_enT {X : Cx} {e : Expr} {ta : TA} {p pos tpos : Pos} {elts : List Expr} {kk : Nat} {K : PySem.W.Frag} (hK : X.K = K) (hg : Gl X "enumerate") (hm : X.mg "enumerate" = none) (ha : PA X [e] ta) (hs : starEach [e] X.env = [(false, eval e X.env)] := by rfl) :
    PI X (.Tuple elts kk tpos) (.Call (.Name "enumerate" p) [e] [] pos) (iEnumT K ta) := by
  subst hK
  refine ⟨fun pins s σ H R I h => Call_ (ld_blt I hg hm boot_enumerate (PyProof.Rows.callWith_type1 (thn (ha.run pos pins s σ H _ I h) ?_) hs rfl))⟩
  rintro us s1 ⟨vs, H1, I1, r1, a, xs, rfl, hq, q⟩
  cases r1 with
  | cons r rr =>
    cases rr
    cases r
    obtain ⟨its, rv, p', hz⟩ := I1.tuple hq
    have tp : s1.heap.IsTuple a its.toArray := p'
    have la : a < s1.heap.objs.size := by obtain ⟨_, w, _⟩ := tp; exact Heap.lt_size w
    refine enum_start (begins_tuple a its.toArray) tp fun h' he hit hk => wpAny_pyIter_enum he ?_
    have I2 : Inv X pins σ H1 { s1 with heap := h' } := I1.kept (t' := s1.toks) hk
    refine ⟨s1.heap.objs.size + 1, [s1.heap.objs.size + 1, s1.heap.objs.size], _, _, H1, rfl, I2, turn_enT a (s1.heap.objs.size + 1) s1.heap.objs.size, ⟨⟨.none, he⟩, ⟨_, hit, rfl, rfl⟩, Nat.succ_ne_self _, Nat.ne_of_lt la, Nat.ne_of_lt (Nat.lt_succ_of_lt la)⟩, fun b hb => ?_, q⟩
    have hle : s1.heap.objs.size ≤ b := by
      rcases (show b = s1.heap.objs.size + 1 ∨ b = s1.heap.objs.size by simpa using hb) with z | z
      · rw [z]; exact Nat.le_succ _
      · rw [z]; exact Nat.le_refl _
    exact I1.fpOk hle (I1.hok.fresh hle)
theorem walk_enT {K : PySem.W.Frag} {a : Addr} {xs : List V} : Walk (ItEt K a) xs.length (fun H => SqT K H a xs) (YPair (fun i => some (.int (i : Nat))) fun i => xs[i]?) :=
  ⟨fun i _ hi q => ⟨xs, xs[i], q, by simp [hi]⟩, fun _ q => ⟨xs, q, Nat.le_refl _⟩, fun i H v H' _ q y => by
    obtain ⟨T, x, h1, h2, h3, h4⟩ := y
    exact ⟨T, .int (i : Nat), x, h1, h2, h3, rfl, h4 xs q⟩⟩
theorem evi_enT {K : PySem.W.Frag} {ε ε1 : List Slo} {ta : TA} {ds : List D} (h : EVA ta ε [.tup ds] ε1) : EVI (iEnumT K ta) ε ds.length (fun i => .tup [.int i, ds.getD i .non]) ε1 := ⟨h.keeps, fun B H σ R k q => h.run B H σ _ k fun v B1 H1 s1 k1 i1 => by
  cases i1 with
  | cons h1 h2 =>
    cases h2
    cases h1 with
    | tup ha hx =>
      refine ⟨_, _, rfl, .of (k1.sub _ _ ha), q _ B1 H1 _ _ s1 k1 (hx.length ▸ walk_enT) (fun H2 s => .of (s _ _ ha)) fun i B2 H2 x H3 hi sb ss y => ?_⟩
      obtain ⟨T, x1, x2, rfl, hT, rfl, e1, e2⟩ := y
      cases e1
      obtain ⟨d, hd, hI⟩ := hx.get e2
      have s2 : Stp0 B2 H2 (upd B2 T (.tup [V.int i, x2])) (upd H2 T (.tup [V.int i, x2])) := .new ss hT
      exact ⟨_, s2, .tup upd_same (.cons (.int _) (.one (by rw [List.getD_eq_getElem?_getD, hd]; exact (hI.mono sb).mono s2.up)))⟩⟩
end Wd
/-! sorted of pairs; the dots of a turned board. -/
namespace Wd
open PySem L2
/-- what stands in a pair of ints -/
def pairAt (H : Hp) : V → Int × Int
  | .ref t => match H t with
    | some (.tup [.int i, .int j]) => (i, j)
    | _ => (0, 0)
  | _ => (0, 0)
theorem isA_prs {B H : Hp} (s : Same B H) : ∀ {xs : List V} {ps : List (Int × Int)}, IsA B xs (ps.map prD) → xs.map (pairAt H) = ps ∧ ∀ x ∈ xs, (∃ t, x = V.ref t ∧ H t = some (.tup [.int (pairAt H x).1, .int (pairAt H x).2])) ∧ Is B x (prD (pairAt H x))
  | [], [], _ => ⟨rfl, fun x h => by cases h⟩
  | [], p :: ps, h => by cases h
  | x :: xs, [], h => by cases h
  | x :: xs, p :: ps, h => by
    cases h with
    | cons h1 h2 =>
      obtain ⟨e, r⟩ := isA_prs s h2
      have h1' := h1
      cases h1 with
      | tup ha hx =>
        rename_i a us
        cases hx with
        | cons g1 hx =>
          cases hx with
          | cons g2 hx =>
            cases hx
            cases g1
            cases g2
            have he : pairAt H (V.ref a) = p := by
              simp only [pairAt, s _ _ ha]
            refine ⟨by rw [List.map_cons, he, e], fun x hx => ?_⟩
            rcases List.mem_cons.mp hx with rfl | hx
            · rw [he]
              exact ⟨⟨a, rfl, s _ _ ha⟩, h1'⟩
            · exact r x hx
theorem isA_of {B : Hp} {k : V → Int × Int} : ∀ {ys : List V}, (∀ y ∈ ys, Is B y (prD (k y))) → IsA B ys ((ys.map k).map prD)
  | [], _ => .nil
  | y :: ys, h => .cons (h y (by simp)) (isA_of fun z hz => h z (by simp [hz]))
theorem lex_uniq : ∀ {a b : List (Int × Int)}, a.Perm b → SrtO.Srtd SrtO.lexB a → SrtO.Srtd SrtO.lexB b → a = b := fun {a b} p h1 h2 =>
  p.eq_of_pairwise (fun x y _ _ e1 e2 => by
    have a := SrtO.lexB_no.mp e1
    have b := SrtO.lexB_no.mp e2
    exact Prod.ext (by omega) (by omega)) h1 h2
theorem rn_sortedP {K : PySem.W.Frag} {ps qs : List (Int × Int)} (h : qs.Perm ps) (hs : SrtO.Srtd SrtO.lexB qs) : RDn (rSortedPO K) [.lst (ps.map prD)] (.lst (qs.map prD)) := fun B H vs Q s hv q => by
  cases hv with
  | cons h1 h2 =>
    cases h2
    cases h1 with
    | lst ha hx =>
      rename_i a xs
      obtain ⟨e, r⟩ := isA_prs s hx
      refine ⟨a, xs, pairAt H, rfl, .of (s _ _ ha), fun x m => (r x m).1, fun ys p srt stb hp => ?_⟩
      have e2 : ys.map (pairAt H) = qs := by
        refine lex_uniq ?_ ?_ hs
        · have := stb.perm.map (pairAt H)
          rw [e] at this
          exact this.trans h.symm
        · exact List.pairwise_map.mpr srt
      have iy : IsA B ys (qs.map prD) := by
        rw [← e2]
        exact isA_of fun y hy => (r y (stb.perm.mem_iff.mp hy)).2
      have s2 : Stp0 B H (upd B p (.lst ys)) (upd H p (.lst ys)) := .new s hp
      exact q _ _ _ s2 (.lst upd_same (iy.mono s2.up))

theorem mem_dots {M : List (List Bool)} {w r c : Nat} : (r, c) ∈ dots M w ↔ r < M.length ∧ c < w ∧ cell M r c = true := by
  unfold dots
  simp only [List.mem_flatMap, List.mem_range, List.mem_map, List.mem_filter, Prod.mk.injEq]
  constructor
  · rintro ⟨a, h1, b, ⟨h2, h3⟩, rfl, rfl⟩
    exact ⟨h1, h2, h3⟩
  · rintro ⟨h1, h2, h3⟩
    exact ⟨r, h1, c, ⟨h2, h3⟩, rfl, rfl⟩
theorem dots_pw (M : List (List Bool)) (w : Nat) : (dots M w).Pairwise fun p q => p.1 < q.1 ∨ (p.1 = q.1 ∧ p.2 < q.2) := by
  unfold dots
  rw [List.pairwise_flatMap]
  refine ⟨fun r _ => ?_, List.pairwise_lt_range.imp fun {a b} hab x hx y hy => ?_⟩
  · rw [List.pairwise_map]
    exact (List.pairwise_lt_range.filter _).imp fun h => .inr ⟨rfl, h⟩
  · simp only [List.mem_map] at hx hy
    obtain ⟨c, _, rfl⟩ := hx
    obtain ⟨d, _, rfl⟩ := hy
    exact .inl hab
def zz (p : Nat × Nat) : Int × Int := (p.1, p.2)
def zs (p : Nat × Nat) : Int × Int := (p.2, p.1)
theorem dots_srt (M : List (List Bool)) (w : Nat) : SrtO.Srtd SrtO.lexB ((dots M w).map zz) := by
  refine List.pairwise_map.mpr ((dots_pw M w).imp fun {p q} h => SrtO.lexB_no.mpr ?_)
  simp only [zz]
  omega
theorem dots_nodup (M : List (List Bool)) (w : Nat) : (dots M w).Nodup := (dots_pw M w).imp fun {p q} h e => by subst e; omega
theorem dots_turn {M : List (List Bool)} {w : Nat} (h : Sh M w) : ((dots (tr M w) M.length).map zz).Perm ((dots M w).map zs) := by
  have e : (dots M w).map zs = ((dots M w).map fun p => (p.2, p.1)).map zz := by rw [List.map_map]; rfl
  rw [e]
  refine List.Perm.map _ ((List.perm_ext_iff_of_nodup (dots_nodup _ _) ?_).mpr ?_)
  · exact List.pairwise_map.mpr ((dots_nodup M w).imp fun {p q} h e => h (by
      have := Prod.mk.inj e
      exact Prod.ext this.2 this.1))
  · rintro ⟨c, r⟩
    rw [mem_dots, tr_len]
    simp only [List.mem_map, Prod.mk.injEq]
    constructor
    · rintro ⟨h1, h2, h3⟩
      exact ⟨(r, c), mem_dots.mpr ⟨h2, h1, by rw [← cell_tr h h2 h1]; exact h3⟩, rfl, rfl⟩
    · rintro ⟨⟨a, b⟩, h1, h2, h3⟩
      simp only at h2 h3
      subst h2 h3
      obtain ⟨g1, g2, g3⟩ := mem_dots.mp h1
      exact ⟨g2, g1, by rw [cell_tr h g1 g2]; exact g3⟩
theorem wipeE_same {a b : List Slo} {vs : List Nat} (hl : a.length = b.length) (h : ∀ j, j ∉ vs → a[j]? = b[j]?) : wipeE a vs = wipeE b vs := by
  have len : (wipeE a vs).length = (wipeE b vs).length := by rw [wipeE_length, wipeE_length, hl]
  refine List.ext_getElem len fun j h1 h2 => ?_
  by_cases hj : j ∈ vs
  · rw [wipeE_in hj (List.getElem?_eq_getElem h1), wipeE_in hj (List.getElem?_eq_getElem h2)]
  · have e : (wipeE a vs)[j]? = (wipeE b vs)[j]? := by rw [wipeE_out hj, wipeE_out hj, h j hj]
    rw [List.getElem?_eq_getElem h1, List.getElem?_eq_getElem h2] at e
    exact Option.some.inj e
theorem wipeE_set {ε : List Slo} {vs : List Nat} {i : Nat} {e : Slo} (hi : i ∈ vs) : wipeE (ε.set i e) vs = wipeE ε vs :=
  wipeE_same (by simp) fun j hj => List.getElem?_set_ne (by rintro rfl; exact hj hi)
theorem wipeE_idem {ε : List Slo} {vs : List Nat} : wipeE (wipeE ε vs) vs = wipeE ε vs := wipeE_same (wipeE_length _ _) fun j hj => wipeE_out hj
/-- [te for x, y in wi] -/
theorem ev_mapP {K : PySem.W.Frag} {wi : TI} {te : TE} {x y : Nat} {ε ε1 : List Slo} {n : Nat} {it : Nat → D} (hi : EVI wi ε n it ε1) (a b f : Nat → D) (hn : n ≤ 100000) (ht : ∀ i, i < n → it i = .tup [a i, b i])
    (hs : ∀ i, i < n → EV te (((wipeE ε1 [x, y]).set x (.dat (a i))).set y (.dat (b i))) (f i) (((wipeE ε1 [x, y]).set x (.dat (a i))).set y (.dat (b i)))) :
    EV (tLc wi (gTup K 2 (gCons (gName x) (gCons (gName y) gNil))) tYes te [x, y]) ε (.lst ((List.range n).map f)) (wipeE ε1 [x, y]) := by
  have hw : ∀ d e, wipeE (((wipeE ε1 [x, y]).set x (.dat d)).set y (.dat e)) [x, y] = wipeE ε1 [x, y] := fun d e => by
    rw [wipeE_set (by simp), wipeE_set (by simp), wipeE_idem]
  refine ev_lc hi (fun _ => wipeE ε1 [x, y]) (fun i => (List.range i).map f) rfl rfl (fun i h => by simp; omega) fun i h => ?_
  refine ⟨_, true, _, ht i h ▸ evg_pair (by simp) (by simp), ⟨.refl _, fun B H σ Q k q => q B H (.refl k.sub) k⟩, fun _ => ⟨f i, _, hs i h, (hw _ _).symm, by rw [List.range_succ, List.map_append]; rfl⟩, fun z => nomatch z⟩
end Wd
/-! How long a repr is; three names at once; a def that makes a list. -/
namespace Wd
open PySem L2
structure Sho (n : Nat) (d : D) : Prop where
  sh : d.py.showable = true
  lf : d.py.leavesShort 8 = true
  wt : d.py.weight ≤ n
theorem Sho.mono {n m : Nat} {d : D} (h : Sho n d) (hn : n ≤ m) : Sho m d := ⟨h.sh, h.lf, Nat.le_trans h.wt hn⟩
theorem small_all : ∀ i : Fin 101, (PyData.int i.val).leavesShort 8 = true := by decide +kernel
theorem sho_int {i : Nat} (h : i ≤ 100) : Sho 8 (.int i) := by
  have hi : i < 101 := by omega
  refine ⟨?_, ?_, ?_⟩
  · have : i.log2 < 1920 := by
      by_cases z : i = 0
      · subst z; decide
      · exact (Nat.log2_lt z).mpr (Nat.lt_of_lt_of_le (show i < 2 ^ 7 by omega) (Nat.pow_le_pow_right (by decide) (by decide)))
    simp [D.py, PyData.showable, this]
  · simp only [D.py]
    exact small_all ⟨i, hi⟩
  · simp only [D.py, PyData.weight]
    split
    · omega
    · rename_i z
      have h1 : ((i : Int)).natAbs = i := rfl
      have h2 : i ≠ 0 := fun e => z (by subst e; rfl)
      rw [h1]
      have := (Nat.log2_lt (k := 7) h2).mpr (by omega)
      omega
theorem sho_bl {b : Bool} : Sho 0 (.bl b) := ⟨by simp [D.py, PyData.showable], by simp [D.py, PyData.leavesShort], by simp [D.py, PyData.weight]⟩
theorem sho_str {x : Str} {n : Nat} (h : PyData.strOk x = true) (hn : x.cps.size ≤ n) : Sho n (.str x) := by
  refine ⟨by simp [D.py, PyData.showable], ?_, by simpa [D.py, PyData.weight] using hn⟩
  simp only [D.py, PyData.leavesShort, List.all_eq_true, decide_eq_true_eq]
  intro c hc
  unfold PyData.strOk at h
  rw [Array.all_eq_true'] at h
  have := h c (by simpa using hc)
  simp at this
  omega
theorem sho_all {n : Nat} : ∀ {ds : List D}, (∀ d ∈ ds, Sho n d) → PyData.showableAll (D.pyA ds) = true ∧ PyData.leavesShortAll 8 (D.pyA ds) = true ∧ PyData.weightAll (D.pyA ds) ≤ ds.length * (n + 1)
  | [], _ => by simp [D.pyA, PyData.showableAll, PyData.leavesShortAll, PyData.weightAll]
  | d :: ds, h => by
    obtain ⟨a1, a2, a3⟩ := h d (by simp)
    obtain ⟨b1, b2, b3⟩ := sho_all (ds := ds) fun e he => h e (by simp [he])
    refine ⟨by simp [D.pyA, PyData.showableAll, a1, b1], by simp [D.pyA, PyData.leavesShortAll, a2, b2], ?_⟩
    simp only [D.pyA, PyData.weightAll, List.length_cons]
    have : (ds.length + 1) * (n + 1) = ds.length * (n + 1) + (n + 1) := Nat.add_mul _ _ _ |>.trans (by rw [Nat.one_mul])
    omega
theorem sho_tup {n m : Nat} {ds : List D} (h : ∀ d ∈ ds, Sho n d) (hm : ds.length * (n + 1) ≤ m) : Sho m (.tup ds) := by
  obtain ⟨a, b, c⟩ := sho_all h
  exact ⟨by simpa [D.py, PyData.showable] using a, by simpa [D.py, PyData.leavesShort] using b, by simp only [D.py, PyData.weight]; omega⟩
theorem sho_lst {n m : Nat} {ds : List D} (h : ∀ d ∈ ds, Sho n d) (hm : ds.length * (n + 1) ≤ m) : Sho m (.lst ds) := by
  obtain ⟨a, b, c⟩ := sho_all h
  exact ⟨by simpa [D.py, PyData.showable] using a, by simpa [D.py, PyData.leavesShort] using b, by simp only [D.py, PyData.weight]; omega⟩
theorem Sho.len {n : Nat} {d : D} (h : Sho n d) (hn : n ≤ 100000) : d.py.shown.length ≤ sizeLine := by
  have := PyData.shown_le 8 (by decide) d.py h.lf
  have w := h.wt
  exact Nat.le_trans (show _ ≤ 10 * 100000 + 8 by omega) (by decide)

section
variable {F : Frm} {ε ε1 : List Slo} {ta : TA} {E : Ends} {i j l : Nat} {ds ms : List D} {d d1 d2 d3 : D}
theorem nx_par3 (h : EVA ta ε [d1, d2, d3] ε1) (n : NX F (((ε1.set i (.dat d1)).set j (.dat d2)).set l (.dat d3)) E.nx) (hi : i ≠ 0 ∨ F.pin = none := by first | exact .inl (by decide) | exact .inr rfl) (hj : j ≠ 0 ∨ F.pin = none := by first | exact .inl (by decide) | exact .inr rfl)
    (hl : l ≠ 0 ∨ F.pin = none := by first | exact .inl (by decide) | exact .inr rfl) : NX F ε (tPar3 i j l ta E) := fun σ H ⟨B, k, s, m, p⟩ =>
  h.run B H σ _ k fun vs B1 H1 s1 k1 i1 => by
    cases i1 with
    | cons h1 hx =>
      cases hx with
      | cons h2 hx =>
        cases hx with
        | cons h3 hx =>
          cases hx
          refine ⟨_, _, _, rfl, n _ H1 ⟨B1, ((k1.set_dat h1).set_dat h2).set_dat h3, s.trans s1 m, fun a q => m a (h.keeps.mu q.of_set.of_set.of_set), fun q hq => ?_⟩⟩
          have p1 := p q hq
          have nn : F.pin ≠ none := by rw [hq]; simp
          rw [List.getElem?_set_ne (hl.resolve_right nn), List.getElem?_set_ne (hj.resolve_right nn), List.getElem?_set_ne (hi.resolve_right nn)]
          exact p1
/-- a, b, c = e -/
theorem nx_tup3 {K : PySem.W.Frag} {te : TE} (h : EV te ε (.tup [d1, d2, d3]) ε1) (n : NX F (((ε1.set i (.dat d1)).set j (.dat d2)).set l (.dat d3)) E.nx) (hi : i ≠ 0 ∨ F.pin = none := by first | exact .inl (by decide) | exact .inr rfl) (hj : j ≠ 0 ∨ F.pin = none := by first | exact .inl (by decide) | exact .inr rfl)
    (hl : l ≠ 0 ∨ F.pin = none := by first | exact .inl (by decide) | exact .inr rfl) : NX F ε (tAsg te (gTup K 3 (gCons (gName i) (gCons (gName j) (gCons (gName l) gNil)))) E) := fun σ H ⟨B, k, s, m, p⟩ =>
  h.run B H σ _ k fun v B1 H1 s1 k1 i1 => by
    cases i1 with
    | tup ha hx =>
      cases hx with
      | cons h1 hx =>
        cases hx with
        | cons h2 hx =>
          cases hx with
          | cons h3 hx =>
            cases hx
            refine ⟨_, _, rfl, .of (k1.sub _ _ ha), rfl, _, _, rfl, _, _, rfl, _, _, rfl, rfl, n _ H1 ⟨B1, ((k1.set_dat h1).set_dat h2).set_dat h3, s.trans s1 m, fun a q => m a (h.keeps.mu q.of_set.of_set.of_set), fun q hq => ?_⟩⟩
            have p1 := p q hq
            have nn : F.pin ≠ none := by rw [hq]; simp
            rw [List.getElem?_set_ne (hl.resolve_right nn), List.getElem?_set_ne (hj.resolve_right nn), List.getElem?_set_ne (hi.resolve_right nn)]
            exact p1
/-- a def that makes a new list, which its caller may change -/
def spN (R : List D → List D → Prop) : Sp := fun vs H Q _ => ∃ B ds ms, Same B H ∧ IsA B vs ds ∧ R ds ms ∧ ∀ p ws B' H', Stp0 B H B' H' → H p = none → B' p = none → H' p = some (.lst ws) → IsA B' ws ms → Q (.ref p) H'
theorem ev_callN {R' : List D → List D → Prop} {R : List D → List D → D → List D → Prop} {XE XE' : XK} {ms' : List D} (h : EVA ta ε ds ε1) (r' : R' ds ms) (r : R ms [] d ms') :
    EV (tCall (spM R) [] XE (tCons (tCall (spN R') [] XE' ta) tNil)) ε d ε1 := ⟨h.keeps, fun B H σ Q k q => h.run B H σ _ k fun vs B1 H1 s1 k1 i1 =>
  ⟨B1, ds, ms, k1.sub, by rw [List.append_nil]; exact i1, r', fun p ws B2 H2 s2 hp b2 h2 w2 =>
    ⟨B2, p, ws, ms, [], [], d, ms', by rfl, s2.inn, b2, h2, w2, .nil, r, fun v B3 H3 ws' s3 b3 h3 w3 i3 => by
      have s4 : Stp0 B1 H1 B3 H3 := s2.trans s3 fun a e => .inr (by rw [e]; exact hp)
      exact q v B3 H3 (s1.trans0 s4) (k1.step0 s4) i3⟩⟩⟩
end
/-- the return of a new list is good -/
def RTN (F : Frm) (ε : List Slo) (ms : List D) (rt : VK) : Prop := ∀ (σ : L2.St) (B H : Hp) (l : Addr) (ws : List V), Knw B H σ ε → Stp F.S F.B F.H B H → H l = none → IsA B ws ms → rt (.ref l) (upd H l (.lst ws))
theorem nx_retN {F : Frm} {ε ε1 : List Slo} {ta : TA} {E : Ends} {ds : List D} (h : EVA ta ε ds ε1) (hl : ds.length ≤ 1000) (r : RTN F ε1 ds E.rt) : NX F ε (tRet (tLst ta) E) := fun σ H ⟨B, k, s, m, p⟩ =>
  h.run B H σ _ k fun vs B1 H1 s1 k1 i1 => ⟨by rw [i1.length]; exact Nat.le_trans hl (by decide), fun x hx => r σ B1 H1 x vs k1 (s.trans s1 m) hx i1⟩
theorem body_N {Nm : List Str} {t : TS} {vs : List V} {H : Hp} {Q : VK} {XE : XK} {nx : L2.St → Hp → Prop} {R : List D → List D → Prop} (h : spN R vs H Q XE)
    (rd : ∀ (ds ms : List D) (B : Hp), R ds ms → (∀ ε, RTN (F0 B H) ε ms Q) → NX (F0 B H) (startE Nm.length ds) (t { nx := nx, rt := Q })) : t { nx := nx, rt := Q } (L2.start Nm vs) H := by
  obtain ⟨B, ds, ms, s, i, r, k⟩ := h
  refine rd ds ms B r (fun ε σ B1 H1 l ws k1 s1 hl i1 => ?_) _ H ⟨B, startE_knw s i, .refl s, fun a m => (startE_mu m).elim, fun p z => nomatch z⟩
  have h0 : H l = none := by
    cases z : H l with
    | none => rfl
    | some o => exact absurd hl (s1.kp l (show H l ≠ none by rw [z]; simp))
  exact k l ws B1 _ (s1.trans0 (.apart k1.sub hl)) h0 (free_of k1.sub hl) upd_same i1
end Wd
namespace Wd
open PySem L2
/-! ### a list that nobody changes -/
theorem rn_lenC {K : PySem.W.Frag} {ds : List D} : RDn (rLen K) [.scr ds] (.int ds.length) := fun B H vs Q s h q => by
  cases h with
  | cons h1 h2 =>
    cases h2
    cases h1 with
    | scr ha hx => exact ⟨_, ds.length, rfl, .inl ⟨_, .inl (.inr ⟨_, s _ _ ha⟩), hx.length.symm⟩, q _ B H (.refl s) (.int _)⟩
theorem rd_ixC {K : PySem.W.Frag} {ds : List D} {i : Int} {d : D} (h : atI ds i = some d) : RD2 (rIx K) (.scr ds) (.int i) d := fun B H v u Q s h1 h2 q => by
  cases h2
  cases h1 with
  | scr ha hx =>
    rename_i a xs o
    have hl := hx.length
    unfold atI at h
    rw [← hl] at h
    cases e : ixN xs.length i with
    | none => rw [e] at h; cases h
    | some j =>
      rw [e] at h
      obtain ⟨w, hw, hd⟩ := hx.at (i := j) h
      exact .inl ⟨a, xs, i, w, rfl, rfl, .inl (.inr ⟨_, s _ _ ha⟩), by unfold atI; rw [e]; exact hw, q _ B H (.refl s) hd⟩
end Wd
namespace W01
open PySem L2 Wd
def top (i : Nat) : Stmt := PySem.Challenge.pw_wiresindark_k01_boards.main.body.getD i (.Pass ⟨0, 0, 0, 0⟩)
/-- a def as callers know it -/
structure Cal (P : Program) (w : World) (K : PySem.W.Frag) (mg : Str → Option Value) (base : Heap) (k : Nat) (x : Str) (f : Addr) (fd : FuncData) (ps : List Str) (sp : Sp) : Prop where
  ok : FnOk P w K mg base CX0 k f fd ps sp
  mgx : mg x = some (.ref f)
  kp : PySem.W.keepIn K (.ref f) = true
  bd : Binds K fd ps []
/-- what the walk asks of the text's top -/
structure Txt (K : PySem.W.Frag) (mg : Str → Option Value) (cB : Addr) : Prop where
  b_isinstance : mg "isinstance" = none
  b_int : mg "int" = none
  b_bool : mg "bool" = none
  b_tuple : mg "tuple" = none
  b_str : mg "str" = none
  b_len : mg "len" = none
  b_all : mg "all" = none
  b_range : mg "range" = none
  g_DOT : ∃ t, mg "DOT" = some (.str "o" t)
  g_NO_DOT : ∃ t, mg "NO_DOT" = some (.str "." t)
  g_LONGEST : ∃ t, mg "LONGEST" = some (.int 10 t)
  cls : ClsK K cB
  kInt : PySem.W.kitOne K (.ref cB) (.type "int") = some false
  kBool : PySem.W.kitOne K (.ref cB) (.type "bool") = some false
  kTup : PySem.W.kitOne K (.ref cB) (.type "tuple") = some false
  kStr : PySem.W.kitOne K (.ref cB) (.type "str") = some false
section
variable {P : Program} {w : World} {K : PySem.W.Frag} {mg : Str → Option Value} {base : Heap} {cB : Addr}
def D.isI : D → Bool
  | .int _ => true
  | _ => false
def D.isP : D → Bool
  | .tup [_, _] => true
  | _ => false
def D.isIP : D → Bool
  | .tup [a, b] => D.isI a && D.isI b
  | _ => false
theorem len_R {R : List D → D → Prop} {n : Nat} (hn : ∀ ds d, R ds d → ds.length = n) {vs : List V} {H : Hp} {Q : VK} {E : XK} (h : spR R vs H Q E) : vs.length = n := by
  obtain ⟨B, ds, d, _, i, r, _⟩ := h
  rw [i.length]
  exact hn ds d r
/-- only the text's own class among objects -/
def OnlyB (cB : Addr) (x : D) : Prop := ∀ C gs, x = .obj C gs → C = cB
theorem isi_ev (T : Txt K mg cB) {x : D} (hx : OnlyB cB x) : ∀ C gs, x = .obj C gs → ClsK K C := fun C gs e => by rw [hx C gs e]; exact T.cls

abbrev s_is_integer : Stmt := top 4
theorem sc_is_integer : FnScope ["value"] ["value"] (defScope s_is_integer) := ⟨rfl, rfl, rfl, by decide +kernel, rfl, by decide +kernel, by decide +kernel⟩
def R_is_integer (cB : Addr) : List D → D → Prop := fun ds d => ∃ x, ds = [x] ∧ OnlyB cB x ∧ d = .bl (D.isI x)
def D.kInt : D → Bool
  | .int _ => true
  | .bl _ => true
  | _ => false
theorem kit_int (T : Txt K mg cB) {x : D} (hx : OnlyB cB x) : PySem.W.kitOne K x.ty (.type "int") = some (D.kInt x) := by
  cases x with
  | obj C gs => have e := hx C gs rfl; subst e; exact T.kInt
  | _ => exact kit_ty (show kitB _ "int" = some _ by simp only [D.kInt]; decide +kernel)
def D.kBool : D → Bool
  | .bl _ => true
  | _ => false
theorem kit_bool (T : Txt K mg cB) {x : D} (hx : OnlyB cB x) : PySem.W.kitOne K x.ty (.type "bool") = some (D.kBool x) := by
  cases x with
  | obj C gs => have e := hx C gs rfl; subst e; exact T.kBool
  | _ => exact kit_ty (show kitB _ "bool" = some _ by simp only [D.kBool]; decide +kernel)
def D.kTup : D → Bool
  | .tup _ => true
  | _ => false
theorem kit_tuple (T : Txt K mg cB) {x : D} (hx : OnlyB cB x) : PySem.W.kitOne K x.ty (.type "tuple") = some (D.kTup x) := by
  cases x with
  | obj C gs => have e := hx C gs rfl; subst e; exact T.kTup
  | _ => exact kit_ty (show kitB _ "tuple" = some _ by simp only [D.kTup]; decide +kernel)
def D.kStr : D → Bool
  | .str _ => true
  | _ => false
theorem kit_str (T : Txt K mg cB) {x : D} (hx : OnlyB cB x) : PySem.W.kitOne K x.ty (.type "str") = some (D.kStr x) := by
  cases x with
  | obj C gs => have e := hx C gs rfl; subst e; exact T.kStr
  | _ => exact kit_ty (show kitB _ "str" = some _ by simp only [D.kStr]; decide +kernel)
theorem ok_is_integer {f : Addr} {fd : FuncData} (F : Fun K "is_integer" "is_integer" s_is_integer f fd) (T : Txt K mg cB) : FnOk P w K mg base CX0 1 f fd ["value"] (spR (R_is_integer cB)) := by
  refine F.ok sc_is_integer (fun vs H Q E h => len_R (fun ds d ⟨x, e, _⟩ => by rw [e]; rfl) h) (fun cdv A outer s H vs Q E hr h => ?_)
  have nd := sc_is_integer.nd
  refine ⟨_, (pss_one (ps_ret (pe_and (pe_callB (k_isi (K := K) rfl) (by rfl) T.b_isinstance (by decide +kernel) (pa_cons (pv 0) (pa_cons (pe_bltn (v := .ty "int") (by rfl) T.b_int (by decide +kernel) rfl) pa_nil))) (pe_one (pe_not (pe_callB (k_isi (K := K) rfl) (by rfl) T.b_isinstance (by decide +kernel) (pa_cons (pv 0) (pa_cons (pe_bltn (v := .ty "bool") (by rfl) T.b_bool (by decide +kernel) rfl) pa_nil)))))))), ?_⟩
  refine body_R h fun ds d B r rt => ?_
  obtain ⟨x, rfl, hx, rfl⟩ := r
  refine nx_ret (EV.as (ev_and0 (ev_isi (.ty _) (ev_var rfl) (isi_ev T hx) (kit_int T hx)) fun _ => ev_not (ev_isi (.ty _) (ev_var rfl) (isi_ev T hx) (kit_bool T hx))) ?_) (rt _)
  cases x <;> rfl

abbrev s_is_pair : Stmt := top 5
theorem sc_is_pair : FnScope ["value"] ["value"] (defScope s_is_pair) := ⟨rfl, rfl, rfl, by decide +kernel, rfl, by decide +kernel, by decide +kernel⟩
def R_is_pair (cB : Addr) : List D → D → Prop := fun ds d => ∃ x, ds = [x] ∧ OnlyB cB x ∧ d = .bl (D.isP x)
theorem ok_is_pair {f : Addr} {fd : FuncData} (F : Fun K "is_pair" "is_pair" s_is_pair f fd) (T : Txt K mg cB) : FnOk P w K mg base CX0 1 f fd ["value"] (spR (R_is_pair cB)) := by
  refine F.ok sc_is_pair (fun vs H Q E h => len_R (fun ds d ⟨x, e, _⟩ => by rw [e]; rfl) h) (fun cdv A outer s H vs Q E hr h => ?_)
  have nd := sc_is_pair.nd
  refine ⟨_, (pss_one (ps_ret (pe_and (pe_callB (k_isi (K := K) rfl) (by rfl) T.b_isinstance (by decide +kernel) (pa_cons (pv 0) (pa_cons (pe_bltn (v := .ty "tuple") (by rfl) T.b_tuple (by decide +kernel) rfl) pa_nil))) (pe_one (pe_cmpR (k_eqU (K := K) rfl hr.units) (pe_callB (k_len (K := K) rfl) (by rfl) T.b_len (by decide +kernel) (pa_cons (pv 0) pa_nil)) pe_int (nomark _)))))), ?_⟩
  refine body_R h fun ds d B r rt => ?_
  obtain ⟨x, rfl, hx, rfl⟩ := r
  have h1 := ev_isi (ε := startE 1 [x]) (K := K) (te := tVar 0) (.ty "tuple") (ev_var rfl) (isi_ev T hx) (kit_tuple T hx)
  cases x with
  | tup ds =>
    refine nx_ret (EV.as (ev_and0 h1 fun _ => ev_op (ev_tcb (eva_one (ev_var rfl)) rn_lenT) ev_int ru_eqI) ?_) (rt _)
    match ds with
    | [] => rfl
    | [_] => rfl
    | [_, _] => rfl
    | _ :: _ :: _ :: r =>
      have e : decide (((r.length + 1 + 1 + 1 : Nat) : Int) = 2) = false := decide_eq_false (by omega)
      show D.bl (true && decide (((r.length + 1 + 1 + 1 : Nat) : Int) = 2)) = D.bl false
      rw [e]
      rfl
  | _ => exact nx_ret (ev_and h1 (fun z => nomatch z) fun _ => ⟨rfl, rfl⟩) (rt _)

abbrev s_is_integer_pair : Stmt := top 6
theorem sc_is_integer_pair : FnScope ["value"] ["value"] (defScope s_is_integer_pair) := ⟨rfl, rfl, rfl, by decide +kernel, rfl, by decide +kernel, by decide +kernel⟩
/-- no other class within, two deep -/
def Only2 (cB : Addr) (x : D) : Prop := OnlyB cB x ∧ ∀ ds, x = .tup ds → ∀ d ∈ ds, OnlyB cB d
def R_is_integer_pair (cB : Addr) : List D → D → Prop := fun ds d => ∃ x, ds = [x] ∧ Only2 cB x ∧ d = .bl (D.isIP x)
theorem ok_is_integer_pair {f f1 f2 : Addr} {fd fd1 fd2 : FuncData} (F : Fun K "is_integer_pair" "is_integer_pair" s_is_integer_pair f fd) (T : Txt K mg cB)
    (C_is_pair : Cal P w K mg base 1 "is_pair" f1 fd1 ["value"] (spR (R_is_pair cB))) (C_is_integer : Cal P w K mg base 1 "is_integer" f2 fd2 ["value"] (spR (R_is_integer cB))) :
    FnOk P w K mg base CX0 2 f fd ["value"] (spR (R_is_integer_pair cB)) := by
  refine F.ok sc_is_integer_pair (fun vs H Q E h => len_R (fun ds d ⟨x, e, _⟩ => by rw [e]; rfl) h) (fun cdv A outer s H vs Q E hr h => ?_)
  have nd := sc_is_integer_pair.nd
  refine ⟨_, (pss_one (ps_ret (pe_and (pe_call C_is_pair.ok (hr.mono (by decide)) rfl C_is_pair.mgx C_is_pair.kp C_is_pair.bd .nil pass0 (pa_cons (pv 0) pa_nil)) (pe_and (pe_call C_is_integer.ok (hr.mono (by decide)) rfl C_is_integer.mgx C_is_integer.kp C_is_integer.bd .nil pass0 (pa_cons (pe_ix (k_ix (K := K) rfl) (pv 0) pe_int (fun _ _ => rfl)) pa_nil)) (pe_one (pe_call C_is_integer.ok (hr.mono (by decide)) rfl C_is_integer.mgx C_is_integer.kp C_is_integer.bd .nil pass0 (pa_cons (pe_ix (k_ix (K := K) rfl) (pv 0) pe_int (fun _ _ => rfl)) pa_nil))))))), ?_⟩
  refine body_R h fun ds d B r rt => ?_
  obtain ⟨x, rfl, hx, rfl⟩ := r
  have h1 := ev_call (ε := startE 1 [x]) (XE := E0) (eva_one (ta := tVar 0) (ev_var (d := x) rfl)) (R := R_is_pair cB) ⟨x, rfl, hx.1, rfl⟩
  by_cases hp : D.isP x = true
  · match x, hp with
    | .tup [a, b], _ =>
      have ha := hx.2 _ rfl a (by simp)
      have hb := hx.2 _ rfl b (by simp)
      refine nx_ret (EV.as (ev_and0 h1 fun _ => ev_and0 (ev_call (eva_one (ev_op (ev_var rfl) ev_int (rd_ixT rfl))) ⟨a, rfl, ha, rfl⟩) fun _ => ev_call (eva_one (ev_op (ev_var rfl) ev_int (rd_ixT rfl))) ⟨b, rfl, hb, rfl⟩) ?_) (rt _)
      cases a <;> cases b <;> rfl
  · have hp' : D.isP x = false := by simpa using hp
    have hz : D.isIP x = false := by
      match x, hp' with
      | .non, _ => rfl
      | .bl _, _ => rfl
      | .int _, _ => rfl
      | .str _, _ => rfl
      | .lst _, _ => rfl
      | .dic _, _ => rfl
      | .scr _, _ => rfl
      | .obj _ _, _ => rfl
      | .tup [], _ => rfl
      | .tup [_], _ => rfl
      | .tup (_ :: _ :: _ :: _), _ => rfl
    rw [hz] at rt
    rw [hp'] at h1
    exact nx_ret (ev_and h1 (fun z => nomatch z) fun _ => ⟨rfl, rfl⟩) (rt _)
end
end W01
namespace W01
open PySem L2 Wd
section
variable {P : Program} {w : World} {K : PySem.W.Frag} {mg : Str → Option Value} {base : Heap} {cB : Addr}
theorem onlyB_str (x : Str) : OnlyB cB (.str x) := fun _ _ e => nomatch e
theorem onlyB_tup (x : List D) : OnlyB cB (.tup x) := fun _ _ e => nomatch e

abbrev s_is_row : Stmt := top 11
theorem sc_is_row : FnScope ["value", "sign"] ["value"] (defScope s_is_row) := ⟨rfl, rfl, rfl, by decide +kernel, rfl, by decide +kernel, by decide +kernel⟩
def R_is_row : List D → D → Prop := fun ds d => ∃ bs : List Bool, ds = [rowD bs] ∧ 1 ≤ bs.length ∧ bs.length ≤ 10 ∧ d = .bl true
theorem ok_is_row {f : Addr} {fd : FuncData} (F : Fun K "_is_row" "_is_row" s_is_row f fd) (T : Txt K mg cB) : FnOk P w K mg base CX0 1 f fd ["value"] (spR R_is_row) := by
  refine F.ok sc_is_row (fun vs H Q E h => len_R (fun ds d ⟨x, e, _⟩ => by rw [e]; rfl) h) (fun cdv A outer s H vs Q E hr h => ?_)
  have nd := sc_is_row.nd
  refine ⟨_, (pss_cons (ps_if (PW.pt (pw_or (pt_not (pt_val (pe_callB (k_isi (K := K) rfl) (by rfl) T.b_isinstance (by decide +kernel) (pa_cons (pv 0) (pa_cons (pe_bltn (v := .ty "str") (by rfl) T.b_str (by decide +kernel) rfl) pa_nil))))) (pw_or1 (pt_not (pt_chain op_le op_le pe_int (pe_callB (k_len (K := K) rfl) (by rfl) T.b_len (by decide +kernel) (pa_cons (pv 0) pa_nil)) (pe_glob (v := .int 10) rfl T.g_LONGEST.choose_spec ⟨_, rfl⟩)))))) (pss_one (ps_ret pe_bl)) pss_nil)
      (pss_one (ps_ret (pe_callB (k_all (K := K) rfl rfl) (by rfl) T.b_all (by decide +kernel) (pa_cons (pe_lc (own := [("sign", 1)]) (g := (gName 1)) rfl nd (pi_str (pv 0)) (blkOk_by (own := [("sign", 1)]) (by kernel_rfl)) (fun _ _ _ _ _ => (pg_name (i := 1) nd rfl (by first | exact Or.inl rfl | exact Or.inr rfl))) (fun _ _ _ _ _ => pts_nil) (fun _ _ _ _ _ => (pe_cmpR (k_inU (K := K) rfl (hr65 hr)) (pv 1) (pe_tup (pa_cons (pe_glob (v := .str "o") rfl T.g_DOT.choose_spec ⟨_, rfl⟩) (pa_cons (pe_glob (v := .str ".") rfl T.g_NO_DOT.choose_spec ⟨_, rfl⟩) pa_nil))) (by rfl)))) pa_nil))))), ?_⟩
  refine body_R h fun ds d B r rt => ?_
  obtain ⟨bs, rfl, h1, h2, rfl⟩ := r
  have hl := encRow_len bs
  refine nx_seq (nx_if (b := false) (EVT.as (evt_or0 (evt_not (evt_B (ev_isi (.ty _) (ev_var rfl) (isi_ev T (onlyB_str _)) (kit_str T (onlyB_str _))))) fun _ => evt_not (evt_test (ev_chain ev_int (ev_tcb (eva_one (ev_var rfl)) (rn_lenS (by omega))) rd_le (fun _ => ev_int) fun _ => rd_le))) ?_) (fun z => nomatch z) fun _ => nx_next ?_)
  · rw [hl, decide_eq_true (show (1 : Int) ≤ (bs.length : Int) by omega), decide_eq_true (show (bs.length : Int) ≤ 10 by omega)]
    rfl
  · refine nx_ret (ev_allT (ev_map (evi_str (ev_var rfl)) (fun _ => .bl true) (by rw [encRow_size]; omega) fun i hi => ?_) fun _ _ => rfl) (rt _)
    rw [encRow_size] at hi
    rw [encRow_at bs hi]
    refine EV.as (ev_op (ev_var rfl) (ev_tup (eva_cons ev_str (eva_one ev_str)) (by decide)) (ru_inT (PlN.to (pln_str (n := 0) (sign_ok ?_))) (PlN.to (n := 1) (pln_tup ?_)))) ?_
    · cases bs.getD i false <;> decide
    · intro d hd
      simp only [List.mem_cons, List.not_mem_nil, or_false] at hd
      rcases hd with rfl | rfl <;> exact pln_str (by decide +kernel)
    · cases bs.getD i false <;> exact congrArg D.bl (by decide +kernel)

abbrev s_are_rows : Stmt := top 12
theorem sc_are_rows : FnScope ["value", "row"] ["value"] (defScope s_are_rows) := ⟨rfl, rfl, rfl, by decide +kernel, rfl, by decide +kernel, by decide +kernel⟩
def R_are_rows : List D → D → Prop := fun ds d => ∃ M w, Sh M w ∧ ds = [rowsD M] ∧ d = .bl true
theorem rows_at {M : List (List Bool)} {i : Nat} (h : i < M.length) : (M.map rowD).getD i .non = rowD M[i] := by
  simp [List.getD_eq_getElem?_getD, h]
theorem atI_rows {M : List (List Bool)} {i : Nat} (h : i < M.length) : atI (M.map rowD) (i : Int) = some (rowD M[i]) := by
  rw [atI_nat]
  simp [h]
theorem ok_are_rows {f f1 : Addr} {fd fd1 : FuncData} (F : Fun K "_are_rows" "_are_rows" s_are_rows f fd) (T : Txt K mg cB) (C__is_row : Cal P w K mg base 1 "_is_row" f1 fd1 ["value"] (spR R_is_row)) :
    FnOk P w K mg base CX0 2 f fd ["value"] (spR R_are_rows) := by
  refine F.ok sc_are_rows (fun vs H Q E h => len_R (fun ds d ⟨M, wd, _, e, _⟩ => by rw [e]; rfl) h) (fun cdv A outer s H vs Q E hr h => ?_)
  have nd := sc_are_rows.nd
  refine ⟨_, (pss_cons (ps_if (PW.pt (pw_or (pt_not (pt_val (pe_callB (k_isi (K := K) rfl) (by rfl) T.b_isinstance (by decide +kernel) (pa_cons (pv 0) (pa_cons (pe_bltn (v := .ty "tuple") (by rfl) T.b_tuple (by decide +kernel) rfl) pa_nil))))) (pw_or1 (pt_not (pt_chain op_le op_le pe_int (pe_callB (k_len (K := K) rfl) (by rfl) T.b_len (by decide +kernel) (pa_cons (pv 0) pa_nil)) (pe_glob (v := .int 10) rfl T.g_LONGEST.choose_spec ⟨_, rfl⟩)))))) (pss_one (ps_ret pe_bl)) pss_nil)
      (pss_one (ps_ret (pe_and (pe_callB (k_all (K := K) rfl rfl) (by rfl) T.b_all (by decide +kernel) (pa_cons (pe_lc (own := [("row", 1)]) (g := (gName 1)) rfl nd (k_pit (K := K) rfl (pv 0)) (blkOk_by (own := [("row", 1)]) (by kernel_rfl)) (fun _ _ _ _ _ => (pg_name (i := 1) nd rfl (by first | exact Or.inl rfl | exact Or.inr rfl))) (fun _ _ _ _ _ => pts_nil) (fun _ _ _ _ _ => (pe_call C__is_row.ok (hr.mono (by decide)) rfl C__is_row.mgx C__is_row.kp C__is_row.bd .nil pass0 (pa_cons (pv 1) pa_nil)))) pa_nil)) (pe_one (pe_callB (k_all (K := K) rfl rfl) (by rfl) T.b_all (by decide +kernel) (pa_cons (pe_lc (own := [("row", 1)]) (g := (gName 1)) rfl nd (k_pit (K := K) rfl (pv 0)) (blkOk_by (own := [("row", 1)]) (by kernel_rfl)) (fun _ _ _ _ _ => (pg_name (i := 1) nd rfl (by first | exact Or.inl rfl | exact Or.inr rfl))) (fun _ _ _ _ _ => pts_nil) (fun _ _ _ _ _ => (pe_cmpR (k_eqU (K := K) rfl hr.units) (pe_callB (k_len (K := K) rfl) (by rfl) T.b_len (by decide +kernel) (pa_cons (pv 1) pa_nil)) (pe_callB (k_len (K := K) rfl) (by rfl) T.b_len (by decide +kernel) (pa_cons (pe_ix (k_ix (K := K) rfl) (pv 0) pe_int (fun _ _ => rfl)) pa_nil)) (nomark _)))) pa_nil))))))), ?_⟩
  refine body_R h fun ds d B r rt => ?_
  obtain ⟨M, wd, sh, rfl, rfl⟩ := r
  have h0 := sh.h0
  have h1 := sh.h1
  refine nx_seq (nx_if (b := false) (EVT.as (evt_or0 (evt_not (evt_B (ev_isi (.ty _) (ev_var rfl) (isi_ev T (onlyB_tup _)) (kit_tuple T (onlyB_tup _))))) fun _ => evt_not (evt_test (ev_chain ev_int (ev_tcb (eva_one (ev_var rfl)) rn_lenT) rd_le (fun _ => ev_int) fun _ => rd_le))) ?_) (fun z => nomatch z) fun _ => nx_next ?_)
  · rw [List.length_map, decide_eq_true (show (1 : Int) ≤ (M.length : Int) by omega), decide_eq_true (show (M.length : Int) ≤ 10 by omega)]
    rfl
  · refine nx_ret (ev_and0 (b := true) (c := true) (ev_allT (ev_map (evi_tup (ev_var rfl)) (fun _ => .bl true) (by rw [List.length_map]; omega) fun i hi => ?_) fun _ _ => rfl) fun _ => ev_allT (ev_map (evi_tup (ev_var rfl)) (fun _ => .bl true) (by rw [List.length_map]; omega) fun i hi => ?_) fun _ _ => rfl) (rt _)
    · rw [List.length_map] at hi
      have hw := sh.ln _ (List.getElem_mem hi)
      have w0 := sh.w0
      have w1 := sh.w1
      exact ev_call (eva_one (ev_var rfl)) ⟨M[i], by rw [rows_at hi], by omega, by omega, rfl⟩
    · rw [List.length_map] at hi
      have hw := sh.ln _ (List.getElem_mem hi)
      have hw0 := sh.ln _ (List.getElem_mem (show 0 < M.length by omega))
      have w1 := sh.w1
      refine EV.as (ev_op (ev_tcb (eva_one (EV.as (ev_var rfl) (rows_at hi))) (rn_lenS (by rw [encRow_len]; omega))) (ev_tcb (eva_one (ev_op (ev_var rfl) ev_int (rd_ixT (atI_rows (i := 0) (by omega))))) (rn_lenS (by rw [encRow_len]; omega))) ru_eqI) ?_
      rw [encRow_len, encRow_len, hw, hw0]
      simp

abbrev s_none_is_empty : Stmt := top 14
theorem sc_none_is_empty : FnScope ["rows", "row"] ["rows"] (defScope s_none_is_empty) := ⟨rfl, rfl, rfl, by decide +kernel, rfl, by decide +kernel, by decide +kernel⟩
def R_none_is_empty : List D → D → Prop := fun ds d => ∃ M, Hit M ∧ M.length ≤ 10 ∧ ds = [rowsD M] ∧ d = .bl true
theorem ok_none_is_empty {f : Addr} {fd : FuncData} (F : Fun K "_none_is_empty" "_none_is_empty" s_none_is_empty f fd) (T : Txt K mg cB) : FnOk P w K mg base CX0 1 f fd ["rows"] (spR R_none_is_empty) := by
  refine F.ok sc_none_is_empty (fun vs H Q E h => len_R (fun ds d ⟨M, _, _, e, _⟩ => by rw [e]; rfl) h) (fun cdv A outer s H vs Q E hr h => ?_)
  have nd := sc_none_is_empty.nd
  refine ⟨_, (pss_one (ps_ret (pe_callB (k_all (K := K) rfl rfl) (by rfl) T.b_all (by decide +kernel) (pa_cons (pe_lc (own := [("row", 1)]) (g := (gName 1)) rfl nd (k_pit (K := K) rfl (pv 0)) (blkOk_by (own := [("row", 1)]) (by kernel_rfl)) (fun _ _ _ _ _ => (pg_name (i := 1) nd rfl (by first | exact Or.inl rfl | exact Or.inr rfl))) (fun _ _ _ _ _ => pts_nil) (fun _ _ _ _ _ => (pe_cmpR (k_inU (K := K) rfl (hr65 hr)) (pe_glob (v := .str "o") rfl T.g_DOT.choose_spec ⟨_, rfl⟩) (pv 1) (by rfl)))) pa_nil)))), ?_⟩
  refine body_R h fun ds d B r rt => ?_
  obtain ⟨M, hit, hl, rfl, rfl⟩ := r
  refine nx_ret (ev_allT (ev_map (evi_tup (ev_var rfl)) (fun _ => .bl true) (by rw [List.length_map]; omega) fun i hi => ?_) fun _ _ => rfl) (rt _)
  rw [List.length_map] at hi
  refine EV.as (ev_op ev_str (EV.as (ev_var rfl) (rows_at hi)) (ru_inS (c := 111))) ?_
  have h1 := hit _ (List.getElem_mem hi)
  have h2 : 111 ∈ (encRow M[i]).cps.toList := by
    show 111 ∈ ((M[i].map Wd.code).toArray).toList
    simp only [List.mem_map]
    exact ⟨true, h1, rfl⟩
  rw [decide_eq_true h2]

abbrev s_turned : Stmt := top 13
theorem sc_turned : FnScope ["rows", "column", "row"] ["rows"] (defScope s_turned) := ⟨rfl, rfl, rfl, by decide +kernel, rfl, by decide +kernel, by decide +kernel⟩
def R_turned : List D → D → Prop := fun ds d => ∃ M w, Sh M w ∧ ds = [rowsD M] ∧ d = rowsD (tr M w)
theorem row_atI {bs : List Bool} {i : Nat} (h : i < bs.length) : atI (encRow bs).cps.toList (i : Int) = some (Wd.code (bs.getD i false)) := by
  rw [atI_nat]
  · show ((bs.map Wd.code).toArray.toList)[i]? = _
    simp [h]
theorem ok_turned {f : Addr} {fd : FuncData} (F : Fun K "_turned" "_turned" s_turned f fd) (T : Txt K mg cB) : FnOk P w K mg base CX0 1 f fd ["rows"] (spR R_turned) := by
  refine F.ok sc_turned (fun vs H Q E h => len_R (fun ds d ⟨M, wd, _, e, _⟩ => by rw [e]; rfl) h) (fun cdv A outer s H vs Q E hr h => ?_)
  have nd := sc_turned.nd
  refine ⟨_, (pss_one (ps_ret (pe_callTy (k_tuple (K := K) rfl) (by rfl) T.b_tuple (by decide +kernel) (pa_cons (pe_lc (own := [("column", 1)]) (g := (gName 1)) rfl nd (pi_range1 (by rfl) T.b_range (pa_cons (pe_callB (k_len (K := K) rfl) (by rfl) T.b_len (by decide +kernel) (pa_cons (pe_ix (k_ix (K := K) rfl) (pv 0) pe_int (fun _ _ => rfl)) pa_nil)) pa_nil)) (blkOk_by (own := [("column", 1)]) (by kernel_rfl)) (fun _ _ _ _ _ => (pg_name (i := 1) nd rfl (by first | exact Or.inl rfl | exact Or.inr rfl))) (fun _ _ _ _ _ => pts_nil) (fun _ _ _ _ _ => (k_join (K := K) rfl pe_str (pe_lc (own := [("row", 2)]) (g := (gName 2)) rfl nd (k_pit (K := K) rfl (pv 0)) (blkOk_by (own := [("row", 2)]) (by kernel_rfl)) (fun _ _ _ _ _ => (pg_name (i := 2) nd rfl (by first | exact Or.inl rfl | exact Or.inr rfl))) (fun _ _ _ _ _ => pts_nil) (fun _ _ _ _ _ => (pe_ix (k_ix (K := K) rfl) (pv 2) (pv 1) (fun _ _ => rfl))))))) pa_nil)))), ?_⟩
  refine body_R h fun ds d B r rt => ?_
  obtain ⟨M, wd, sh, rfl, rfl⟩ := r
  have h0 := sh.h0
  have h1 := sh.h1
  have w1 := sh.w1
  have hw0 := sh.ln _ (List.getElem_mem (show 0 < M.length by omega))
  refine nx_ret (EV.as (ev_tcb (eva_one (ev_map (evi_rng1 (eva_one (ev_tcb (eva_one (ev_op (ev_var rfl) ev_int (rd_ixT (atI_rows (i := 0) (by omega))))) (rn_lenS (by rw [encRow_len]; omega)))) (by rw [encRow_len]; omega)) (fun c => rowD (M.map fun bs => bs.getD c false)) (by rw [encRow_len]; omega) fun i hi => ?_)) rn_tup) ?_) (rt _)
  · rw [encRow_len, hw0] at hi
    have hi : i < wd := by omega
    refine EV.as (ev_join (ys := M.map fun bs => signD (bs.getD i false)) ev_str (EV.as (ev_map (evi_tup (ev_var rfl)) (fun r => .str (signD ((M.getD r []).getD i false))) (by rw [List.length_map]; omega) fun r hr => ?_) ?_) ?_) ?_
    · rw [List.length_map] at hr
      have hw := sh.ln _ (List.getElem_mem hr)
      refine EV.as (ev_op (EV.as (ev_var rfl) (rows_at hr)) (ev_var rfl) (rd_ixS (by rw [encRow_len]; omega) (row_atI (by omega)))) ?_
      simp [signD, hr]
    · rw [List.length_map]
      congr 1
      apply List.ext_getElem
      · simp
      · intro r h3 h4
        simp at h3 h4
        simp [h3]
    · rw [show (M.map fun bs => signD (bs.getD i false)) = (M.map fun bs => bs.getD i false).map signD by simp]
      exact signs_fit (by rw [List.length_map]; omega)
    · rw [show (M.map fun bs => signD (bs.getD i false)) = (M.map fun bs => bs.getD i false).map signD by simp, join_signs]
      rfl
  · rw [encRow_len, hw0]
    show D.tup _ = D.tup _
    congr 1
    simp [tr]
end
end W01
namespace W01
open PySem L2 Wd
section
variable {P : Program} {w : World} {K : PySem.W.Frag} {mg : Str → Option Value} {base : Heap} {cB : Addr}

abbrev s_dots_of : Stmt := top 15
theorem sc_dots_of : FnScope ["rows", "width", "row", "column"] ["rows"] (defScope s_dots_of) := ⟨rfl, rfl, rfl, by decide +kernel, rfl, by decide +kernel, by decide +kernel⟩
def R_dots_of : List D → D → Prop := fun ds d => ∃ M w, Sh M w ∧ ds = [rowsD M] ∧ d = .tup (dotsD M w)
theorem cell_eq {M : List (List Bool)} {i c : Nat} (h : i < M.length) : M[i].getD c false = cell M i c := by
  unfold cell
  simp [List.getD_eq_getElem?_getD, h]
theorem code_eq (b : Bool) : decide ((⟨#[Wd.code b]⟩ : Str) = "o") = b := by cases b <;> decide +kernel
theorem ok_dots_of {f : Addr} {fd : FuncData} (F : Fun K "_dots_of" "_dots_of" s_dots_of f fd) (T : Txt K mg cB) : FnOk P w K mg base CX0 1 f fd ["rows"] (spR R_dots_of) := by
  refine F.ok sc_dots_of (fun vs H Q E h => len_R (fun ds d ⟨M, wd, _, e, _⟩ => by rw [e]; rfl) h) (fun cdv A outer s H vs Q E hr h => ?_)
  have nd := sc_dots_of.nd
  refine ⟨_, (pss_cons (ps_set (i := 1) nd rfl (by first | exact Or.inl rfl | exact Or.inr rfl) (pe_callB (k_len (K := K) rfl) (by rfl) T.b_len (by decide +kernel) (pa_cons (pe_ix (k_ix (K := K) rfl) (pv 0) pe_int (fun _ _ => rfl)) pa_nil)))
      (pss_one (ps_ret (pe_callTy (k_tuple (K := K) rfl) (by rfl) T.b_tuple (by decide +kernel) (pa_cons (pe_lc2 (own := [("row", 2), ("column", 3)]) (g := (gName 2)) (g1 := (gName 3)) (vs1 := [3]) rfl nd (pi_range1 (by rfl) T.b_range (pa_cons (pe_callB (k_len (K := K) rfl) (by rfl) T.b_len (by decide +kernel) (pa_cons (pv 0) pa_nil)) pa_nil)) (blkOk_by (own := [("row", 2), ("column", 3)]) (by kernel_rfl)) (by decide) (fun _ _ _ _ _ => (pg_name (i := 2) nd rfl (by first | exact Or.inl rfl | exact Or.inr rfl))) (fun _ _ _ _ _ => pts_nil) (fun _ _ _ _ _ => (pi_range1 (by rfl) T.b_range (pa_cons (pv 1) pa_nil))) (fun _ _ _ _ _ => (pg_name (i := 3) nd rfl (by first | exact Or.inl rfl | exact Or.inr rfl))) (fun _ _ _ _ _ => (pts_one (pt_cmpR (k_eqU (K := K) rfl hr.units) (pe_ix (k_ix (K := K) rfl) (pe_ix (k_ix (K := K) rfl) (pv 0) (pv 2) (fun _ _ => rfl)) (pv 3) (fun _ _ => rfl)) (pe_glob (v := .str "o") rfl T.g_DOT.choose_spec ⟨_, rfl⟩) (nomark _)))) (fun _ _ _ _ _ => (pe_tup (pa_cons (pv 2) (pa_cons (pv 3) pa_nil))))) pa_nil))))), ?_⟩
  refine body_R h fun ds d B r rt => ?_
  obtain ⟨M, wd, sh, rfl, rfl⟩ := r
  have h0 := sh.h0
  have h1 := sh.h1
  have w1 := sh.w1
  have hw0 := sh.ln _ (List.getElem_mem (show 0 < M.length by omega))
  refine nx_seq (nx_set (ev_tcb (eva_one (ev_op (ev_var rfl) ev_int (rd_ixT (atI_rows (i := 0) (by omega))))) (rn_lenS (by rw [encRow_len]; omega))) ?_)
  rw [encRow_len, hw0]
  refine nx_ret (EV.as (ev_tcb (eva_one (ev_map2 (by decide) (evi_rng1 (eva_one (ev_tcb (eva_one (ev_var rfl)) rn_lenT)) (by rw [List.length_map]; omega)) (fun _ => ((wd : Nat) : Int).toNat) (fun _ c => .int c) (fun r c => cell M r c) (fun r c => dotD (r, c)) ?_ (fun _ _ => by omega)
    (fun i _ => evi_rng1 (eva_one (ev_var rfl)) (by omega)) (fun i j hi hj => ?_) fun i j hi hj _ => ?_)) rn_tup) ?_) (rt _)
  · intro i hi
    have g : ∀ k, ((List.range k).flatMap fun r => ((List.range ((wd : Nat) : Int).toNat).filter fun c => cell M r c).map fun c => dotD (r, c)).length ≤ k * 10 := fun k => by
      induction k with
      | zero => simp
      | succ k ih =>
        rw [List.range_succ, List.flatMap_append, List.length_append]
        have := List.length_filter_le (fun c => cell M k c) (List.range ((wd : Nat) : Int).toNat)
        simp at this ⊢
        simp at ih
        omega
    have := g i
    simp at hi
    omega
  · have hi' : i < M.length := by simpa using hi
    have hj' : j < wd := by simpa using hj
    have hw := sh.ln _ (List.getElem_mem hi')
    refine EVT.as (evt_test (ev_op (ev_op (ev_op (ev_var rfl) (ev_var rfl) (rd_ixT (atI_rows hi'))) (ev_var rfl) (rd_ixS (by rw [encRow_len]; omega) (row_atI (by omega)))) ev_str ru_eqS)) ?_
    rw [code_eq, cell_eq hi']
  · exact ev_tup (eva_cons (ev_var rfl) (eva_one (ev_var rfl))) (by simp)
  · unfold dotsD dots
    simp only [List.length_map, Int.toNat_natCast, List.map_flatMap, List.map_map]
    rfl

abbrev s_wires_of : Stmt := top 16
theorem sc_wires_of : FnScope ["rows", "columns", "number"] ["rows"] (defScope s_wires_of) := ⟨rfl, rfl, rfl, by decide +kernel, rfl, by decide +kernel, by decide +kernel⟩
def R_wires_of : List D → D → Prop := fun ds d => ∃ M w, Sh M w ∧ ds = [rowsD M] ∧ d = .tup (wiresD M.length w)
theorem ok_wires_of {f : Addr} {fd : FuncData} (F : Fun K "_wires_of" "_wires_of" s_wires_of f fd) (T : Txt K mg cB) : FnOk P w K mg base CX0 1 f fd ["rows"] (spR R_wires_of) := by
  refine F.ok sc_wires_of (fun vs H Q E h => len_R (fun ds d ⟨M, wd, _, e, _⟩ => by rw [e]; rfl) h) (fun cdv A outer s H vs Q E hr h => ?_)
  have nd := sc_wires_of.nd
  refine ⟨_, (pss_cons (ps_setLc (i := 1) (own := [("number", 2)]) (g := (gName 2)) rfl nd rfl rfl (sw_true rfl rfl rfl (by decide +kernel)) (pi_range1 (by rfl) T.b_range (pa_cons (pe_callB (k_len (K := K) rfl) (by rfl) T.b_len (by decide +kernel) (pa_cons (pe_ix (k_ix (K := K) rfl) (pv 0) pe_int (fun _ _ => rfl)) pa_nil)) pa_nil)) (blkOk_by (own := [("number", 2)]) (by kernel_rfl)) (fun _ _ _ _ _ => (pg_name (i := 2) nd rfl (by first | exact Or.inl rfl | exact Or.inr rfl))) (fun _ _ _ _ _ => pts_nil) (fun _ _ _ _ _ => (pe_tup (pa_cons pe_str (pa_cons (pv 2) pa_nil)))))
      (pss_one (ps_ret (pe_callTy (k_tuple (K := K) rfl) (by rfl) T.b_tuple (by decide +kernel) (pa_cons (pe_op (k_addU (K := K) rfl) (pv 1) (pe_lc (own := [("number", 2)]) (g := (gName 2)) rfl nd (pi_range1 (by rfl) T.b_range (pa_cons (pe_callB (k_len (K := K) rfl) (by rfl) T.b_len (by decide +kernel) (pa_cons (pv 0) pa_nil)) pa_nil)) (blkOk_by (own := [("number", 2)]) (by kernel_rfl)) (fun _ _ _ _ _ => (pg_name (i := 2) nd rfl (by first | exact Or.inl rfl | exact Or.inr rfl))) (fun _ _ _ _ _ => pts_nil) (fun _ _ _ _ _ => (pe_tup (pa_cons pe_str (pa_cons (pv 2) pa_nil)))))) pa_nil))))), ?_⟩
  refine body_R h fun ds d B r rt => ?_
  obtain ⟨M, wd, sh, rfl, rfl⟩ := r
  have h0 := sh.h0
  have h1 := sh.h1
  have w1 := sh.w1
  have hw0 := sh.ln _ (List.getElem_mem (show 0 < M.length by omega))
  refine nx_seq (nx_set (ev_map (evi_rng1 (eva_one (ev_tcb (eva_one (ev_op (ev_var rfl) ev_int (rd_ixT (atI_rows (i := 0) (by omega))))) (rn_lenS (by rw [encRow_len]; omega)))) (by rw [encRow_len]; omega)) (fun c => D.tup [.str "column", .int c]) (by rw [encRow_len]; omega) fun i hi => ev_tup (eva_cons ev_str (eva_one (ev_var rfl))) (by simp)) ?_)
  refine nx_ret (EV.as (ev_tcb (eva_one (ev_op (ev_var rfl) (ev_map (evi_rng1 (eva_one (ev_tcb (eva_one (ev_var rfl)) rn_lenT)) (by rw [List.length_map]; omega)) (fun c => D.tup [.str "row", .int c]) (by rw [List.length_map]; omega) fun i hi => ev_tup (eva_cons ev_str (eva_one (ev_var rfl))) (by simp)) (ru_addL ?_))) rn_tup) ?_) (rt _)
  · simp [encRow_len, hw0]
    omega
  · unfold wiresD
    simp [encRow_len, hw0]

end
end W01
namespace W01
open PySem L2 Wd
section
variable {P : Program} {w : World} {K : PySem.W.Frag} {mg : Str → Option Value} {base : Heap} {cB : Addr}
/-- the class's own facts that the walk asks -/
structure TxtB (K : PySem.W.Frag) (cB : Addr) : Prop where
  n_rows : NoAttr K cB "rows"
  n_height : NoAttr K cB "height"
  n_width : NoAttr K cB "width"
  n_dots : NoAttr K cB "dots"
  n_wires : NoAttr K cB "wires"
  n_full : NoAttr K cB "is_full"
  kNon : PySem.W.kitOne K (.type "NoneType") (.ref cB) = some false
  kBl : PySem.W.kitOne K (.type "bool") (.ref cB) = some false
  kInt : PySem.W.kitOne K (.type "int") (.ref cB) = some false
  kStr : PySem.W.kitOne K (.type "str") (.ref cB) = some false
  kLst : PySem.W.kitOne K (.type "list") (.ref cB) = some false
  kTup : PySem.W.kitOne K (.type "tuple") (.ref cB) = some false
  kDic : PySem.W.kitOne K (.type "dict") (.ref cB) = some false
  kObj : PySem.W.kitOne K (.ref cB) (.ref cB) = some true

abbrev s_init : Stmt := inClass (top 17) 0
theorem sc_init : FnScope ["self", "rows"] ["self", "rows"] (defScope s_init) := ⟨rfl, rfl, rfl, by decide +kernel, rfl, by decide +kernel, by decide +kernel⟩
def R_init : List D → List (Str × D) → Prop := fun ds gs => ∃ M w, Bd M w ∧ ds = [rowsD M] ∧ gs = boardG M w
theorem len_I {C : Addr} {R : List D → List (Str × D) → Prop} {n : Nat} (hn : ∀ ds d, R ds d → ds.length + 1 = n) {vs : List V} {H : Hp} {Q : VK} {E : XK} (h : spI C R vs H Q E) : vs.length = n := by
  obtain ⟨B, x, dx, vs', ds, gs, rfl, _, _, _, i, r, _⟩ := h
  rw [List.length_cons, i.length]
  exact hn ds gs r
theorem ok_init {f f1 f2 f3 f4 f5 : Addr} {fd fd1 fd2 fd3 fd4 fd5 : FuncData} (F : Fun K "__init__" "Board.__init__" s_init f fd) (T : Txt K mg cB) (U : TxtB K cB)
    (C__are_rows : Cal P w K mg base 2 "_are_rows" f1 fd1 ["value"] (spR R_are_rows)) (C__none_is_empty : Cal P w K mg base 1 "_none_is_empty" f2 fd2 ["rows"] (spR R_none_is_empty)) (C__turned : Cal P w K mg base 1 "_turned" f3 fd3 ["rows"] (spR R_turned))
    (C__dots_of : Cal P w K mg base 1 "_dots_of" f4 fd4 ["rows"] (spR R_dots_of)) (C__wires_of : Cal P w K mg base 1 "_wires_of" f5 fd5 ["rows"] (spR R_wires_of)) : FnOk P w K mg base CX0 3 f fd ["self", "rows"] (spI cB R_init) := by
  refine F.ok sc_init (fun vs H Q E h => len_I (fun ds d ⟨M, wd, _, e, _⟩ => by rw [e]; rfl) h) (fun cdv A outer s H vs Q E hr h => ?_)
  have nd := sc_init.nd
  refine ⟨_, (pss_cons (ps_if (PW.pt (pw_or (pt_not (pt_val (pe_call C__are_rows.ok (hr.mono (by decide)) rfl C__are_rows.mgx C__are_rows.kp C__are_rows.bd .nil pass0 (pa_cons (pv 1) pa_nil)))) (pw_or (pt_not (pt_val (pe_call C__none_is_empty.ok (hr.mono (by decide)) rfl C__none_is_empty.mgx C__none_is_empty.kp C__none_is_empty.bd .nil pass0 (pa_cons (pv 1) pa_nil)))) (pw_or1 (pt_not (pt_val (pe_call C__none_is_empty.ok (hr.mono (by decide)) rfl C__none_is_empty.mgx C__none_is_empty.kp C__none_is_empty.bd .nil pass0 (pa_cons (pe_call C__turned.ok (hr.mono (by decide)) rfl C__turned.mgx C__turned.kp C__turned.bd .nil pass0 (pa_cons (pv 1) pa_nil)) pa_nil)))))))) (pss_one ps_never) pss_nil)
      (pss_cons (k_psfld (K := K) rfl (pv 0) (pv 1) rfl)
      (pss_cons (k_psfld (K := K) rfl (pv 0) (pe_callB (k_len (K := K) rfl) (by rfl) T.b_len (by decide +kernel) (pa_cons (pv 1) pa_nil)) rfl)
      (pss_cons (k_psfld (K := K) rfl (pv 0) (pe_callB (k_len (K := K) rfl) (by rfl) T.b_len (by decide +kernel) (pa_cons (pe_ix (k_ix (K := K) rfl) (pv 1) pe_int (fun _ _ => rfl)) pa_nil)) rfl)
      (pss_cons (k_psfld (K := K) rfl (pv 0) (pe_call C__dots_of.ok (hr.mono (by decide)) rfl C__dots_of.mgx C__dots_of.kp C__dots_of.bd .nil pass0 (pa_cons (pv 1) pa_nil)) rfl)
      (pss_cons (k_psfld (K := K) rfl (pv 0) (pe_call C__wires_of.ok (hr.mono (by decide)) rfl C__wires_of.mgx C__wires_of.kp C__wires_of.bd .nil pass0 (pa_cons (pv 1) pa_nil)) rfl)
      (pss_one (k_psfld (K := K) rfl (pv 0) (pe_cmpR (k_eqU (K := K) rfl hr.units) (pe_callB (k_len (K := K) rfl) (by rfl) T.b_len (by decide +kernel) (pa_cons (k_fld (K := K) rfl (pv 0) rfl) pa_nil)) (pe_op op_mulU (k_fld (K := K) rfl (pv 0) rfl) (k_fld (K := K) rfl (pv 0) rfl)) (nomark _)) rfl)))))))), ?_⟩
  refine body_I h fun ds gs p B r rt => ?_
  obtain ⟨M, wd, bd, rfl, rfl⟩ := r
  have sh := bd.sh
  have h0 := sh.h0
  have h1 := sh.h1
  have w1 := sh.w1
  have c := T.cls.cl
  have hw0 := sh.ln _ (List.getElem_mem (show 0 < M.length by omega))
  have hd := dots_len sh
  refine nx_seq (nx_if (b := false) (evt_or0 (b := false) (c := false) (evt_not (b := true) (evt_B (ev_call (eva_one (ev_var rfl)) ⟨M, wd, sh, rfl, rfl⟩))) fun _ => evt_or0 (b := false) (c := false) (evt_not (b := true) (evt_B (ev_call (eva_one (ev_var rfl)) ⟨M, bd.hr, h1, rfl, rfl⟩))) fun _ =>
    evt_not (b := true) (evt_B (ev_call (eva_one (ev_call (eva_one (ev_var rfl)) ⟨M, wd, sh, rfl, rfl⟩)) ⟨tr M wd, bd.hc, by rw [tr_len]; exact w1, rfl, rfl⟩))) (fun z => nomatch z) fun _ => nx_next (nx_go ?_))
  refine nx_seq (nx_field (ev_var rfl) rfl c U.n_rows (by simp) (by simp) (nx_go ?_))
  refine nx_seq (nx_field (ev_tcb (eva_one (ev_var rfl)) rn_lenT) rfl c U.n_height (by simp; decide +kernel) (by simp) (nx_go ?_))
  refine nx_seq (nx_field (ev_tcb (eva_one (ev_op (ev_var rfl) ev_int (rd_ixT (atI_rows (i := 0) (by omega))))) (rn_lenS (by rw [encRow_len]; omega))) rfl c U.n_width (by simp; decide +kernel) (by simp) (nx_go ?_))
  refine nx_seq (nx_field (ev_call (eva_one (ev_var rfl)) ⟨M, wd, sh, rfl, rfl⟩) rfl c U.n_dots (by simp; decide +kernel) (by simp) (nx_go ?_))
  refine nx_seq (nx_field (ev_call (eva_one (ev_var rfl)) ⟨M, wd, sh, rfl, rfl⟩) rfl c U.n_wires (by simp; decide +kernel) (by simp) (nx_go ?_))
  rw [encRow_len, hw0, List.length_map]
  refine nx_field (ev_op (ev_tcb (eva_one (ev_fldM rfl c U.n_dots rfl)) rn_lenT) (ev_op (ev_fldM rfl c U.n_height rfl) (ev_fldM rfl c U.n_width rfl) (ru_mul (.inl (by omega)))) ru_eqI) rfl c U.n_full (by simp; decide +kernel) (by simp) ?_
  refine rt _ ?_
  show some (Slo.mob cB _) = some (Slo.mob cB _)
  unfold boardG isFull
  simp [dotsD]
end
end W01
namespace W01
open PySem L2 Wd
structure CalC (P : Program) (w : World) (K : PySem.W.Frag) (mg : Str → Option Value) (base : Heap) (k : Nat) (x : Str) (C f : Addr) (fd : FuncData) (ps : List Str) (sp : Sp) : Prop where
  mkk : Mk K C f
  ok : FnOk P w K mg base CX0 k f fd ps sp
  mgx : mg x = some (.ref C)
  bd : Binds K fd ps []
section
variable {P : Program} {w : World} {K : PySem.W.Frag} {mg : Str → Option Value} {base : Heap} {cB : Addr}
abbrev boardD (cB : Addr) (M : List (List Bool)) (w : Nat) : D := .obj cB (boardG M w)

abbrev s_contains : Stmt := inClass (top 17) 1
theorem sc_contains : FnScope ["self", "x"] ["self", "x"] (defScope s_contains) := ⟨rfl, rfl, rfl, by decide +kernel, rfl, by decide +kernel, by decide +kernel⟩
def R_contains (cB : Addr) : List D → D → Prop := fun ds d => ∃ M w x, Sh M w ∧ ds = [boardD cB M w, x] ∧ Only2 cB x ∧ d = .bl (inDots M w x)
theorem isIP_of {x : D} (h : D.isIP x = true) : ∃ a b, x = .tup [.int a, .int b] := by
  match x, h with
  | .tup [a, b], h =>
    simp only [D.isIP, Bool.and_eq_true] at h
    cases a <;> cases b <;> simp_all [D.isI]
theorem inDots_no {M : List (List Bool)} {w : Nat} {x : D} (h : D.isIP x = false) : inDots M w x = false := by
  match x, h with
  | .tup [.int a, .int b], h => simp [D.isIP, D.isI] at h
  | .non, _ => rfl
  | .bl _, _ => rfl
  | .int _, _ => rfl
  | .str _, _ => rfl
  | .lst _, _ => rfl
  | .dic _, _ => rfl
  | .scr _, _ => rfl
  | .obj _ _, _ => rfl
  | .tup [], _ => rfl
  | .tup [_], _ => simp [inDots]
  | .tup (_ :: _ :: _ :: _), _ => simp [inDots]
  | .tup [.non, _], _ => simp [inDots]
  | .tup [.bl _, _], _ => simp [inDots]
  | .tup [.str _, _], _ => simp [inDots]
  | .tup [.lst _, _], _ => simp [inDots]
  | .tup [.tup _, _], _ => simp [inDots]
  | .tup [.dic _, _], _ => simp [inDots]
  | .tup [.scr _, _], _ => simp [inDots]
  | .tup [.obj _ _, _], _ => simp [inDots]
  | .tup [.int _, .non], _ => simp [inDots]
  | .tup [.int _, .bl _], _ => simp [inDots]
  | .tup [.int _, .str _], _ => simp [inDots]
  | .tup [.int _, .lst _], _ => simp [inDots]
  | .tup [.int _, .tup _], _ => simp [inDots]
  | .tup [.int _, .dic _], _ => simp [inDots]
  | .tup [.int _, .scr _], _ => simp [inDots]
  | .tup [.int _, .obj _ _], _ => simp [inDots]
theorem ok_contains {f f1 : Addr} {fd fd1 : FuncData} (F : Fun K "__contains__" "Board.__contains__" s_contains f fd) (T : Txt K mg cB) (U : TxtB K cB)
    (C_is_integer_pair : Cal P w K mg base 2 "is_integer_pair" f1 fd1 ["value"] (spR (R_is_integer_pair cB))) : FnOk P w K mg base CX0 3 f fd ["self", "x"] (spR (R_contains cB)) := by
  refine F.ok sc_contains (fun vs H Q E h => len_R (fun ds d ⟨_, _, _, _, e, _⟩ => by rw [e]; rfl) h) (fun cdv A outer s H vs Q E hr h => ?_)
  have nd := sc_contains.nd
  refine ⟨_, (pss_one (ps_ret (pe_and (pe_call C_is_integer_pair.ok (hr.mono (by decide)) rfl C_is_integer_pair.mgx C_is_integer_pair.kp C_is_integer_pair.bd .nil pass0 (pa_cons (pv 1) pa_nil)) (pe_one (pe_cmpR (k_inU (K := K) rfl (hr65 hr)) (pv 1) (k_fld (K := K) rfl (pv 0) rfl) (by rfl)))))), ?_⟩
  refine body_R h fun ds d B r rt => ?_
  obtain ⟨M, wd, x, sh, rfl, hx, rfl⟩ := r
  have h1 := ev_call (ε := startE 2 [boardD cB M wd, x]) (XE := E0) (eva_one (ta := tVar 1) (ev_var (d := x) rfl)) (R := R_is_integer_pair cB) ⟨x, rfl, hx, rfl⟩
  refine nx_ret (ev_and h1 (fun e => ?_) fun e => ⟨inDots_no e, rfl⟩) (rt _)
  obtain ⟨a, b, rfl⟩ := isIP_of e
  refine EV.as (ev_op (ev_var rfl) (ev_fld (ev_var rfl) T.cls.cl U.n_dots rfl) (ru_inT (pln_pair a b).to (pln_dots (dots M wd)).to)) ?_
  exact congrArg D.bl (any_dots (dots M wd) a b)

abbrev s_len : Stmt := inClass (top 17) 2
theorem sc_len : FnScope ["self"] ["self"] (defScope s_len) := ⟨rfl, rfl, rfl, by decide +kernel, rfl, by decide +kernel, by decide +kernel⟩
def R_len (cB : Addr) : List D → D → Prop := fun ds d => ∃ M w, ds = [boardD cB M w] ∧ d = .int (dots M w).length
theorem ok_len {f : Addr} {fd : FuncData} (F : Fun K "__len__" "Board.__len__" s_len f fd) (T : Txt K mg cB) (U : TxtB K cB) : FnOk P w K mg base CX0 1 f fd ["self"] (spR (R_len cB)) := by
  refine F.ok sc_len (fun vs H Q E h => len_R (fun ds d ⟨_, _, e, _⟩ => by rw [e]; rfl) h) (fun cdv A outer s H vs Q E hr h => ?_)
  have nd := sc_len.nd
  refine ⟨_, (pss_one (ps_ret (pe_callB (k_len (K := K) rfl) (by rfl) T.b_len (by decide +kernel) (pa_cons (k_fld (K := K) rfl (pv 0) rfl) pa_nil)))), ?_⟩
  refine body_R h fun ds d B r rt => ?_
  obtain ⟨M, wd, rfl, rfl⟩ := r
  refine nx_ret (EV.as (ev_tcb (eva_one (ev_fld (ev_var rfl) T.cls.cl U.n_dots rfl)) rn_lenT) ?_) (rt _)
  unfold dotsD
  rw [List.length_map]

abbrev s_invert : Stmt := inClass (top 17) 3
theorem sc_invert : FnScope ["self"] ["self"] (defScope s_invert) := ⟨rfl, rfl, rfl, by decide +kernel, rfl, by decide +kernel, by decide +kernel⟩
def R_invert (cB : Addr) : List D → D → Prop := fun ds d => ∃ M w, Bd M w ∧ ds = [boardD cB M w] ∧ d = boardD cB (tr M w) M.length
theorem ok_invert {f f1 f2 : Addr} {fd fd1 fd2 : FuncData} (F : Fun K "__invert__" "Board.__invert__" s_invert f fd) (T : Txt K mg cB) (U : TxtB K cB)
    (C__turned : Cal P w K mg base 1 "_turned" f1 fd1 ["rows"] (spR R_turned)) (C_Board : CalC P w K mg base 3 "Board" cB f2 fd2 ["self", "rows"] (spI cB R_init)) : FnOk P w K mg base CX0 5 f fd ["self"] (spR (R_invert cB)) := by
  refine F.ok sc_invert (fun vs H Q E h => len_R (fun ds d ⟨_, _, _, e, _⟩ => by rw [e]; rfl) h) (fun cdv A outer s H vs Q E hr h => ?_)
  have nd := sc_invert.nd
  refine ⟨_, (pss_one (ps_ret (pe_make C_Board.mkk C_Board.ok (hr.mono (by decide)) rfl C_Board.mgx C_Board.bd .nil pass0 (pa_cons (pe_call C__turned.ok (hr.mono (by decide)) rfl C__turned.mgx C__turned.kp C__turned.bd .nil pass0 (pa_cons (k_fld (K := K) rfl (pv 0) rfl) pa_nil)) pa_nil)))), ?_⟩
  refine body_R h fun ds d B r rt => ?_
  obtain ⟨M, wd, bd, rfl, rfl⟩ := r
  exact nx_ret (ev_make (eva_one (ev_call (eva_one (ev_fld (ev_var rfl) T.cls.cl U.n_rows rfl)) ⟨M, wd, bd.sh, rfl, rfl⟩)) ⟨tr M wd, M.length, tr_bd bd, rfl, rfl⟩) (rt _)

abbrev s_eq : Stmt := inClass (top 17) 4
theorem sc_eq : FnScope ["self", "other"] ["self", "other"] (defScope s_eq) := ⟨rfl, rfl, rfl, by decide +kernel, rfl, by decide +kernel, by decide +kernel⟩
def R_eq (cB : Addr) : List D → D → Prop := fun ds d => ∃ M w y, ds = [boardD cB M w, y] ∧ ((∃ M' w', y = boardD cB M' w' ∧ d = .bl (decide (M = M'))) ∨ ((∀ C gs, y ≠ .obj C gs) ∧ d = .bl false))
theorem kit_B (U : TxtB K cB) {y : D} (h : ∀ C gs, y ≠ .obj C gs) : PySem.W.kitOne K y.ty (.ref cB) = some false := by
  cases y with
  | non => exact U.kNon
  | bl b => exact U.kBl
  | int i => exact U.kInt
  | str x => exact U.kStr
  | lst ds => exact U.kLst
  | tup ds => exact U.kTup
  | dic es => exact U.kDic
  | scr ds => exact U.kLst
  | obj C gs => exact absurd rfl (h C gs)
theorem ok_eq {f f2 : Addr} {fd fd2 : FuncData} (F : Fun K "__eq__" "Board.__eq__" s_eq f fd) (T : Txt K mg cB) (U : TxtB K cB) (C_Board : CalC P w K mg base 3 "Board" cB f2 fd2 ["self", "rows"] (spI cB R_init)) :
    FnOk P w K mg base CX0 1 f fd ["self", "other"] (spR (R_eq cB)) := by
  refine F.ok sc_eq (fun vs H Q E h => len_R (fun ds d ⟨_, _, _, e, _⟩ => by rw [e]; rfl) h) (fun cdv A outer s H vs Q E hr h => ?_)
  have nd := sc_eq.nd
  refine ⟨_, (pss_one (ps_ret (pe_and (pe_callB (k_isi (K := K) rfl) (by rfl) T.b_isinstance (by decide +kernel) (pa_cons (pv 1) (pa_cons (pe_glob (v := .ref cB) rfl C_Board.mgx rfl) pa_nil))) (pe_one (pe_cmpR (k_eqU (K := K) rfl hr.units) (k_fld (K := K) rfl (pv 0) rfl) (k_fld (K := K) rfl (pv 1) rfl) (nomark _)))))), ?_⟩
  refine body_R h fun ds d B r rt => ?_
  obtain ⟨M, wd, y, rfl, ⟨M', w', rfl, rfl⟩ | ⟨hy, rfl⟩⟩ := r
  · refine nx_ret (EV.as (ev_and0 (b := true) (ev_isi (.own cB) (ev_var rfl) (fun C gs e => by cases e; exact T.cls) U.kObj) fun _ => ev_op (ev_fld (ev_var rfl) T.cls.cl U.n_rows rfl) (ev_fld (ev_var rfl) T.cls.cl U.n_rows rfl) (ru_eqD (pln_rows M).to (pln_rows M').to)) ?_) (rt _)
    rw [eqv_rows, Bool.true_and]
  · exact nx_ret (ev_and (b := false) (ev_isi (.own cB) (ev_var rfl) (fun C gs e => absurd e (hy C gs)) (kit_B U hy)) (fun z => nomatch z) fun _ => ⟨rfl, rfl⟩) (rt _)
end
end W01
namespace W01
open PySem L2 Wd
/-! ### the law's own draws -/
structure Pot where
  a : Int
  b : Int
  c : Int
def Pot.ds (p : Pot) : List D := [.int p.a, .int p.b, .int p.c]
structure Pot.Ok (p : Pot) : Prop where
  a0 : 0 ≤ p.a
  b0 : 0 ≤ p.b
  b1 : p.b < 2305843009213693921
  c0 : 0 ≤ p.c
  c1 : p.c ≤ 100000
def primes : List Int := [2147483647, 2147483629, 2147483587, 2147483579, 2147483563]
def pr (i : Int) : Int := primes.getD i.toNat 1
def st1 (p : Pot) : Int := (p.b + 101107 * (p.c + 1) * (p.c + 1) + 43) ^ 3 % pr ((p.c + 1) % 5)
def st2 (p : Pot) : Int := st1 p * (st1 p % 10061 + 83 * (p.c + 1)) % 2305843009213693907
def tkV (p : Pot) (u : Int) : Int := if p.a > 0 then p.a % u else st2 p / 131 % u
def tkS (p : Pot) (u : Int) : Pot := if p.a > 0 then { p with a := p.a / u } else { p with c := p.c + 1 }
/-- up to n more draws -/
structure PotN (n : Nat) (p : Pot) : Prop where
  a0 : 0 ≤ p.a
  b0 : 0 ≤ p.b
  b1 : p.b < 2305843009213693921
  c0 : 0 ≤ p.c
  c1 : p.c + n ≤ 100000
theorem PotN.next {n : Nat} {p : Pot} {u : Int} (h : PotN (n + 1) p) (hu : 1 ≤ u) : PotN n (tkS p u) := by
  obtain ⟨a0, b0, b1, c0, c1⟩ := h
  unfold tkS
  split
  · exact ⟨Int.ediv_nonneg a0 (by omega), b0, b1, c0, by show p.c + (n : Int) ≤ 100000; omega⟩
  · exact ⟨a0, b0, b1, by show 0 ≤ p.c + 1; omega, by show p.c + 1 + (n : Int) ≤ 100000; omega⟩
theorem PotN.mono {n m : Nat} {p : Pot} (h : PotN n p) (hm : m ≤ n) : PotN m p := ⟨h.a0, h.b0, h.b1, h.c0, by have := h.c1; omega⟩
theorem tkV_lt {p : Pot} {u : Int} (hu : 1 ≤ u) : 0 ≤ tkV p u ∧ tkV p u < u := by
  unfold tkV
  split
  · exact ⟨Int.emod_nonneg _ (by omega), Int.emod_lt_of_pos _ (by omega)⟩
  · exact ⟨Int.emod_nonneg _ (by omega), Int.emod_lt_of_pos _ (by omega)⟩
theorem pr_at {i : Int} (h0 : 0 ≤ i) (h1 : i < 5) : atI [.int 2147483647, .int 2147483629, .int 2147483587, .int 2147483579, .int 2147483563] i = some (D.int (pr i)) := by
  have : i = 0 ∨ i = 1 ∨ i = 2 ∨ i = 3 ∨ i = 4 := by omega
  rcases this with rfl | rfl | rfl | rfl | rfl <;> rfl
theorem pr_pos {i : Int} (h0 : 0 ≤ i) (h1 : i < 5) : 0 < pr i ∧ pr i ≤ 2147483648 := by
  have : i = 0 ∨ i = 1 ∨ i = 2 ∨ i = 3 ∨ i = 4 := by omega
  rcases this with rfl | rfl | rfl | rfl | rfl <;> decide
section
variable {P : Program} {w : World} {K : PySem.W.Frag} {mg : Str → Option Value} {base : Heap} {cB : Addr}
abbrev s_take : Stmt := top 20
theorem sc_take : FnScope ["_law_pot_here", "_law_upto", "_law_digit", "_law_prime", "_law_stirred"] ["_law_pot_here", "_law_upto"] (defScope s_take) := ⟨rfl, rfl, rfl, by decide +kernel, rfl, by decide +kernel, by decide +kernel⟩
def R_take : List D → List D → D → List D → Prop := fun ms ds d ms' => ∃ p u, PotN 1 p ∧ 1 ≤ u ∧ u ≤ 1000 ∧ ms = Pot.ds p ∧ ds = [.int u] ∧ d = .int (tkV p u) ∧ ms' = Pot.ds (tkS p u)
theorem len_M {R : List D → List D → D → List D → Prop} {n : Nat} (hn : ∀ ms ds d ms', R ms ds d ms' → ds.length + 1 = n) {vs : List V} {H : Hp} {Q : VK} {E : XK} (h : spM R vs H Q E) : vs.length = n := by
  obtain ⟨B, p, ws, ms, vs', ds, d, ms', rfl, s, hb, hp, iw, i, r, k⟩ := h
  rw [List.length_cons, i.length]
  exact hn _ _ _ _ r
theorem ok_take {f : Addr} {fd : FuncData} (F : Fun K "_law_take" "_law_take" s_take f fd) (T : Txt K mg cB) : FnOk P w K mg base CX0 1 f fd ["_law_pot_here", "_law_upto"] (spM R_take) := by
  refine F.ok sc_take (fun vs H Q E h => len_M (fun ms ds d ms' ⟨_, _, _, _, _, _, e, _⟩ => by rw [e]; rfl) h) (fun cdv A outer s H vs Q E hr h => ?_)
  have nd := sc_take.nd
  refine ⟨_, (pss_cons (ps_if (pt_cmpR op_gt (pe_ix (k_ix (K := K) rfl) (pv 0) pe_int (fun _ _ => rfl)) pe_int (nomark _)) (pss_cons (ps_set (i := 2) nd rfl (by first | exact Or.inl rfl | exact Or.inr rfl) (pe_op op_mod (pe_callTy call_intK (by rfl) T.b_int (by decide +kernel) (pa_cons (pe_ix (k_ix (K := K) rfl) (pv 0) pe_int (fun _ _ => rfl)) pa_nil)) (pv 1)))
      (pss_cons (ps_asg (pe_op op_fdiv (pe_ix (k_ix (K := K) rfl) (pv 0) pe_int (fun _ _ => rfl)) (pv 1)) (pg_sub (pv 0) pe_int set_list))
      (pss_one (ps_ret (pv 2))))) pss_nil)
      (pss_cons (ps_asg (pe_op (k_addU (K := K) rfl) (pe_ix (k_ix (K := K) rfl) (pv 0) pe_int (fun _ _ => rfl)) pe_int) (pg_sub (pv 0) pe_int set_list))
      (pss_cons (ps_set (i := 3) nd rfl (by first | exact Or.inl rfl | exact Or.inr rfl) (pe_ix (k_ix (K := K) rfl) (pe_lst (pa_cons pe_int (pa_cons pe_int (pa_cons pe_int (pa_cons pe_int (pa_cons pe_int pa_nil)))))) (pe_op op_mod (pe_callTy call_intK (by rfl) T.b_int (by decide +kernel) (pa_cons (pe_ix (k_ix (K := K) rfl) (pv 0) pe_int (fun _ _ => rfl)) pa_nil)) pe_int) (fun _ _ => rfl)))
      (pss_cons (ps_set (i := 4) nd rfl (by first | exact Or.inl rfl | exact Or.inr rfl) (pe_op op_mod (pe_callTy call_intK (by rfl) T.b_int (by decide +kernel) (pa_cons (pe_op op_powW (pe_callTy call_intK (by rfl) T.b_int (by decide +kernel) (pa_cons (pe_op (k_addU (K := K) rfl) (pe_op (k_addU (K := K) rfl) (pe_ix (k_ix (K := K) rfl) (pv 0) pe_int (fun _ _ => rfl)) (pe_op op_mulU (pe_op op_mulU pe_int (pe_ix (k_ix (K := K) rfl) (pv 0) pe_int (fun _ _ => rfl))) (pe_ix (k_ix (K := K) rfl) (pv 0) pe_int (fun _ _ => rfl)))) pe_int) pa_nil)) pe_int) pa_nil)) (pv 3)))
      (pss_cons (ps_set (i := 4) nd rfl (by first | exact Or.inl rfl | exact Or.inr rfl) (pe_op op_mod (pe_callTy call_intK (by rfl) T.b_int (by decide +kernel) (pa_cons (pe_op op_mulU (pv 4) (pe_op (k_addU (K := K) rfl) (pe_op op_mod (pe_callTy call_intK (by rfl) T.b_int (by decide +kernel) (pa_cons (pv 4) pa_nil)) pe_int) (pe_op op_mulU pe_int (pe_ix (k_ix (K := K) rfl) (pv 0) pe_int (fun _ _ => rfl))))) pa_nil)) pe_int))
      (pss_one (ps_ret (pe_op op_mod (pe_callTy call_intK (by rfl) T.b_int (by decide +kernel) (pa_cons (pe_op op_fdiv (pv 4) pe_int) pa_nil)) (pv 1))))))))), ?_⟩
  refine body_M h fun ms ds d ms' q B r rt => ?_
  obtain ⟨p, u, hp, hu, hu1, rfl, rfl, rfl, rfl⟩ := r
  obtain ⟨a0, b0, b1, c0, c1⟩ := hp
  refine nx_seq (nx_if (b := decide (0 < p.a)) (evt_test (ev_op (ev_ixM rfl ev_int rfl rfl) ev_int rd_gt)) (fun ht => ?_) fun ht => ?_)
  · have ha : p.a > 0 := of_decide_eq_true ht
    refine nx_seq (nx_set (ev_op (ev_tcb (eva_one (ev_ixM rfl ev_int rfl rfl)) rn_int) (ev_var rfl) (rd_mod (by omega))) (nx_go ?_))
    refine nx_seq (nx_item (ev_op (ev_ixM rfl ev_int rfl rfl) (ev_var rfl) (rd_div ⟨by omega, by omega⟩)) ev_int rfl rfl rfl (nx_go ?_))
    refine nx_ret (EV.as (ev_var rfl) ?_) (rt _ ?_)
    · unfold tkV; rw [if_pos ha]
    · unfold tkS; rw [if_pos ha]; rfl
  · have ha : ¬ p.a > 0 := of_decide_eq_false ht
    have ec : (0 : Int) ≤ (p.c + 1) % 5 ∧ (p.c + 1) % 5 < 5 := ⟨Int.emod_nonneg _ (by decide), Int.emod_lt_of_pos _ (by decide)⟩
    have pp := pr_pos ec.1 ec.2
    have hs1 : 0 ≤ st1 p ∧ st1 p < 2147483648 := ⟨Int.emod_nonneg _ (by omega), Int.lt_of_lt_of_le (Int.emod_lt_of_pos _ pp.1) pp.2⟩
    have hm : (st1 p % 10061 : Int) ≥ 0 ∧ (st1 p % 10061 : Int) < 10061 := ⟨Int.emod_nonneg _ (by decide), Int.emod_lt_of_pos _ (by decide)⟩
    refine nx_next (nx_go ?_)
    refine nx_seq (nx_item (ev_op (ev_ixM rfl ev_int rfl rfl) ev_int ru_addI) ev_int rfl rfl rfl (nx_go ?_))
    refine nx_seq (nx_set (ev_op (ev_lst (eva_cons ev_int (eva_cons ev_int (eva_cons ev_int (eva_cons ev_int (eva_one ev_int))))) (by decide)) (ev_op (ev_tcb (eva_one (ev_ixM rfl ev_int rfl rfl)) rn_int) ev_int (rd_mod (by decide))) (rd_ixL (pr_at ec.1 ec.2))) (nx_go ?_))
    have bsq : (p.c + 1) * (p.c + 1) ≤ 100001 * 100001 := Int.mul_le_mul (by omega) (by omega) (by omega) (by decide)
    have bs0 : 0 ≤ (p.c + 1) * (p.c + 1) := Int.mul_nonneg (by omega) (by omega)
    have eas : 101107 * (p.c + 1) * (p.c + 1) = 101107 * ((p.c + 1) * (p.c + 1)) := Int.mul_assoc _ _ _
    have bb : (p.b + 101107 * (p.c + 1) * (p.c + 1) + 43).natAbs < 2 ^ 2000 := Nat.lt_of_lt_of_le (show _ < 2 ^ 64 by rw [eas]; omega) (Nat.pow_le_pow_right (by decide) (by decide))
    refine nx_seq (nx_set (d := .int (st1 p)) (ev_op (ev_tcb (eva_one (ev_op (ev_tcb (eva_one (ev_op (ev_op (ev_ixM rfl ev_int rfl rfl) (ev_op (ev_op ev_int (ev_ixM rfl ev_int rfl rfl) (ru_mul (.inl ⟨by decide, by decide⟩))) (ev_ixM rfl ev_int rfl rfl) (ru_mul (.inr ⟨by omega, by omega⟩))) ru_addI) ev_int ru_addI)) rn_int) ev_int (rd_powW (powW_ok (by decide) (by decide) bb)))) rn_int) (ev_var rfl) (rd_mod pp.1)) (nx_go ?_))
    refine nx_seq (nx_set (d := .int (st2 p)) (ev_op (ev_tcb (eva_one (ev_op (ev_var rfl) (ev_op (ev_op (ev_tcb (eva_one (ev_var rfl)) rn_int) ev_int (rd_mod (by decide))) (ev_op ev_int (ev_ixM rfl ev_int rfl rfl) (ru_mul (.inl ⟨by decide, by decide⟩))) ru_addI) (ru_mul (.inl ⟨by omega, by omega⟩)))) rn_int) ev_int (rd_mod (by decide))) (nx_go ?_))
    refine nx_ret (EV.as (ev_op (ev_tcb (eva_one (ev_op (ev_var rfl) ev_int (rd_div ⟨by decide, by decide⟩))) rn_int) (ev_var rfl) (rd_mod (by omega))) ?_) (rt _ ?_)
    · unfold tkV; rw [if_neg ha]
    · unfold tkS; rw [if_neg ha]; rfl
end
end W01
namespace W01
open PySem L2 Wd
def sD (b : Bool) : D := .str (signD b)
theorem sD_t : D.str "o" = sD true := by rfl
theorem sD_f : D.str "." = sD false := by rfl
/-! ### rows that the law draws -/
section
variable (way tall wide : Int)
def there (i j : Int) (p : Pot) : Bool := decide (way < 2) || (decide ((i + j) % (if wide > tall then wide else tall) < 2) || (decide (way = 2) && decide (0 < tkV p 3)))
def stepP (i j : Int) (p : Pot) : Pot := if way < 2 then p else if (i + j) % (if wide > tall then wide else tall) < 2 then p else if way = 2 then tkS p 3 else p
def mark (i j : Int) (p : Pot) : Bool := there way tall wide i j p || (decide (i % wide = j) || decide (j % tall = i))
def rowGo (i : Int) : Nat → Pot → List Bool × Pot
  | 0, p => ([], p)
  | j + 1, p => ((rowGo i j p).1 ++ [mark way tall wide i j (rowGo i j p).2], stepP way tall wide i j (rowGo i j p).2)
def rowsGo (w : Nat) : Nat → Pot → List (List Bool) × Pot
  | 0, p => ([], p)
  | i + 1, p => ((rowsGo w i p).1 ++ [(rowGo way tall wide i w (rowsGo w i p).2).1], (rowGo way tall wide i w (rowsGo w i p).2).2)
theorem stepP_ok {n : Nat} {i j : Int} {p : Pot} (h : PotN (n + 1) p) : PotN n (stepP way tall wide i j p) := by
  have a := h.mono (m := n) (by omega)
  have b := PotN.next (u := 3) h (by decide)
  unfold stepP
  repeat' split
  all_goals first | exact a | exact b
theorem rowGo_ok {i : Int} : ∀ {j n : Nat} {p : Pot}, PotN (n + j) p → PotN n (rowGo way tall wide i j p).2
  | 0, n, p, h => h
  | j + 1, n, p, h => stepP_ok way tall wide (rowGo_ok (n := n + 1) (by rw [show n + 1 + j = n + (j + 1) by omega]; exact h))
theorem rowsGo_ok {w : Nat} : ∀ {i n : Nat} {p : Pot}, PotN (n + i * w) p → PotN n (rowsGo way tall wide w i p).2
  | 0, n, p, h => by simpa [rowsGo] using h
  | i + 1, n, p, h => rowGo_ok way tall wide (rowsGo_ok (i := i) (n := n + w) (by rw [show n + w + i * w = n + (i + 1) * w by rw [Nat.add_mul]; omega]; exact h))
theorem rowGo_len {i : Int} : ∀ {j : Nat} {p : Pot}, (rowGo way tall wide i j p).1.length = j
  | 0, p => rfl
  | j + 1, p => by simp [rowGo, rowGo_len]
theorem rowsGo_len {w : Nat} : ∀ {i : Nat} {p : Pot}, (rowsGo way tall wide w i p).1.length = i
  | 0, p => rfl
  | i + 1, p => by simp [rowsGo, rowsGo_len]
theorem rowsGo_ln {w : Nat} : ∀ {i : Nat} {p : Pot}, ∀ bs ∈ (rowsGo way tall wide w i p).1, bs.length = w
  | 0, p => by simp [rowsGo]
  | i + 1, p => by
    intro bs h
    simp only [rowsGo, List.mem_append, List.mem_singleton] at h
    rcases h with h | rfl
    · exact rowsGo_ln bs h
    · exact rowGo_len way tall wide
theorem rowGo_at {i : Int} {p : Pot} : ∀ {j k : Nat}, k < j → (i % wide = (k : Int) ∨ (k : Int) % tall = i) → (rowGo way tall wide i j p).1.getD k false = true
  | j + 1, k, hk, h => by
    have hl := rowGo_len way tall wide (i := i) (j := j) (p := p)
    simp only [rowGo]
    by_cases e : k = j
    · subst e
      rw [List.getD_eq_getElem?_getD, List.getElem?_append_right (by omega), hl]
      simp only [Nat.sub_self, List.getElem?_cons_zero, Option.getD_some]
      unfold mark
      rcases h with h | h
      · rw [decide_eq_true h]; simp
      · rw [decide_eq_true h]; simp
    · rw [List.getD_eq_getElem?_getD, List.getElem?_append_left (by omega), ← List.getD_eq_getElem?_getD]
      exact rowGo_at (by omega) h
theorem rowsGo_at {w : Nat} {p : Pot} : ∀ {n i : Nat}, i < n → ∃ q, (rowsGo way tall wide w n p).1.getD i [] = (rowGo way tall wide i w q).1
  | n + 1, i, hi => by
    have hl := rowsGo_len way tall wide (w := w) (i := n) (p := p)
    simp only [rowsGo]
    by_cases e : i = n
    · subst e
      refine ⟨(rowsGo way tall wide w i p).2, ?_⟩
      rw [List.getD_eq_getElem?_getD, List.getElem?_append_right (by omega), hl]
      simp
    · rw [List.getD_eq_getElem?_getD, List.getElem?_append_left (by omega), ← List.getD_eq_getElem?_getD]
      exact rowsGo_at (by omega)
end
/-- the rows are those of a board -/
theorem rowsGo_bd {way : Int} {tall wide : Nat} {p : Pot} (h0 : 1 ≤ tall) (h1 : tall ≤ 10) (w0 : 1 ≤ wide) (w1 : wide ≤ 10) : Bd (rowsGo way tall wide wide tall p).1 wide := by
  have hl := rowsGo_len way tall wide (w := wide) (i := tall) (p := p)
  have sh : Sh (rowsGo way tall wide wide tall p).1 wide := ⟨by omega, by omega, w0, w1, rowsGo_ln way tall wide⟩
  have cel : ∀ i j : Nat, i < tall → j < wide → ((i : Int) % (wide : Int) = (j : Int) ∨ (j : Int) % (tall : Int) = (i : Int)) → cell (rowsGo way tall wide wide tall p).1 i j = true := fun i j hi hj h => by
    obtain ⟨q, e⟩ := rowsGo_at way tall wide (w := wide) (p := p) hi
    unfold cell
    rw [e]
    exact rowGo_at way tall wide hj h
  refine ⟨sh, fun bs hb => ?_, fun bs hb => ?_⟩
  · obtain ⟨i, hi, rfl⟩ := List.getElem_of_mem hb
    rw [hl] at hi
    have hj : i % wide < wide := Nat.mod_lt _ (by omega)
    have c := cel i (i % wide) hi hj (.inl (by omega))
    unfold cell at c
    have hln := sh.ln _ hb
    have hi' : i < (rowsGo way tall wide wide tall p).1.length := by omega
    rw [show (rowsGo way tall wide wide tall p).1.getD i [] = (rowsGo way tall wide wide tall p).1[i] by simp [List.getD_eq_getElem?_getD, hi']] at c
    rw [List.getD_eq_getElem?_getD, List.getElem?_eq_getElem (by omega)] at c
    simp only [Option.getD_some] at c
    rw [← c]
    exact List.getElem_mem _
  · obtain ⟨j, hj, rfl⟩ := List.mem_map.mp hb
    have hj := List.mem_range.mp hj
    have hi : j % tall < tall := Nat.mod_lt _ (by omega)
    have c := cel (j % tall) j hi hj (.inr (by omega))
    unfold cell at c
    refine List.mem_map.mpr ⟨(rowsGo way tall wide wide tall p).1[j % tall]'(by omega), List.getElem_mem _, ?_⟩
    have hi' : j % tall < (rowsGo way tall wide wide tall p).1.length := by omega
    rw [show (rowsGo way tall wide wide tall p).1.getD (j % tall) [] = (rowsGo way tall wide wide tall p).1[j % tall] by simp [List.getD_eq_getElem?_getD, hi']] at c
    exact c
section
variable {P : Program} {w : World} {K : PySem.W.Frag} {mg : Str → Option Value} {base : Heap} {cB : Addr}
structure TxtL (K : PySem.W.Frag) (mg : Str → Option Value) (cB : Addr) : Prop extends Txt K mg cB where
  b_max : mg "max" = none
  b_min : mg "min" = none
  b_abs : mg "abs" = none
  b_enumerate : mg "enumerate" = none
  b_sorted : mg "sorted" = none
  b_repr : mg "repr" = none
  b_list : mg "list" = none
abbrev s_of : Stmt := top 21
theorem sc_of : FnScope ["_law_pot_here", "_law_some"] ["_law_pot_here", "_law_some"] (defScope s_of) := ⟨rfl, rfl, rfl, by decide +kernel, rfl, by decide +kernel, by decide +kernel⟩
def R_of : List D → List D → D → List D → Prop := fun ms ds d ms' => ∃ p es, PotN 1 p ∧ 1 ≤ es.length ∧ es.length ≤ 1000 ∧ ms = Pot.ds p ∧ ds = [.lst es] ∧ atI es (tkV p es.length) = some d ∧ ms' = Pot.ds (tkS p es.length)
theorem ok_of {f f1 : Addr} {fd fd1 : FuncData} (F : Fun K "_law_of" "_law_of" s_of f fd) (T : Txt K mg cB) (C__law_take : Cal P w K mg base 1 "_law_take" f1 fd1 ["_law_pot_here", "_law_upto"] (spM R_take)) : FnOk P w K mg base CX0 2 f fd ["_law_pot_here", "_law_some"] (spM R_of) := by
  refine F.ok sc_of (fun vs H Q E h => len_M (fun ms ds d ms' ⟨_, _, _, _, _, _, e, _⟩ => by rw [e]; rfl) h) (fun cdv A outer s H vs Q E hr h => ?_)
  have nd := sc_of.nd
  refine ⟨_, (pss_one (ps_ret (pe_ix (k_ix (K := K) rfl) (pv 1) (pe_call C__law_take.ok (hr.mono (by decide)) rfl C__law_take.mgx C__law_take.kp C__law_take.bd .nil pass0 (pa_cons (pv 0) (pa_cons (pe_callB (k_len (K := K) rfl) (by rfl) T.b_len (by decide +kernel) (pa_cons (pv 1) pa_nil)) pa_nil))) (fun _ _ => rfl)))), ?_⟩
  refine body_M h fun ms ds d ms' q B r rt => ?_
  obtain ⟨p, es, hp, h1, h2, rfl, rfl, hd, rfl⟩ := r
  exact nx_ret (ev_op (ev_var rfl) (ev_callM (eva_one (ev_tcb (eva_one (ev_var rfl)) rn_lenL)) rfl rfl ⟨p, _, hp, by omega, by omega, rfl, rfl, rfl, rfl⟩) (rd_ixL hd)) (rt _ rfl)

abbrev s_size : Stmt := top 23
theorem sc_size : FnScope ["_law_pot_here", "_law_most"] ["_law_pot_here", "_law_most"] (defScope s_size) := ⟨rfl, rfl, rfl, by decide +kernel, rfl, by decide +kernel, by decide +kernel⟩
def R_size : List D → List D → D → List D → Prop := fun ms ds d ms' => ∃ p u, PotN 2 p ∧ 1 ≤ u ∧ u ≤ 1000 ∧ ms = Pot.ds p ∧ ds = [.int u] ∧ d = .tup [.int (1 + tkV p u), .int (1 + tkV (tkS p u) u)] ∧ ms' = Pot.ds (tkS (tkS p u) u)
theorem ok_size {f f1 : Addr} {fd fd1 : FuncData} (F : Fun K "_law_size" "_law_size" s_size f fd) (T : Txt K mg cB) (C__law_take : Cal P w K mg base 1 "_law_take" f1 fd1 ["_law_pot_here", "_law_upto"] (spM R_take)) : FnOk P w K mg base CX0 2 f fd ["_law_pot_here", "_law_most"] (spM R_size) := by
  refine F.ok sc_size (fun vs H Q E h => len_M (fun ms ds d ms' ⟨_, _, _, _, _, _, e, _⟩ => by rw [e]; rfl) h) (fun cdv A outer s H vs Q E hr h => ?_)
  have nd := sc_size.nd
  refine ⟨_, (pss_one (ps_ret (pe_tup (pa_cons (pe_op (k_addU (K := K) rfl) pe_int (pe_call C__law_take.ok (hr.mono (by decide)) rfl C__law_take.mgx C__law_take.kp C__law_take.bd .nil pass0 (pa_cons (pv 0) (pa_cons (pv 1) pa_nil)))) (pa_cons (pe_op (k_addU (K := K) rfl) pe_int (pe_call C__law_take.ok (hr.mono (by decide)) rfl C__law_take.mgx C__law_take.kp C__law_take.bd .nil pass0 (pa_cons (pv 0) (pa_cons (pv 1) pa_nil)))) pa_nil))))), ?_⟩
  refine body_M h fun ms ds d ms' q B r rt => ?_
  obtain ⟨p, u, hp, h1, h2, rfl, rfl, rfl, rfl⟩ := r
  exact nx_ret (ev_tup (eva_cons (ev_op ev_int (ev_callM (eva_one (ev_var rfl)) rfl rfl ⟨p, u, hp.mono (by decide), h1, h2, rfl, rfl, rfl, rfl⟩) ru_addI) (eva_one (ev_op ev_int (ev_callM (eva_one (ev_var rfl)) rfl rfl ⟨tkS p u, u, hp.next h1, h1, h2, rfl, rfl, rfl, rfl⟩) ru_addI))) (by simp)) (rt _ rfl)
end
end W01
namespace W01
open PySem L2 Wd
section
variable {P : Program} {w : World} {K : PySem.W.Frag} {mg : Str → Option Value} {base : Heap} {cB : Addr}
abbrev s_rows : Stmt := top 22
theorem sc_rows : FnScope ["_law_pot_here", "_law_tall", "_law_wide", "_law_way", "_law_rows_here", "_law_row", "_law_marks", "_law_column", "_law_is_there"] ["_law_pot_here", "_law_tall", "_law_wide"] (defScope s_rows) := ⟨rfl, rfl, rfl, by decide +kernel, rfl, by decide +kernel, by decide +kernel⟩
/-- what the law draws: the rows, and the pot behind them -/
def drR (tall wide : Nat) (p : Pot) : List (List Bool) × Pot := rowsGo (tkV p 4) tall wide wide tall (tkS p 4)
def R_rows : List D → List D → D → List D → Prop := fun ms ds d ms' => ∃ p, ∃ tall wide : Nat, PotN 101 p ∧ 1 ≤ tall ∧ tall ≤ 10 ∧ 1 ≤ wide ∧ wide ≤ 10 ∧ ms = Pot.ds p ∧ ds = [.int tall, .int wide] ∧ d = rowsD (drR tall wide p).1 ∧ ms' = Pot.ds (drR tall wide p).2
abbrev esO (tall wide : Nat) (way : Int) (p : Pot) (l : List D) : List Slo := [.mls (Pot.ds p), .dat (.int tall), .dat (.int wide), .dat (.int way), .mls l, .no, .no, .no, .no]
abbrev esI (tall wide : Nat) (way : Int) (i : Nat) (p : Pot) (l0 l : List D) : List Slo := [.mls (Pot.ds p), .dat (.int tall), .dat (.int wide), .dat (.int way), .mls l0, .dat (.int i), .mls l, .no, .no]
theorem ok_rows {f f1 : Addr} {fd fd1 : FuncData} (F : Fun K "_law_rows" "_law_rows" s_rows f fd) (T : TxtL K mg cB) (C__law_take : Cal P w K mg base 1 "_law_take" f1 fd1 ["_law_pot_here", "_law_upto"] (spM R_take)) : FnOk P w K mg base CX0 2 f fd ["_law_pot_here", "_law_tall", "_law_wide"] (spM R_rows) := by
  refine F.ok sc_rows (fun vs H Q E h => len_M (fun ms ds d ms' ⟨_, _, _, _, _, _, _, _, _, e, _⟩ => by rw [e]; rfl) h) (fun cdv A outer s H vs Q E hr h => ?_)
  have nd := sc_rows.nd
  refine ⟨_, (pss_cons (ps_par (i := 3) (j := 4) (by rfl) nd rfl rfl (by decide) rfl rfl (pa_cons (pe_call C__law_take.ok (hr.mono (by decide)) rfl C__law_take.mgx C__law_take.kp C__law_take.bd .nil pass0 (pa_cons (pv 0) (pa_cons pe_int pa_nil))) (pa_cons (pe_lst pa_nil) pa_nil)) (by rfl))
      (pss_cons (ps_for PassesOwn.never rfl (pi_range1 (by rfl) T.b_range (pa_cons (pv 1) pa_nil)) (pg_name (i := 5) nd rfl (by first | exact Or.inl rfl | exact Or.inr rfl)) (pss_cons (ps_set (i := 6) nd rfl (by first | exact Or.inl rfl | exact Or.inr rfl) (pe_lst pa_nil))
      (pss_cons (ps_for PassesOwn.never rfl (pi_range1 (by rfl) T.b_range (pa_cons (pv 2) pa_nil)) (pg_name (i := 7) nd rfl (by first | exact Or.inl rfl | exact Or.inr rfl)) (pss_cons (ps_set (i := 8) nd rfl (by first | exact Or.inl rfl | exact Or.inr rfl) (pe_or (pe_cmpR op_lt (pv 3) pe_int (nomark _)) (pe_or (pe_cmpR op_lt (pe_op op_mod (pe_op (k_addU (K := K) rfl) (pv 5) (pv 7)) (pe_callB (call_maxK rfl) (by rfl) T.b_max (by decide +kernel) (pa_cons (pe_callTy call_intK (by rfl) T.b_int (by decide +kernel) (pa_cons (pv 1) pa_nil)) (pa_cons (pe_callTy call_intK (by rfl) T.b_int (by decide +kernel) (pa_cons (pv 2) pa_nil)) pa_nil)))) pe_int (nomark _)) (pe_one (pe_and (pe_cmpR (k_eqU (K := K) rfl hr.units) (pv 3) pe_int (nomark _)) (pe_one (pe_cmpR op_gt (pe_call C__law_take.ok (hr.mono (by decide)) rfl C__law_take.mgx C__law_take.kp C__law_take.bd .nil pass0 (pa_cons (pv 0) (pa_cons pe_int pa_nil))) pe_int (nomark _))))))))
      (pss_one (ps_expr (pe_bm PySem.F.plainAttrs_list PySem.F.slot_list_append PySem.F.type_list_append mt_append (pv 6) (pa_cons (pe_ifExp (PW.pt (pw_or (pt_val (pv 8)) (pw_or (pt_cmpR (k_eqU (K := K) rfl hr.units) (pe_op op_mod (pv 5) (pv 2)) (pv 7) (nomark _)) (pw_or1 (pt_cmpR (k_eqU (K := K) rfl hr.units) (pe_op op_mod (pv 7) (pv 1)) (pv 5) (nomark _)))))) pe_str pe_str) pa_nil))))))
      (pss_one (ps_expr (pe_bm PySem.F.plainAttrs_list PySem.F.slot_list_append PySem.F.type_list_append mt_append (pv 4) (pa_cons (k_join (K := K) rfl pe_str (pv 6)) pa_nil)))))))
      (pss_one (ps_ret (pe_callTy (k_tuple (K := K) rfl) (by rfl) T.b_tuple (by decide +kernel) (pa_cons (pv 4) pa_nil)))))), ?_⟩
  refine body_M h fun ms ds d ms' q B r rt => ?_
  obtain ⟨p, tall, wide, hp, h0, h1, w0, w1, rfl, rfl, rfl, rfl⟩ := r
  refine nx_seq (nx_parL (ev_callM (eva_one ev_int) rfl rfl ⟨p, 4, hp.mono (by decide), by decide, by decide, rfl, rfl, rfl, rfl⟩) (nx_go ?_))
  have hq : PotN 100 (tkS p 4) := hp.next (by decide)
  unfold drR at rt
  generalize tkV p 4 = way at rt ⊢
  generalize tkS p 4 = p1 at hq rt ⊢
  refine nx_seq (nx_for (vs := [5]) (evi_rng1 (eva_one (ev_var rfl)) ⟨by omega, by omega⟩) (fun i => esO tall wide way (rowsGo way tall wide wide i p1).2 ((rowsGo way tall wide wide i p1).1.map rowD)) ?_ (.inl (by decide)) (fun F' _ i hi => ?_) (nx_go ?_))
  · repeat first | exact le_nil | apply le_eq | apply le_no
  · have hi : i < tall := hi
    refine ⟨_, evg_name (by simp), ?_⟩
    have hp1 : PotN wide (rowsGo way tall wide wide i p1).2 := rowsGo_ok way tall wide (hq.mono (by
      have : (i + 1) * wide ≤ 10 * 10 := Nat.mul_le_mul (by omega) w1
      rw [Nat.add_mul] at this
      omega))
    have hln : (rowsGo way tall wide wide i p1).1.length = i := rowsGo_len way tall wide
    refine nx_seq (nx_new eva_nil (by decide) (nx_go ?_))
    refine nx_seq (nx_for (vs := [7]) (evi_rng1 (eva_one (ev_var rfl)) ⟨by omega, by omega⟩) (fun j => esI tall wide way i (rowGo way tall wide i j (rowsGo way tall wide wide i p1).2).2 ((rowsGo way tall wide wide i p1).1.map rowD) ((rowGo way tall wide i j (rowsGo way tall wide wide i p1).2).1.map sD)) ?_ (.inl (by decide)) (fun F' _ j hj => ?_) (nx_go ?_))
    · repeat first | exact le_nil | apply le_eq | apply le_no
    · have hj : j < wide := hj
      refine ⟨_, evg_name (by simp), ?_⟩
      have hp2 : PotN 1 (rowGo way tall wide i j (rowsGo way tall wide wide i p1).2).2 := rowGo_ok way tall wide (hp1.mono (by omega))
      have hlm : (rowGo way tall wide i j (rowsGo way tall wide wide i p1).2).1.length = j := rowGo_len way tall wide
      show NX F' _ (tSeq _ _ (eLp _ fun σ H => At F' (esI tall wide way i (stepP way tall wide i j (rowGo way tall wide i j (rowsGo way tall wide wide i p1).2).2) ((rowsGo way tall wide wide i p1).1.map rowD) (((rowGo way tall wide i j (rowsGo way tall wide wide i p1).2).1 ++ [mark way tall wide i j (rowGo way tall wide i j (rowsGo way tall wide wide i p1).2).2]).map sD)) σ H))
      rw [List.map_append]
      generalize (rowGo way tall wide i j (rowsGo way tall wide wide i p1).2).2 = pj at hp2
      generalize (rowGo way tall wide i j (rowsGo way tall wide wide i p1).2).1 = bs at hlm
      generalize (rowsGo way tall wide wide i p1).1.map rowD = L0
      have mx : (0 : Int) < (if (wide : Int) > (tall : Int) then (wide : Int) else (tall : Int)) := by split <;> omega
      refine nx_seq (nx_set (d := .bl (there way tall wide i j pj)) (ε1 := (esI tall wide way i (stepP way tall wide i j pj) L0 (bs.map sD)).set 7 (.dat (.int j))) ?_ (nx_go ?_))
      · refine ev_or (b := decide (way < 2)) (ev_op (ev_var rfl) ev_int rd_lt) (fun e1 => ?_) fun e1 => ?_
        · have n1 : ¬ way < 2 := of_decide_eq_false e1
          refine ev_or (b := decide (((i : Int) + j) % (if (wide : Int) > (tall : Int) then (wide : Int) else (tall : Int)) < 2)) (ev_op (ev_op (ev_op (ev_var rfl) (ev_var rfl) ru_addI) (ev_tcb (eva_cons (ev_tcb (eva_one (ev_var rfl)) rn_int) (eva_one (ev_tcb (eva_one (ev_var rfl)) rn_int))) rn_max) (rd_mod mx)) ev_int rd_lt) (fun e2 => ?_) fun e2 => ?_
          · have n2 := of_decide_eq_false e2
            refine ev_and (b := decide (way = 2)) (ev_op (ev_var rfl) ev_int ru_eqI) (fun e3 => ?_) fun e3 => ?_
            · have n3 : way = 2 := of_decide_eq_true e3
              refine EV.to (ev_op (ev_callM (eva_one ev_int) rfl rfl ⟨pj, 3, hp2, by decide, by decide, rfl, rfl, rfl, rfl⟩) ev_int rd_gt) ?_ ?_
              · unfold there
                rw [e1, e2, e3]
                rfl
              · unfold stepP
                rw [if_neg n1, if_neg n2, if_pos n3]
                rfl
            · have n3 : ¬ way = 2 := of_decide_eq_false e3
              refine ⟨?_, ?_⟩
              · unfold there
                rw [e1, e2, e3]
                rfl
              · unfold stepP
                rw [if_neg n1, if_neg n2, if_neg n3]
          · have n2 := of_decide_eq_true e2
            refine ⟨?_, ?_⟩
            · unfold there
              rw [e2]
              simp
            · unfold stepP
              rw [if_neg n1, if_pos n2]
        · have n1 : way < 2 := of_decide_eq_true e1
          refine ⟨?_, ?_⟩
          · unfold there
            rw [e1]
            rfl
          · unfold stepP
            rw [if_pos n1]
      · refine nx_append (d := sD (mark way tall wide i j pj)) (ev_if (b := mark way tall wide i j pj) (EVT.as (evt_or0 (evt_B (ev_var rfl)) fun _ => evt_or0 (evt_test (ev_op (ev_op (ev_var rfl) (ev_var rfl) (rd_mod (by omega))) (ev_var rfl) ru_eqI)) fun _ => evt_test (ev_op (ev_op (ev_var rfl) (ev_var rfl) (rd_mod (by omega))) (ev_var rfl) ru_eqI)) rfl)
          (fun e => EV.as ev_str (by rw [e]; exact sD_t)) (fun e => EV.as ev_str (by rw [e]; exact sD_f))) rfl rfl (by rw [List.length_map]; omega) (nx_goL (nx_at ?_))
        repeat first | exact le_nil | apply le_eq | apply le_no
    · have e : (rowGo way tall wide i wide (rowsGo way tall wide wide i p1).2).1.map sD = ((rowGo way tall wide i wide (rowsGo way tall wide wide i p1).2).1.map signD).map D.str := by rw [List.map_map]; rfl
      have hlm : (rowGo way tall wide i wide (rowsGo way tall wide wide i p1).2).1.length = wide := rowGo_len way tall wide
      show NX F' _ (tDrop _ (eLp _ fun σ H => At F' (esO tall wide way (rowGo way tall wide i wide (rowsGo way tall wide wide i p1).2).2 (((rowsGo way tall wide wide i p1).1 ++ [(rowGo way tall wide i wide (rowsGo way tall wide wide i p1).2).1]).map rowD)) σ H))
      rw [List.map_append]
      refine nx_append (d := rowD (rowGo way tall wide i wide (rowsGo way tall wide wide i p1).2).1) (EV.as (ev_join ev_str (EV.as (ev_frz rfl) (congrArg D.lst e)) (signs_fit (by omega))) (congrArg D.str (join_signs _))) rfl rfl (by rw [List.length_map]; omega) (nx_goL (nx_at ?_))
      repeat first | exact le_nil | apply le_eq | apply le_no
  · exact nx_ret (ev_tcb (eva_one (ev_frz rfl)) rn_tup) (rt _ rfl)
end
end W01
namespace W01
open PySem L2 Wd
section
variable {P : Program} {w : World} {K : PySem.W.Frag} {mg : Str → Option Value} {base : Heap} {cB : Addr}
abbrev s_small_rows : Stmt := top 24
theorem sc_small_rows : FnScope ["_law_pot_here", "_law_most", "_law_tall", "_law_wide"] ["_law_pot_here", "_law_most"] (defScope s_small_rows) := ⟨rfl, rfl, rfl, by decide +kernel, rfl, by decide +kernel, by decide +kernel⟩
/-- rows, how wide they are, and the pot behind them -/
def smW (m : Int) (p : Pot) : Nat := (1 + tkV (tkS p m) m).toNat
def smR (m : Int) (p : Pot) : List (List Bool) × Pot := drR (1 + tkV p m).toNat (smW m p) (tkS (tkS p m) m)
theorem sm_lt {m : Int} {p : Pot} (h : 1 ≤ m) : ((1 + tkV p m).toNat : Int) = 1 + tkV p m ∧ 1 ≤ (1 + tkV p m).toNat ∧ ((1 + tkV p m).toNat : Int) ≤ m := by
  have := tkV_lt (p := p) h
  omega
theorem smR_bd {m : Int} {p : Pot} (h : 1 ≤ m) (h1 : m ≤ 10) : Bd (smR m p).1 (smW m p) := by
  have a := sm_lt (p := p) h
  have b := sm_lt (p := tkS p m) h
  exact rowsGo_bd (by omega) (by omega) (by unfold smW; omega) (by unfold smW; omega)
theorem smR_ok {n : Nat} {m : Int} {p : Pot} (h : 1 ≤ m) (h1 : m ≤ 10) (hp : PotN (n + 103) p) : PotN n (smR m p).2 := by
  have a := sm_lt (p := p) h
  have b := sm_lt (p := tkS p m) h
  refine rowsGo_ok _ _ _ ?_
  have h3 := (((hp.next (n := n + 102) h).next (n := n + 101) h).next (n := n + 100) (u := 4) (by decide))
  refine h3.mono ?_
  have : (1 + tkV p m).toNat * smW m p ≤ 10 * 10 := Nat.mul_le_mul (by omega) (by unfold smW; omega)
  omega
def R_small_rows : List D → List D → D → List D → Prop := fun ms ds d ms' => ∃ p m, PotN 103 p ∧ 1 ≤ m ∧ m ≤ 10 ∧ ms = Pot.ds p ∧ ds = [.int m] ∧ d = rowsD (smR m p).1 ∧ ms' = Pot.ds (smR m p).2
theorem ok_small_rows {f f1 f2 : Addr} {fd fd1 fd2 : FuncData} (F : Fun K "_law_small_rows" "_law_small_rows" s_small_rows f fd) (T : TxtL K mg cB) (C__law_size : Cal P w K mg base 2 "_law_size" f1 fd1 ["_law_pot_here", "_law_most"] (spM R_size)) (C__law_rows : Cal P w K mg base 2 "_law_rows" f2 fd2 ["_law_pot_here", "_law_tall", "_law_wide"] (spM R_rows)) :
    FnOk P w K mg base CX0 3 f fd ["_law_pot_here", "_law_most"] (spM R_small_rows) := by
  refine F.ok sc_small_rows (fun vs H Q E h => len_M (fun ms ds d ms' ⟨_, _, _, _, _, _, e, _⟩ => by rw [e]; rfl) h) (fun cdv A outer s H vs Q E hr h => ?_)
  have nd := sc_small_rows.nd
  refine ⟨_, (pss_cons (ps_asg (pe_call C__law_size.ok (hr.mono (by decide)) rfl C__law_size.mgx C__law_size.kp C__law_size.bd .nil pass0 (pa_cons (pv 0) (pa_cons (pv 1) pa_nil))) (k_gtup (K := K) rfl rfl (pgs_cons (pg_name (i := 2) nd rfl (by first | exact Or.inl rfl | exact Or.inr rfl)) (pgs_cons (pg_name (i := 3) nd rfl (by first | exact Or.inl rfl | exact Or.inr rfl)) pgs_nil))))
      (pss_one (ps_ret (pe_call C__law_rows.ok (hr.mono (by decide)) rfl C__law_rows.mgx C__law_rows.kp C__law_rows.bd .nil pass0 (pa_cons (pv 0) (pa_cons (pv 2) (pa_cons (pv 3) pa_nil))))))), ?_⟩
  refine body_M h fun ms ds d ms' q B r rt => ?_
  obtain ⟨p, m, hp, h1, h2, rfl, rfl, rfl, rfl⟩ := r
  have a := sm_lt (p := p) h1
  have b := sm_lt (p := tkS p m) h1
  refine nx_seq (nx_tup2 (ev_callM (eva_one (ev_var rfl)) rfl rfl ⟨p, m, hp.mono (by decide), h1, by omega, rfl, rfl, rfl, rfl⟩) (nx_go ?_))
  refine nx_ret (ev_callM (eva_cons (ev_var rfl) (eva_one (ev_var rfl))) rfl rfl ⟨tkS (tkS p m) m, (1 + tkV p m).toNat, smW m p, (hp.next (n := 102) h1).next (n := 101) h1, by omega, by omega, by unfold smW; omega, by unfold smW; omega, rfl, ?_, rfl, rfl⟩) (rt _ rfl)
  unfold smW
  rw [a.1, b.1]

abbrev s_ldots : Stmt := top 25
theorem sc_ldots : FnScope ["_law_rows_here", "_law_found", "_law_row", "_law_marks", "_law_column"] ["_law_rows_here"] (defScope s_ldots) := ⟨rfl, rfl, rfl, by decide +kernel, rfl, by decide +kernel, by decide +kernel⟩
def R_ldots : List D → D → Prop := fun ds d => ∃ M w, Sh M w ∧ ds = [rowsD M] ∧ d = .lst (dotsD M w)
/-- the dots of the first rows -/
def dotsTo (M : List (List Bool)) (w i : Nat) : List D := ((List.range i).flatMap fun r => ((List.range w).filter fun c => cell M r c).map fun c => (r, c)).map dotD
theorem dotsTo_succ (M : List (List Bool)) (w i : Nat) : dotsTo M w (i + 1) = dotsTo M w i ++ ((List.range w).filter fun c => cell M i c).map fun c => dotD (i, c) := by
  unfold dotsTo
  rw [List.range_succ, List.flatMap_append, List.map_append]
  simp
theorem dotsTo_len (M : List (List Bool)) {w : Nat} (hw : w ≤ 10) : ∀ i, (dotsTo M w i).length ≤ i * 10
  | 0 => by simp [dotsTo]
  | i + 1 => by
    have h1 := dotsTo_len M hw i
    have h2 := List.length_filter_le (fun c => cell M i c) (List.range w)
    rw [dotsTo_succ, List.length_append, List.length_map]
    rw [List.length_range] at h2
    omega
theorem ok_ldots {f : Addr} {fd : FuncData} (F : Fun K "_law_dots" "_law_dots" s_ldots f fd) (T : TxtL K mg cB) : FnOk P w K mg base CX0 1 f fd ["_law_rows_here"] (spR R_ldots) := by
  refine F.ok sc_ldots (fun vs H Q E h => len_R (fun ds d ⟨M, wd, _, e, _⟩ => by rw [e]; rfl) h) (fun cdv A outer s H vs Q E hr h => ?_)
  have nd := sc_ldots.nd
  refine ⟨_, (pss_cons (ps_set (i := 1) nd rfl (by first | exact Or.inl rfl | exact Or.inr rfl) (pe_lst pa_nil))
      (pss_cons (ps_for PassesOwn.never rfl (pi_enT (K := K) rfl (by rfl) T.b_enumerate (pa_cons (pv 0) pa_nil)) (k_gtup (K := K) rfl rfl (pgs_cons (pg_name (i := 2) nd rfl (by first | exact Or.inl rfl | exact Or.inr rfl)) (pgs_cons (pg_name (i := 3) nd rfl (by first | exact Or.inl rfl | exact Or.inr rfl)) pgs_nil))) (pss_one (ps_expr (pe_bm PySem.F.plainAttrs_list PySem.F.slot_list_extend PySem.F.type_list_extend mt_extend (pv 1) (pa_cons (pe_lc (own := [("_law_column", 4)]) (g := (gName 4)) rfl nd (pi_range1 (by rfl) T.b_range (pa_cons (pe_callB (k_len (K := K) rfl) (by rfl) T.b_len (by decide +kernel) (pa_cons (pv 3) pa_nil)) pa_nil)) (blkOk_by (own := [("_law_column", 4)]) (by kernel_rfl)) (fun _ _ _ _ _ => (pg_name (i := 4) nd rfl (by first | exact Or.inl rfl | exact Or.inr rfl))) (fun _ _ _ _ _ => (pts_one (pt_cmpR (k_eqU (K := K) rfl hr.units) (pe_ix (k_ix (K := K) rfl) (pv 3) (pv 4) (fun _ _ => rfl)) pe_str (nomark _)))) (fun _ _ _ _ _ => (pe_tup (pa_cons (pv 2) (pa_cons (pv 4) pa_nil))))) pa_nil)))))
      (pss_one (ps_ret (pv 1))))), ?_⟩
  refine body_R h fun ds d B r rt => ?_
  obtain ⟨M, wd, sh, rfl, rfl⟩ := r
  have h1 := sh.h1
  have w1 := sh.w1
  refine nx_seq (nx_new eva_nil (by decide) (nx_go ?_))
  refine nx_seq (nx_for (vs := [2, 3]) (evi_enT (eva_one (ev_var rfl))) (fun i => [.dat (rowsD M), .mls (dotsTo M wd i), .no, .no, .no]) ?_ (.inr rfl) (fun F' _ i hi => ?_) (nx_go ?_))
  · repeat first | exact le_nil | apply le_eq | apply le_no
  · rw [List.length_map] at hi
    have hw := sh.ln _ (List.getElem_mem hi)
    refine ⟨_, evg_pair (by simp) (by simp), ?_⟩
    have dl := dotsTo_len M w1 i
    have fl := List.length_filter_le (fun c => cell M i c) (List.range wd)
    rw [List.length_range] at fl
    rw [dotsTo_succ]
    refine nx_extend (es := ((List.range wd).filter fun c => cell M i c).map fun c => dotD (i, c)) (EV.as (ev_filter (evi_rng1 (eva_one (ev_tcb (eva_one (EV.as (ev_var rfl) (rows_at hi))) (rn_lenS (by rw [encRow_len]; omega)))) (by rw [encRow_len]; omega)) (fun c => dotD (i, c)) (fun c => cell M i c) (by rw [encRow_len]; omega) (fun j hj => ?_) fun j hj _ => ?_) ?_) rfl rfl (by rw [List.length_map]; omega) (nx_goL (nx_at ?_))
    · have hj' : j < wd := by rw [encRow_len, hw] at hj; exact hj
      refine EVT.as (evt_test (ev_op (ev_op (EV.as (ev_var rfl) (rows_at hi)) (ev_var rfl) (rd_ixS (by rw [encRow_len]; omega) (row_atI (by omega)))) ev_str ru_eqS)) ?_
      rw [code_eq, cell_eq hi]
    · exact ev_tup (eva_cons (ev_var rfl) (eva_one (ev_var rfl))) (by simp)
    · rw [encRow_len, hw]
      rfl
    · repeat first | exact le_nil | apply le_eq | apply le_no
  · rw [List.length_map]
    exact nx_ret (ev_frz rfl) (rt _)

abbrev s_all_wires : Stmt := top 26
theorem sc_all_wires : FnScope ["_law_rows_here", "_law_at"] ["_law_rows_here"] (defScope s_all_wires) := ⟨rfl, rfl, rfl, by decide +kernel, rfl, by decide +kernel, by decide +kernel⟩
def R_all_wires : List D → D → Prop := fun ds d => ∃ M w, Sh M w ∧ ds = [rowsD M] ∧ d = .lst (wiresD M.length w)
theorem ok_all_wires {f : Addr} {fd : FuncData} (F : Fun K "_law_all_wires" "_law_all_wires" s_all_wires f fd) (T : TxtL K mg cB) : FnOk P w K mg base CX0 1 f fd ["_law_rows_here"] (spR R_all_wires) := by
  refine F.ok sc_all_wires (fun vs H Q E h => len_R (fun ds d ⟨M, wd, _, e, _⟩ => by rw [e]; rfl) h) (fun cdv A outer s H vs Q E hr h => ?_)
  have nd := sc_all_wires.nd
  refine ⟨_, (pss_one (ps_ret (pe_op (k_addU (K := K) rfl) (pe_lc (own := [("_law_at", 1)]) (g := (gName 1)) rfl nd (pi_range1 (by rfl) T.b_range (pa_cons (pe_callB (k_len (K := K) rfl) (by rfl) T.b_len (by decide +kernel) (pa_cons (pe_ix (k_ix (K := K) rfl) (pv 0) pe_int (fun _ _ => rfl)) pa_nil)) pa_nil)) (blkOk_by (own := [("_law_at", 1)]) (by kernel_rfl)) (fun _ _ _ _ _ => (pg_name (i := 1) nd rfl (by first | exact Or.inl rfl | exact Or.inr rfl))) (fun _ _ _ _ _ => pts_nil) (fun _ _ _ _ _ => (pe_tup (pa_cons pe_str (pa_cons (pv 1) pa_nil))))) (pe_lc (own := [("_law_at", 1)]) (g := (gName 1)) rfl nd (pi_range1 (by rfl) T.b_range (pa_cons (pe_callB (k_len (K := K) rfl) (by rfl) T.b_len (by decide +kernel) (pa_cons (pv 0) pa_nil)) pa_nil)) (blkOk_by (own := [("_law_at", 1)]) (by kernel_rfl)) (fun _ _ _ _ _ => (pg_name (i := 1) nd rfl (by first | exact Or.inl rfl | exact Or.inr rfl))) (fun _ _ _ _ _ => pts_nil) (fun _ _ _ _ _ => (pe_tup (pa_cons pe_str (pa_cons (pv 1) pa_nil)))))))), ?_⟩
  refine body_R h fun ds d B r rt => ?_
  obtain ⟨M, wd, sh, rfl, rfl⟩ := r
  have h0 := sh.h0
  have h1 := sh.h1
  have w1 := sh.w1
  have hw0 := sh.ln _ (List.getElem_mem (show 0 < M.length by omega))
  refine nx_ret (EV.as (ev_op (ev_map (evi_rng1 (eva_one (ev_tcb (eva_one (ev_op (ev_var rfl) ev_int (rd_ixT (atI_rows (i := 0) (by omega))))) (rn_lenS (by rw [encRow_len]; omega)))) (by rw [encRow_len]; omega)) (fun c => D.tup [.str "column", .int c]) (by rw [encRow_len]; omega) fun i hi => ev_tup (eva_cons ev_str (eva_one (ev_var rfl))) (by simp))
    (ev_map (evi_rng1 (eva_one (ev_tcb (eva_one (ev_var rfl)) rn_lenT)) (by rw [List.length_map]; omega)) (fun c => D.tup [.str "row", .int c]) (by rw [List.length_map]; omega) fun i hi => ev_tup (eva_cons ev_str (eva_one (ev_var rfl))) (by simp)) (ru_addL ?_)) ?_) (rt _)
  · simp [encRow_len, hw0]
    omega
  · unfold wiresD
    simp [encRow_len, hw0]

abbrev s_turned_dots : Stmt := top 28
theorem sc_turned_dots : FnScope ["_law_dots_here", "_law_row", "_law_column"] ["_law_dots_here"] (defScope s_turned_dots) := ⟨rfl, rfl, rfl, by decide +kernel, rfl, by decide +kernel, by decide +kernel⟩
def R_turned_dots : List D → D → Prop := fun ds d => ∃ M w, Sh M w ∧ ds = [.lst (dotsD M w)] ∧ d = .tup (dotsD (tr M w) M.length)
theorem dot_at {M : List (List Bool)} {w i : Nat} (h : i < (dots M w).length) : (dotsD M w).getD i .non = .tup [.int ((dots M w)[i]).1, .int ((dots M w)[i]).2] := by
  unfold dotsD
  rw [List.getD_eq_getElem?_getD, List.getElem?_map, List.getElem?_eq_getElem h]
  rfl
theorem ok_turned_dots {f : Addr} {fd : FuncData} (F : Fun K "_law_turned_dots" "_law_turned_dots" s_turned_dots f fd) (T : TxtL K mg cB) : FnOk P w K mg base CX0 1 f fd ["_law_dots_here"] (spR R_turned_dots) := by
  refine F.ok sc_turned_dots (fun vs H Q E h => len_R (fun ds d ⟨M, wd, _, e, _⟩ => by rw [e]; rfl) h) (fun cdv A outer s H vs Q E hr h => ?_)
  have nd := sc_turned_dots.nd
  refine ⟨_, (pss_one (ps_ret (pe_callTy (k_tuple (K := K) rfl) (by rfl) T.b_tuple (by decide +kernel) (pa_cons (pe_callB (k_sortedP (K := K) rfl) (by rfl) T.b_sorted (by decide +kernel) (pa_cons (pe_lc (own := [("_law_row", 1), ("_law_column", 2)]) (g := (gTup K 2 (gCons (gName 1) (gCons (gName 2) gNil)))) rfl nd (k_pil (K := K) rfl (pv 0)) (blkOk_by (own := [("_law_row", 1), ("_law_column", 2)]) (by kernel_rfl)) (fun _ _ _ _ _ => (k_gtup (K := K) rfl rfl (pgs_cons (pg_name (i := 1) nd rfl (by first | exact Or.inl rfl | exact Or.inr rfl)) (pgs_cons (pg_name (i := 2) nd rfl (by first | exact Or.inl rfl | exact Or.inr rfl)) pgs_nil)))) (fun _ _ _ _ _ => pts_nil) (fun _ _ _ _ _ => (pe_tup (pa_cons (pv 2) (pa_cons (pv 1) pa_nil))))) pa_nil)) pa_nil)))), ?_⟩
  refine body_R h fun ds d B r rt => ?_
  obtain ⟨M, wd, sh, rfl, rfl⟩ := r
  have dl := dots_len sh
  have ll : (dotsD M wd).length = (dots M wd).length := by simp [dotsD]
  refine nx_ret (EV.as (ev_tcb (eva_one (ev_tcb (eva_one (EV.as (ev_mapP (evi_list (ev_var rfl)) (fun i => .int ((dots M wd).getD i (0, 0)).1) (fun i => .int ((dots M wd).getD i (0, 0)).2) (fun i => prD (zs ((dots M wd).getD i (0, 0)))) (by omega) (fun i hi => ?_) fun i hi => ?_) ?_)) (rn_sortedP (dots_turn sh) (dots_srt _ _)))) rn_tup) ?_) (rt _)
  · rw [dot_at (by omega)]
    simp [show i < (dots M wd).length by omega]
  · exact ev_tup (eva_cons (ev_var rfl) (eva_one (ev_var rfl))) (by simp)
  · rw [ll, List.map_map]
    congr 1
    apply List.ext_getElem
    · simp
    · intro i h1 h2
      simp at h1 h2
      simp [h1]
  · rw [List.map_map]
    rfl
end
end W01
namespace W01
open PySem L2 Wd
section
variable {P : Program} {w : World} {K : PySem.W.Frag} {mg : Str → Option Value} {base : Heap} {cB : Addr}
abbrev s_turned_rows : Stmt := top 27
theorem sc_turned_rows : FnScope ["_law_rows_here", "_law_at", "_law_row"] ["_law_rows_here"] (defScope s_turned_rows) := ⟨rfl, rfl, rfl, by decide +kernel, rfl, by decide +kernel, by decide +kernel⟩
theorem ok_turned_rows {f : Addr} {fd : FuncData} (F : Fun K "_law_turned_rows" "_law_turned_rows" s_turned_rows f fd) (T : TxtL K mg cB) : FnOk P w K mg base CX0 1 f fd ["_law_rows_here"] (spR R_turned) := by
  refine F.ok sc_turned_rows (fun vs H Q E h => len_R (fun ds d ⟨M, wd, _, e, _⟩ => by rw [e]; rfl) h) (fun cdv A outer s H vs Q E hr h => ?_)
  have nd := sc_turned_rows.nd
  refine ⟨_, (pss_one (ps_ret (pe_callTy (k_tuple (K := K) rfl) (by rfl) T.b_tuple (by decide +kernel) (pa_cons (pe_lc (own := [("_law_at", 1)]) (g := (gName 1)) rfl nd (pi_range1 (by rfl) T.b_range (pa_cons (pe_callB (k_len (K := K) rfl) (by rfl) T.b_len (by decide +kernel) (pa_cons (pe_ix (k_ix (K := K) rfl) (pv 0) pe_int (fun _ _ => rfl)) pa_nil)) pa_nil)) (blkOk_by (own := [("_law_at", 1)]) (by kernel_rfl)) (fun _ _ _ _ _ => (pg_name (i := 1) nd rfl (by first | exact Or.inl rfl | exact Or.inr rfl))) (fun _ _ _ _ _ => pts_nil) (fun _ _ _ _ _ => (k_join (K := K) rfl pe_str (pe_lc (own := [("_law_row", 2)]) (g := (gName 2)) rfl nd (k_pit (K := K) rfl (pv 0)) (blkOk_by (own := [("_law_row", 2)]) (by kernel_rfl)) (fun _ _ _ _ _ => (pg_name (i := 2) nd rfl (by first | exact Or.inl rfl | exact Or.inr rfl))) (fun _ _ _ _ _ => pts_nil) (fun _ _ _ _ _ => (pe_ix (k_ix (K := K) rfl) (pv 2) (pv 1) (fun _ _ => rfl))))))) pa_nil)))), ?_⟩
  refine body_R h fun ds d B r rt => ?_
  obtain ⟨M, wd, sh, rfl, rfl⟩ := r
  have h0 := sh.h0
  have h1 := sh.h1
  have w1 := sh.w1
  have hw0 := sh.ln _ (List.getElem_mem (show 0 < M.length by omega))
  refine nx_ret (EV.as (ev_tcb (eva_one (ev_map (evi_rng1 (eva_one (ev_tcb (eva_one (ev_op (ev_var rfl) ev_int (rd_ixT (atI_rows (i := 0) (by omega))))) (rn_lenS (by rw [encRow_len]; omega)))) (by rw [encRow_len]; omega)) (fun c => rowD (M.map fun bs => bs.getD c false)) (by rw [encRow_len]; omega) fun i hi => ?_)) rn_tup) ?_) (rt _)
  · rw [encRow_len, hw0] at hi
    have hi : i < wd := by omega
    refine EV.as (ev_join (ys := M.map fun bs => signD (bs.getD i false)) ev_str (EV.as (ev_map (evi_tup (ev_var rfl)) (fun r => .str (signD ((M.getD r []).getD i false))) (by rw [List.length_map]; omega) fun r hr => ?_) ?_) ?_) ?_
    · rw [List.length_map] at hr
      have hw := sh.ln _ (List.getElem_mem hr)
      refine EV.as (ev_op (EV.as (ev_var rfl) (rows_at hr)) (ev_var rfl) (rd_ixS (by rw [encRow_len]; omega) (row_atI (by omega)))) ?_
      simp [signD, hr]
    · rw [List.length_map]
      congr 1
      apply List.ext_getElem
      · simp
      · intro r h3 h4
        simp at h3 h4
        simp [h3]
    · rw [show (M.map fun bs => signD (bs.getD i false)) = (M.map fun bs => bs.getD i false).map signD by simp]
      exact signs_fit (by rw [List.length_map]; omega)
    · rw [show (M.map fun bs => signD (bs.getD i false)) = (M.map fun bs => bs.getD i false).map signD by simp, join_signs]
      rfl
  · rw [encRow_len, hw0]
    show D.tup _ = D.tup _
    congr 1
    simp [tr]

abbrev s_pot : Stmt := top 19
theorem sc_pot : FnScope ["_law_script", "_law_number", "_law_cell", "_law_own", "_law_base"] ["_law_script", "_law_number"] (defScope s_pot) := ⟨rfl, rfl, rfl, by decide +kernel, rfl, by decide +kernel, by decide +kernel⟩
def absI (i : Int) : Int := if i < 0 then -i else i
def cellV (ns : List Int) (k : Nat) : Int := if k < ns.length then ns.getD k 0 else 29 * k + 13
def potA (c : Int) : Int := absI c % (10 ^ 60) ^ 5 * (if decide (10 ^ 18 ≤ absI c) = true then 1 else 0)
def potB (c : Int) (k : Nat) : Int := (c % 2305843009213693951 * 68023 + 7103 * k * k + 71) % 2305843009213693921
def potOf (ns : List Int) (k : Nat) : Pot := ⟨potA (cellV ns k), potB (cellV ns k) k, 0⟩
theorem potOf_ok (ns : List Int) (k : Nat) : PotN 100000 (potOf ns k) := by
  refine ⟨?_, Int.emod_nonneg _ (by decide), Int.emod_lt_of_pos _ (by decide), show (0 : Int) ≤ 0 by decide, show (0 : Int) + 100000 ≤ 100000 by decide⟩
  refine Int.mul_nonneg (Int.emod_nonneg _ (by decide +kernel)) ?_
  split <;> decide
def R_pot : List D → List D → Prop := fun ds ms => ∃ (ns : List Int) (k : Nat), ns.length ≤ 1000 ∧ k ≤ 100 ∧ ds = [.scr (ns.map D.int), .int k] ∧ ms = Pot.ds (potOf ns k)
theorem len_N {R : List D → List D → Prop} {n : Nat} (hn : ∀ ds d, R ds d → ds.length = n) {vs : List V} {H : Hp} {Q : VK} {E : XK} (h : spN R vs H Q E) : vs.length = n := by
  obtain ⟨B, ds, ms, _, i, r, _⟩ := h
  rw [i.length]
  exact hn ds ms r
theorem ok_pot {f : Addr} {fd : FuncData} (F : Fun K "_law_pot" "_law_pot" s_pot f fd) (T : TxtL K mg cB) : FnOk P w K mg base CX0 1 f fd ["_law_script", "_law_number"] (spN R_pot) := by
  refine F.ok sc_pot (fun vs H Q E h => len_N (fun ds d ⟨_, _, _, _, e, _⟩ => by rw [e]; rfl) h) (fun cdv A outer s H vs Q E hr h => ?_)
  have nd := sc_pot.nd
  refine ⟨_, (pss_cons (ps_set (i := 2) nd rfl (by first | exact Or.inl rfl | exact Or.inr rfl) (pe_ifExp (pt_cmpR op_lt (pv 1) (pe_callB (k_len (K := K) rfl) (by rfl) T.b_len (by decide +kernel) (pa_cons (pv 0) pa_nil)) (nomark _)) (pe_ix (k_ix (K := K) rfl) (pv 0) (pv 1) (fun _ _ => rfl)) (pe_op (k_addU (K := K) rfl) (pe_op op_mulU pe_int (pv 1)) pe_int)))
      (pss_cons (ps_set (i := 3) nd rfl (by first | exact Or.inl rfl | exact Or.inr rfl) (pe_op op_mulU (pe_op op_mod (pe_callTy call_intK (by rfl) T.b_int (by decide +kernel) (pa_cons (pe_callB call_absK (by rfl) T.b_abs (by decide +kernel) (pa_cons (pv 2) pa_nil)) pa_nil)) (pe_op op_powW (pe_op op_powW pe_int pe_int) pe_int)) (pe_callTy call_intK (by rfl) T.b_int (by decide +kernel) (pa_cons (pe_cmpR op_ge (pe_callB call_absK (by rfl) T.b_abs (by decide +kernel) (pa_cons (pv 2) pa_nil)) (pe_op op_powW pe_int pe_int) (nomark _)) pa_nil))))
      (pss_cons (ps_set (i := 4) nd rfl (by first | exact Or.inl rfl | exact Or.inr rfl) (pe_op (k_addU (K := K) rfl) (pe_op (k_addU (K := K) rfl) (pe_op op_mulU (pe_op op_mod (pe_callTy call_intK (by rfl) T.b_int (by decide +kernel) (pa_cons (pv 2) pa_nil)) pe_int) pe_int) (pe_op op_mulU (pe_op op_mulU pe_int (pv 1)) (pv 1))) pe_int))
      (pss_one (ps_ret (pe_lst (pa_cons (pv 3) (pa_cons (pe_op op_mod (pe_callTy call_intK (by rfl) T.b_int (by decide +kernel) (pa_cons (pv 4) pa_nil)) pe_int) (pa_cons pe_int pa_nil))))))))), ?_⟩
  refine body_N h fun ds ms B r rt => ?_
  obtain ⟨ns, k, hn, hk, rfl, rfl⟩ := r
  refine nx_seq (nx_set (d := .int (cellV ns k)) (ε1 := startE 5 [.scr (ns.map D.int), .int k]) (ev_if (b := decide ((k : Int) < (ns.length : Int))) (EVT.as (evt_test (ev_op (ev_var rfl) (ev_tcb (eva_one (ev_var rfl)) rn_lenC) rd_lt)) (by rw [List.length_map])) (fun e => ?_) fun e => ?_) (nx_go ?_))
  · have lt : k < ns.length := by have := of_decide_eq_true e; omega
    refine EV.as (ev_op (ev_var rfl) (ev_var rfl) (rd_ixC (d := .int (ns.getD k 0)) ?_)) ?_
    · rw [atI_nat]
      simp [List.getD_eq_getElem?_getD, lt]
    · unfold cellV
      rw [if_pos lt]
  · have lt : ¬ k < ns.length := by have := of_decide_eq_false e; omega
    refine EV.as (ev_op (ev_op ev_int (ev_var rfl) (ru_mul (.inl ⟨by decide, by decide⟩))) ev_int ru_addI) ?_
    unfold cellV
    rw [if_neg lt]
  · have w1 : CPowW 10 60 := powW_ok (by decide) (by decide) (by decide +kernel)
    have w2 : CPowW (10 ^ (60 : Int).toNat) 5 := powW_ok (by decide) (by decide) (by decide +kernel)
    have w3 : CPowW 10 18 := powW_ok (by decide) (by decide) (by decide +kernel)
    have hb : ∀ b : Bool, CMul (absI (cellV ns k) % ((10 : Int) ^ (60 : Int).toNat) ^ (5 : Int).toNat) (if b = true then 1 else 0) := fun b => .inr (by cases b <;> decide)
    refine nx_seq (nx_set (d := .int (potA (cellV ns k))) (ev_op (ev_op (ev_tcb (eva_one (ev_tcb (eva_one (ev_var rfl)) rn_abs)) rn_int) (ev_op (ev_op ev_int ev_int (rd_powW w1)) ev_int (rd_powW w2)) (rd_mod (by decide +kernel))) (ev_tcb (eva_one (ev_op (ev_tcb (eva_one (ev_var rfl)) rn_abs) (ev_op ev_int ev_int (rd_powW w3)) rd_ge)) rn_intB) (ru_mul (hb _))) (nx_go ?_))
    refine nx_seq (nx_set (ev_op (ev_op (ev_op (ev_op (ev_tcb (eva_one (ev_var rfl)) rn_int) ev_int (rd_mod (by decide))) ev_int (ru_mul (.inr ⟨by decide, by decide⟩))) (ev_op (ev_op ev_int (ev_var rfl) (ru_mul (.inl ⟨by decide, by decide⟩))) (ev_var rfl) (ru_mul (.inr ⟨by omega, by omega⟩))) ru_addI) ev_int ru_addI) (nx_go ?_))
    exact nx_retN (eva_cons (ev_var rfl) (eva_cons (ev_op (ev_tcb (eva_one (ev_var rfl)) rn_int) ev_int (rd_mod (by decide))) (eva_one ev_int))) (by simp) (rt _)
end
end W01
namespace W01
open PySem L2 Wd
/-- a special def of the class -/
structure CalO (P : Program) (w : World) (K : PySem.W.Frag) (mg : Str → Option Value) (base : Heap) (k : Nat) (C : Addr) (nm : Str) (f : Addr) (sp : Sp) : Prop where
  spc : Spc K C nm f
  rn : FnR P w K mg base CX0 k f sp
section
variable {X : Cx} {K : PySem.W.Frag} {n : Nat} {C g : Addr} {sp : Sp}
theorem k_inOwn (hK : X.K = K) (O : CalO X.prog X.w K X.mg X.base n C "__contains__" g sp) (hr : Room n X.A) : OpR X (compareOp .In) (rInOwn C sp E0) := by subst hK; exact op_inOwn O.spc O.rn hr pass0
theorem k_invOwn (hK : X.K = K) (O : CalO X.prog X.w K X.mg X.base n C "__invert__" g sp) (hr : Room n X.A) : UnR X (unaryOp .Invert) (rInvOwn C sp E0) := by subst hK; exact un_invOwn O.spc O.rn hr pass0
theorem k_lenOwn (hK : X.K = K) (O : CalO X.prog X.w K X.mg X.base n C "__len__" g sp) (hr : Room (n + 1) X.A) : CallR X (.builtin "len") (rLenOwn C sp E0) := by subst hK; exact call_lenOwn O.spc O.rn hr pass0
theorem k_eqOwn (hK : X.K = K) (O : CalO X.prog X.w K X.mg X.base n C "__eq__" g sp) (hr : Room n X.A) : OpR X (compareOp .Eq) (rEqOwn K C sp E0) := by subst hK; exact op_eqOwn O.spc O.rn hr pass0
end
section
variable {P : Program} {w : World} {K : PySem.W.Frag} {mg : Str → Option Value} {base : Heap} {cB : Addr}
structure TxtR (K : PySem.W.Frag) (cB : Addr) : Prop where
  nfB : PySem.W.notFirst K cB (.ref cB) = true
  nfT : PySem.W.notFirst K cB (.type "tuple") = true
  nfI : PySem.W.notFirst K cB (.type "int") = true
abbrev s_right : Stmt := top 29
theorem sc_right : FnScope ["_law_pot_here", "_law_rows_here", "_law_board", "_law_dots_here", "_law_wide", "_law_found", "_law_due", "_law_row", "_law_first", "_law_some", "_law_value", "_law_other", "_law_at"] ["_law_pot_here"] (defScope s_right) := ⟨rfl, rfl, rfl, by decide +kernel, rfl, by decide +kernel, by decide +kernel⟩
def szV (p : Pot) : Int := if tkV p 3 = 0 then 10 else if tkV p 3 = 1 then 4 else 2
theorem szV_at (p : Pot) : atI [.int 10, .int 4, .int 2] (tkV p 3) = some (D.int (szV p)) := by
  have h := tkV_lt (p := p) (u := 3) (by decide)
  unfold szV
  rcases (show tkV p 3 = 0 ∨ tkV p 3 = 1 ∨ tkV p 3 = 2 by omega) with e | e | e <;> rw [e] <;> rfl
theorem szV_ok (p : Pot) : 1 ≤ szV p ∧ szV p ≤ 10 := by unfold szV; split <;> (try split) <;> decide
def finR (p : Pot) : Pot := (smR 3 (smR (szV p) (tkS p 3)).2).2
def R_right : List D → List D → D → List D → Prop := fun ms ds d ms' => ∃ p, PotN 300 p ∧ ms = Pot.ds p ∧ ds = [] ∧ d = .bl true ∧ ms' = Pot.ds (finR p)
/-- what a board tells of itself -/
def tells (M : List (List Bool)) (w : Nat) : D := .lst [rowsD M, .int M.length, .int w, .tup (dotsD M w), .tup (wiresD M.length w), .bl (isFull M w), .int (dots M w).length]
theorem dots_in {M : List (List Bool)} {w : Nat} (h : Sh M w) : ∀ p ∈ dots M w, p.1 < 10 ∧ p.2 < 10 := fun p hp => by
  have := mem_dots.mp (show (p.1, p.2) ∈ dots M w from hp)
  have h1 := h.h1
  have h2 := h.w1
  omega
theorem tells_sho {M : List (List Bool)} {w : Nat} (h : Sh M w) : Sho 20000 (tells M w) := by
  have h1 := h.h1
  have w1 := h.w1
  have dl := dots_len h
  refine sho_lst (n := 2000) (fun d hd => ?_) (by simp)
  simp only [List.mem_cons, List.not_mem_nil, or_false] at hd
  rcases hd with rfl | rfl | rfl | rfl | rfl | rfl | rfl
  · refine sho_tup (n := 10) (fun d hd => ?_) (by rw [List.length_map]; omega)
    obtain ⟨bs, hb, rfl⟩ := List.mem_map.mp hd
    exact sho_str (encRow_ok bs) (by rw [encRow_size, h.ln bs hb]; exact w1)
  · exact (sho_int (by omega)).mono (by decide)
  · exact (sho_int (by omega)).mono (by decide)
  · refine sho_tup (n := 18) (fun d hd => ?_) (by simp only [dotsD, List.length_map]; omega)
    obtain ⟨p, hp, rfl⟩ := List.mem_map.mp hd
    have := dots_in h p hp
    refine sho_tup (n := 8) (fun d hd => ?_) (by simp)
    simp only [List.mem_cons, List.not_mem_nil, or_false] at hd
    rcases hd with rfl | rfl
    · exact sho_int (by omega)
    · exact sho_int (by omega)
  · refine sho_tup (n := 20) (fun d hd => ?_) (by simp [wiresD]; omega)
    have two : ∀ (x : Str) (i : Nat), PyData.strOk x = true → x.cps.size ≤ 8 → i ≤ 100 → Sho 20 (.tup [.str x, .int i]) := fun x i hx hz hi => by
      refine sho_tup (n := 8) (fun d hd => ?_) (by simp)
      simp only [List.mem_cons, List.not_mem_nil, or_false] at hd
      rcases hd with rfl | rfl
      · exact sho_str hx hz
      · exact sho_int hi
    rcases List.mem_append.mp hd with hd | hd
    · obtain ⟨c, hc, rfl⟩ := List.mem_map.mp hd
      have := List.mem_range.mp hc
      exact two _ _ (by decide +kernel) (by decide +kernel) (by omega)
    · obtain ⟨c, hc, rfl⟩ := List.mem_map.mp hd
      have := List.mem_range.mp hc
      exact two _ _ (by decide +kernel) (by decide +kernel) (by omega)
  · exact sho_bl.mono (by decide)
  · exact (sho_int (by omega)).mono (by decide)
theorem tells_pl (M : List (List Bool)) (w : Nat) : PlN 3 (tells M w) := by
  refine pln_lst fun d hd => ?_
  simp only [List.mem_cons, List.not_mem_nil, or_false] at hd
  rcases hd with rfl | rfl | rfl | rfl | rfl | rfl | rfl
  · exact (pln_rows M).mono (by decide)
  · exact pln_int
  · exact pln_int
  · exact pln_dots _
  · refine pln_tup fun d hd => ?_
    have two : ∀ (x : Str) (i : Int), PyData.strOk x = true → PlN 1 (.tup [.str x, .int i]) := fun x i hx => pln_tup fun d hd => by
      simp only [List.mem_cons, List.not_mem_nil, or_false] at hd
      rcases hd with rfl | rfl
      · exact pln_str hx
      · exact pln_int
    rcases List.mem_append.mp hd with hd | hd
    · obtain ⟨c, hc, rfl⟩ := List.mem_map.mp hd
      exact two _ _ (by decide +kernel)
    · obtain ⟨c, hc, rfl⟩ := List.mem_map.mp hd
      exact two _ _ (by decide +kernel)
  · exact pln_bl
  · exact pln_int
theorem rn_tells {M : List (List Bool)} {w : Nat} (h : Sh M w) : RDn (rReprD K) [tells M w] (.str (tells M w).py.shown) :=
  rn_repr (tells_pl M w).to (tells_sho h).sh (Nat.le_trans (tells_pl M w).dep (by decide)) ((tells_sho h).len (by decide)) (.inl ⟨_, rfl⟩)
/-- there is a dot -/
theorem dots_some {M : List (List Bool)} {w : Nat} (h : Bd M w) : 0 < (dots M w).length := by
  have h0 := h.sh.h0
  have hm := h.hr _ (List.getElem_mem (show 0 < M.length by omega))
  obtain ⟨c, hc, e⟩ := List.getElem_of_mem hm
  have hw := h.sh.ln _ (List.getElem_mem (show 0 < M.length by omega))
  have : (0, c) ∈ dots M w := mem_dots.mpr ⟨by omega, by omega, by unfold cell; simp [List.getD_eq_getElem?_getD, show 0 < M.length by omega, hc, e]⟩
  exact List.length_pos_of_mem this
theorem only_tup {ds : List D} (h : ∀ d ∈ ds, ∀ C gs, d ≠ .obj C gs) : Only2 cB (.tup ds) := ⟨fun C gs e => (nomatch e), fun es e d hd C gs z => by cases e; exact absurd z (h d hd C gs)⟩
theorem only_pair {a b : Int} : Only2 cB (.tup [.int a, .int b]) := only_tup fun d hd C gs => by
  simp only [List.mem_cons, List.not_mem_nil, or_false] at hd
  rcases hd with rfl | rfl <;> simp
theorem only_plain {x : D} (h : ∀ C gs, x ≠ .obj C gs) (h2 : ∀ ds, x ≠ .tup ds) : Only2 cB x := ⟨fun C gs e => absurd e (h C gs), fun ds e => absurd e (h2 ds)⟩
theorem only_board {M : List (List Bool)} {w : Nat} : Only2 cB (boardD cB M w) := ⟨fun C gs e => by cases e; rfl, fun ds e => (nomatch e)⟩
theorem only_bools {a b : Bool} : Only2 cB (.tup [.bl a, .bl b]) := only_tup fun d hd C gs => by
  simp only [List.mem_cons, List.not_mem_nil, or_false] at hd
  rcases hd with rfl | rfl <;> simp
theorem only_mix {a : Int} {b : Bool} : Only2 cB (.tup [.int a, .bl b]) := only_tup fun d hd C gs => by
  simp only [List.mem_cons, List.not_mem_nil, or_false] at hd
  rcases hd with rfl | rfl <;> simp
theorem small_log {i : Nat} (h : i < 10) : ((i : Int)).natAbs.log2 < 1920 := by
  have h1 : ((i : Int)).natAbs = i := rfl
  rw [h1]
  by_cases z : i = 0
  · subst z; decide
  · have := (Nat.log2_lt (k := 4) z).mpr (by omega)
    omega
/-- what is never in a board -/
def somes (M : List (List Bool)) (w : Nat) (cB : Addr) (r c : Nat) : List D :=
  [.non, .int r, .lst [.int r, .int c], .tup ([.int r, .int c] ++ [.int 0]), .tup ([.int r, .int c].take 1), .tup [.tup [.int r, .int c]], .tup [.str (toString (r : Int)), .int c], .dic [], rowsD M, boardD cB M w]
theorem somes_no {M : List (List Bool)} {w : Nat} {cB : Addr} {r c : Nat} : ∀ x ∈ somes M w cB r c, inDots M w x = false ∧ Only2 cB x := by
  intro x hx
  simp only [somes, List.mem_cons, List.not_mem_nil, or_false] at hx
  rcases hx with rfl | rfl | rfl | rfl | rfl | rfl | rfl | rfl | rfl | rfl
  · exact ⟨by simp [inDots], only_plain (by simp) (by simp)⟩
  · exact ⟨by simp [inDots], only_plain (by simp) (by simp)⟩
  · exact ⟨by simp [inDots], only_plain (by simp) (by simp)⟩
  · exact ⟨by simp [inDots], only_tup (by simp)⟩
  · exact ⟨by simp [inDots], only_tup (by simp)⟩
  · exact ⟨by simp [inDots], only_tup (by simp)⟩
  · exact ⟨by simp [inDots], only_tup (by simp)⟩
  · exact ⟨by simp [inDots], only_plain (by simp) (by simp)⟩
  · refine ⟨?_, only_tup fun d hd C gs e => ?_⟩
    · unfold rowsD
      match M with
      | [] => simp [inDots]
      | [a] => simp [inDots]
      | [a, b] => simp [inDots, rowD]
      | a :: b :: c :: l => simp [inDots]
    · obtain ⟨bs, _, rfl⟩ := List.mem_map.mp hd
      cases e
  · exact ⟨by simp [inDots, boardD], only_board⟩
theorem noB_dots (M : List (List Bool)) (w : Nat) : (D.tup (dotsD M w)).noB = true := by
  have h : ∀ l : List (Nat × Nat), D.noBA (l.map dotD) = true := fun l => by
    induction l with
    | nil => simp [D.noBA]
    | cons a l ih => simp [D.noBA, noB_dot, ih]
  simp only [D.noB, dotsD, h]
abbrev esR (M : List (List Bool)) (wd : Nat) (cB : Addr) (p : Pot) (a b c : Slo) : List Slo := [.mls (Pot.ds p), .dat (rowsD M), .dat (boardD cB M wd), .dat (.lst (dotsD M wd)), .dat (.int wd), .dat (tells M wd), .dat (tells M wd), .no, a, b, .no, c, .no]
theorem len_M0 {R : List D → List D → D → List D → Prop} {n : Nat} (hn : ∀ ms ds d ms', R ms ds d ms' → ds.length + 1 = n) {vs : List V} {H : Hp} {Q : VK} {E : XK} (h : spM R vs H Q E) : vs.length = n := len_M hn h
theorem ok_right {f : Addr} {fd : FuncData} {a1 a2 a3 a4 a5 a6 b1 b2 b3 b4 b5 : Addr} {e1 e2 e3 e4 e5 e6 e7 : FuncData} (F : Fun K "_law_right" "_law_right" s_right f fd) (T : TxtL K mg cB) (U : TxtB K cB) (Z : TxtR K cB)
    (C__law_small_rows : Cal P w K mg base 3 "_law_small_rows" a1 e1 ["_law_pot_here", "_law_most"] (spM R_small_rows)) (C__law_of : Cal P w K mg base 2 "_law_of" a2 e2 ["_law_pot_here", "_law_some"] (spM R_of))
    (C__law_dots : Cal P w K mg base 1 "_law_dots" a3 e3 ["_law_rows_here"] (spR R_ldots)) (C__law_all_wires : Cal P w K mg base 1 "_law_all_wires" a4 e4 ["_law_rows_here"] (spR R_all_wires))
    (C__law_turned_rows : Cal P w K mg base 1 "_law_turned_rows" a5 e5 ["_law_rows_here"] (spR R_turned)) (C__law_turned_dots : Cal P w K mg base 1 "_law_turned_dots" a6 e6 ["_law_dots_here"] (spR R_turned_dots))
    (C_Board : CalC P w K mg base 3 "Board" cB b1 e7 ["self", "rows"] (spI cB R_init)) (O_contains : CalO P w K mg base 3 cB "__contains__" b2 (spR (R_contains cB))) (O_len : CalO P w K mg base 1 cB "__len__" b3 (spR (R_len cB)))
    (O_invert : CalO P w K mg base 5 cB "__invert__" b4 (spR (R_invert cB))) (O_eq : CalO P w K mg base 1 cB "__eq__" b5 (spR (R_eq cB))) :
    FnG P w K mg base 7 f fd ["_law_pot_here"] (spM R_right) := by
  refine fnG_of F sc_right (fun vs H Q E h => len_M (fun ms ds d ms' ⟨_, _, _, e, _⟩ => by rw [e]; rfl) h) (fun cdv A outer s H vs Q E gd hr h => ?_)
  have nd := sc_right.nd
  refine ⟨_, (pss_cons (ps_set (i := 1) nd rfl (by first | exact Or.inl rfl | exact Or.inr rfl) (pe_call C__law_small_rows.ok (hr.mono (by decide)) rfl C__law_small_rows.mgx C__law_small_rows.kp C__law_small_rows.bd .nil pass0 (pa_cons (pv 0) (pa_cons (pe_call C__law_of.ok (hr.mono (by decide)) rfl C__law_of.mgx C__law_of.kp C__law_of.bd .nil pass0 (pa_cons (pv 0) (pa_cons (pe_lst (pa_cons pe_int (pa_cons pe_int (pa_cons pe_int pa_nil)))) pa_nil))) pa_nil))))
      (pss_cons (ps_asg (pe_tup (pa_cons (pe_make C_Board.mkk C_Board.ok (hr.mono (by decide)) rfl C_Board.mgx C_Board.bd .nil pass0 (pa_cons (pv 1) pa_nil)) (pa_cons (pe_call C__law_dots.ok (hr.mono (by decide)) rfl C__law_dots.mgx C__law_dots.kp C__law_dots.bd .nil pass0 (pa_cons (pv 1) pa_nil)) (pa_cons (pe_callB (k_len (K := K) rfl) (by rfl) T.b_len (by decide +kernel) (pa_cons (pe_ix (k_ix (K := K) rfl) (pv 1) pe_int (fun _ _ => rfl)) pa_nil)) pa_nil)))) (k_gtup (K := K) rfl rfl (pgs_cons (pg_name (i := 2) nd rfl (by first | exact Or.inl rfl | exact Or.inr rfl)) (pgs_cons (pg_name (i := 3) nd rfl (by first | exact Or.inl rfl | exact Or.inr rfl)) (pgs_cons (pg_name (i := 4) nd rfl (by first | exact Or.inl rfl | exact Or.inr rfl)) pgs_nil)))))
      (pss_cons (ps_set (i := 5) nd rfl (by first | exact Or.inl rfl | exact Or.inr rfl) (pe_lst (pa_cons (k_fld (K := K) rfl (pv 2) rfl) (pa_cons (k_fld (K := K) rfl (pv 2) rfl) (pa_cons (k_fld (K := K) rfl (pv 2) rfl) (pa_cons (k_fld (K := K) rfl (pv 2) rfl) (pa_cons (k_fld (K := K) rfl (pv 2) rfl) (pa_cons (k_fld (K := K) rfl (pv 2) rfl) (pa_cons (pe_callB (k_lenOwn (K := K) rfl O_len (hr.mono (by decide))) (by rfl) T.b_len (by decide +kernel) (pa_cons (pv 2) pa_nil)) pa_nil)))))))))
      (pss_cons (ps_set (i := 6) nd rfl (by first | exact Or.inl rfl | exact Or.inr rfl) (pe_lst (pa_cons (pv 1) (pa_cons (pe_callB (k_len (K := K) rfl) (by rfl) T.b_len (by decide +kernel) (pa_cons (pv 1) pa_nil)) (pa_cons (pv 4) (pa_cons (pe_callTy (k_tuple (K := K) rfl) (by rfl) T.b_tuple (by decide +kernel) (pa_cons (pv 3) pa_nil)) (pa_cons (pe_callTy (k_tuple (K := K) rfl) (by rfl) T.b_tuple (by decide +kernel) (pa_cons (pe_call C__law_all_wires.ok (hr.mono (by decide)) rfl C__law_all_wires.mgx C__law_all_wires.kp C__law_all_wires.bd .nil pass0 (pa_cons (pv 1) pa_nil)) pa_nil)) (pa_cons (pe_cmpR (k_eqU (K := K) rfl hr.units) (pe_callB (k_len (K := K) rfl) (by rfl) T.b_len (by decide +kernel) (pa_cons (pv 3) pa_nil)) (pe_op op_mulU (pe_callB (k_len (K := K) rfl) (by rfl) T.b_len (by decide +kernel) (pa_cons (pv 1) pa_nil)) (pv 4)) (nomark _)) (pa_cons (pe_callB (k_len (K := K) rfl) (by rfl) T.b_len (by decide +kernel) (pa_cons (pv 3) pa_nil)) pa_nil)))))))))
      (pss_cons (ps_if (pt_cmpR (k_neU (K := K) rfl hr.units) (pe_callB (k_repr (K := K) rfl gd hr) (by rfl) T.b_repr (by decide +kernel) (pa_cons (pv 5) pa_nil)) (pe_callB (k_repr (K := K) rfl gd hr) (by rfl) T.b_repr (by decide +kernel) (pa_cons (pv 6) pa_nil)) (nomark _)) (pss_one (ps_ret pe_bl)) pss_nil)
      (pss_cons (ps_for PassesOwn.never rfl (pi_range2 (by rfl) T.b_range (pa_cons (pe_un un_neg pe_int) (pa_cons (pe_op (k_addU (K := K) rfl) (pe_callB (k_len (K := K) rfl) (by rfl) T.b_len (by decide +kernel) (pa_cons (pv 1) pa_nil)) pe_int) pa_nil))) (pg_name (i := 7) nd rfl (by first | exact Or.inl rfl | exact Or.inr rfl)) (pss_one (ps_if (pt_not (pt_val (pe_callB (k_all (K := K) rfl rfl) (by rfl) T.b_all (by decide +kernel) (pa_cons (pe_lc (own := [("_law_at", 12)]) (g := (gName 12)) rfl nd (pi_range2 (by rfl) T.b_range (pa_cons (pe_un un_neg pe_int) (pa_cons (pe_op (k_addU (K := K) rfl) (pv 4) pe_int) pa_nil))) (blkOk_by (own := [("_law_at", 12)]) (by kernel_rfl)) (fun _ _ _ _ _ => (pg_name (i := 12) nd rfl (by first | exact Or.inl rfl | exact Or.inr rfl))) (fun _ _ _ _ _ => pts_nil) (fun _ _ _ _ _ => (pe_cmpR (k_eqU (K := K) rfl hr.units) (pe_cmpR (k_inOwn (K := K) rfl O_contains (hr.mono (by decide))) (pe_tup (pa_cons (pv 7) (pa_cons (pv 12) pa_nil))) (pv 2) (by rfl)) (pe_cmpR (k_inU (K := K) rfl (hr65 hr)) (pe_tup (pa_cons (pv 7) (pa_cons (pv 12) pa_nil))) (pv 3) (by rfl)) (nomark _)))) pa_nil)))) (pss_one (ps_ret pe_bl)) pss_nil)))
      (pss_cons (ps_set (i := 8) nd rfl (by first | exact Or.inl rfl | exact Or.inr rfl) (pe_ix (k_ix (K := K) rfl) (pv 3) pe_int (fun _ _ => rfl)))
      (pss_cons (ps_set (i := 9) nd rfl (by first | exact Or.inl rfl | exact Or.inr rfl) (pe_lst (pa_cons pe_non (pa_cons (pe_ix (k_ix (K := K) rfl) (pv 8) pe_int (fun _ _ => rfl)) (pa_cons (pe_callTy (k_list (K := K) rfl) (by rfl) T.b_list (by decide +kernel) (pa_cons (pv 8) pa_nil)) (pa_cons (pe_op (k_addU (K := K) rfl) (pv 8) (pe_tup (pa_cons pe_int pa_nil))) (pa_cons (pe_slice (k_slT (K := K) rfl) (pv 8) po_none (po_some pe_int)) (pa_cons (pe_tup (pa_cons (pv 8) pa_nil)) (pa_cons (pe_tup (pa_cons (pe_callTy call_strK (by rfl) T.b_str (by decide +kernel) (pa_cons (pe_ix (k_ix (K := K) rfl) (pv 8) pe_int (fun _ _ => rfl)) pa_nil)) (pa_cons (pe_ix (k_ix (K := K) rfl) (pv 8) pe_int (fun _ _ => rfl)) pa_nil))) (pa_cons pe_dnewK (pa_cons (pv 1) (pa_cons (pv 2) pa_nil))))))))))))
      (pss_cons (ps_for PassesOwn.never rfl (k_pil (K := K) rfl (pv 9)) (pg_name (i := 10) nd rfl (by first | exact Or.inl rfl | exact Or.inr rfl)) (pss_one (ps_if (pt_cmpR (k_inOwn (K := K) rfl O_contains (hr.mono (by decide))) (pv 10) (pv 2) (by rfl)) (pss_one (ps_ret pe_bl)) pss_nil)))
      (pss_cons (ps_if (PW.pt (pw_or (pt_cmpR (k_inOwn (K := K) rfl O_contains (hr.mono (by decide))) (pe_tup (pa_cons pe_bl (pa_cons pe_bl pa_nil))) (pv 2) (by rfl)) (pw_or (pt_cmpR (k_inOwn (K := K) rfl O_contains (hr.mono (by decide))) (pe_tup (pa_cons pe_bl (pa_cons pe_bl pa_nil))) (pv 2) (by rfl)) (pw_or1 (pt_cmpR (k_inOwn (K := K) rfl O_contains (hr.mono (by decide))) (pe_tup (pa_cons (pe_ix (k_ix (K := K) rfl) (pv 8) pe_int (fun _ _ => rfl)) (pa_cons (pe_callTy call_boolK (by rfl) T.b_bool (by decide +kernel) (pa_cons (pe_ix (k_ix (K := K) rfl) (pv 8) pe_int (fun _ _ => rfl)) pa_nil)) pa_nil))) (pv 2) (by rfl)))))) (pss_one (ps_ret pe_bl)) pss_nil)
      (pss_cons (ps_set (i := 11) nd rfl (by first | exact Or.inl rfl | exact Or.inr rfl) (pe_call C__law_small_rows.ok (hr.mono (by decide)) rfl C__law_small_rows.mgx C__law_small_rows.kp C__law_small_rows.bd .nil pass0 (pa_cons (pv 0) (pa_cons pe_int pa_nil))))
      (pss_cons (ps_if (PW.pt (pw_or (pt_cmpR (k_neU (K := K) rfl hr.units) (pe_cmpR (k_eqOwn (K := K) rfl O_eq (hr.mono (by decide))) (pv 2) (pe_make C_Board.mkk C_Board.ok (hr.mono (by decide)) rfl C_Board.mgx C_Board.bd .nil pass0 (pa_cons (pv 11) pa_nil)) (nomark _)) (pe_cmpR (k_eqU (K := K) rfl hr.units) (pv 1) (pv 11) (nomark _)) (nomark _)) (pw_or (pt_not (pt_cmpR (k_eqOwn (K := K) rfl O_eq (hr.mono (by decide))) (pv 2) (pe_make C_Board.mkk C_Board.ok (hr.mono (by decide)) rfl C_Board.mgx C_Board.bd .nil pass0 (pa_cons (pv 1) pa_nil)) (nomark _))) (pw_or (pt_cmpR (k_eqOwn (K := K) rfl O_eq (hr.mono (by decide))) (pv 2) (pv 1) (nomark _)) (pw_or1 (pt_cmpR (k_eqOwn (K := K) rfl O_eq (hr.mono (by decide))) (pv 2) pe_int (nomark _))))))) (pss_one (ps_ret pe_bl)) pss_nil)
      (pss_one (ps_ret (pe_and (pe_cmpR (k_eqU (K := K) rfl hr.units) (k_fld (K := K) rfl (pe_un (k_invOwn (K := K) rfl O_invert (hr.mono (by decide))) (pv 2)) rfl) (pe_call C__law_turned_rows.ok (hr.mono (by decide)) rfl C__law_turned_rows.mgx C__law_turned_rows.kp C__law_turned_rows.bd .nil pass0 (pa_cons (pv 1) pa_nil)) (nomark _)) (pe_and (pe_cmpR (k_eqOwn (K := K) rfl O_eq (hr.mono (by decide))) (pe_un (k_invOwn (K := K) rfl O_invert (hr.mono (by decide))) (pe_un (k_invOwn (K := K) rfl O_invert (hr.mono (by decide))) (pv 2))) (pv 2) (nomark _)) (pe_one (pe_cmpR (k_eqU (K := K) rfl hr.units) (k_fld (K := K) rfl (pe_un (k_invOwn (K := K) rfl O_invert (hr.mono (by decide))) (pv 2)) rfl) (pe_call C__law_turned_dots.ok (hr.mono (by decide)) rfl C__law_turned_dots.mgx C__law_turned_dots.kp C__law_turned_dots.bd .nil pass0 (pa_cons (pv 3) pa_nil)) (nomark _))))))))))))))))))), ?_⟩
  refine body_M h fun ms ds d ms' q B r rt => ?_
  obtain ⟨p, hp, rfl, rfl, rfl, rfl⟩ := r
  have so := szV_ok p
  have hp1 : PotN 299 (tkS p 3) := hp.next (by decide)
  refine nx_seq (nx_set (d := rowsD (smR (szV p) (tkS p 3)).1) (ev_callM (eva_one (ev_callM (eva_one (ev_lst (eva_cons ev_int (eva_cons ev_int (eva_one ev_int))) (by simp))) rfl rfl ⟨p, _, hp.mono (by decide), by simp, by simp, rfl, rfl, szV_at p, rfl⟩)) rfl rfl ⟨tkS p 3, szV p, hp1.mono (by decide), so.1, so.2, rfl, rfl, rfl, rfl⟩) (nx_go ?_))
  have bd := smR_bd (p := tkS p 3) so.1 so.2
  have hp2 : PotN 103 (smR (szV p) (tkS p 3)).2 := smR_ok so.1 so.2 (hp1.mono (by decide))
  unfold finR at rt
  generalize smW (szV p) (tkS p 3) = wd at bd
  generalize (smR (szV p) (tkS p 3)).1 = M at bd
  generalize (smR (szV p) (tkS p 3)).2 = p2 at hp2 rt
  have sh := bd.sh
  have h0 := sh.h0
  have h1 := sh.h1
  have w0 := sh.w0
  have w1 := sh.w1
  have hw0 := sh.ln _ (List.getElem_mem (show 0 < M.length by omega))
  have dl := dots_len sh
  have dp := dots_some bd
  have ll : (dotsD M wd).length = (dots M wd).length := by simp [dotsD]
  have hk : ∀ (N : List (List Bool)) (v : Nat), ∀ C gs, boardD cB N v = .obj C gs → ClsK K C := fun N v C gs e => by cases e; exact T.cls
  refine nx_seq (nx_tup3 (ev_tup (eva_cons (ev_make (eva_one (ev_var rfl)) ⟨M, wd, bd, rfl, rfl⟩) (eva_cons (ev_call (eva_one (ev_var rfl)) ⟨M, wd, sh, rfl, rfl⟩) (eva_one (EV.as (d' := .int wd) (ev_tcb (eva_one (ev_op (ev_var rfl) ev_int (rd_ixT (atI_rows (i := 0) (by omega))))) (rn_lenS (by rw [encRow_len]; omega))) (by rw [encRow_len, hw0]))))) (by simp)) (nx_go ?_))
  refine nx_seq (nx_set (d := tells M wd) (ev_lst (eva_cons (ev_fld (ev_var rfl) T.cls.cl U.n_rows rfl) (eva_cons (ev_fld (ev_var rfl) T.cls.cl U.n_height rfl) (eva_cons (ev_fld (ev_var rfl) T.cls.cl U.n_width rfl) (eva_cons (ev_fld (ev_var rfl) T.cls.cl U.n_dots rfl) (eva_cons (ev_fld (ev_var rfl) T.cls.cl U.n_wires rfl) (eva_cons (ev_fld (ev_var rfl) T.cls.cl U.n_full rfl) (eva_one (ev_tcb (eva_one (ev_var rfl)) (rn_lenOwn (by omega) ⟨M, wd, rfl, rfl⟩))))))))) (by simp)) (nx_go ?_))
  refine nx_seq (nx_set (d := tells M wd) (EV.as (ev_lst (eva_cons (ev_var rfl) (eva_cons (ev_tcb (eva_one (ev_var rfl)) rn_lenT) (eva_cons (ev_var rfl) (eva_cons (ev_tcb (eva_one (ev_var rfl)) rn_tup) (eva_cons (ev_tcb (eva_one (ev_call (eva_one (ev_var rfl)) ⟨M, wd, sh, rfl, rfl⟩)) rn_tup) (eva_cons (ev_op (ev_tcb (eva_one (ev_var rfl)) rn_lenL) (ev_op (ev_tcb (eva_one (ev_var rfl)) rn_lenT) (ev_var rfl) (ru_mul (.inr ⟨by omega, by omega⟩))) ru_eqI) (eva_one (ev_tcb (eva_one (ev_var rfl)) rn_lenL)))))))) (by simp)) ?_) (nx_go ?_))
  · unfold tells isFull
    rw [List.length_map, ll]
  refine nx_seq (nx_if (b := false) (EVT.as (evt_test (ev_op (ev_tcb (eva_one (ev_var rfl)) (rn_tells sh)) (ev_tcb (eva_one (ev_var rfl)) (rn_tells sh)) ru_neS)) (by simp)) (fun z => nomatch z) fun _ => nx_next (nx_go ?_))
  refine nx_seq (nx_for (vs := [7]) (evi_rng2 (eva_cons (ev_un ev_int rd1_neg) (eva_one (ev_op (ev_tcb (eva_one (ev_var rfl)) rn_lenT) ev_int ru_addI))) (by decide) (by rw [List.length_map]; omega)) (fun _ => esR M wd cB p2 .no .no .no) ?_ (.inl (by decide)) (fun F' _ i hi => ?_) (nx_go ?_))
  · repeat first | exact le_nil | apply le_eq | apply le_no
  · refine ⟨_, evg_name (by simp), nx_if (b := false) (evt_not (b := true) (evt_B (ev_allT (ev_map (evi_rng2 (eva_cons (ev_un ev_int rd1_neg) (eva_one (ev_op (ev_var rfl) ev_int ru_addI))) (by decide) (by omega)) (fun _ => .bl true) (by omega) fun j hj => ?_) fun _ _ => rfl))) (fun z => nomatch z) fun _ => nx_next (nx_goL (nx_at ?_))⟩
    · refine EV.as (ev_op (ev_op (ev_tup (eva_cons (ev_var rfl) (eva_one (ev_var rfl))) (by simp)) (ev_var rfl) (rd_inOwn ⟨M, wd, _, sh, rfl, only_pair, rfl⟩)) (ev_op (ev_tup (eva_cons (ev_var rfl) (eva_one (ev_var rfl))) (by simp)) (ev_var rfl) (ru_inD (pln_pair _ _).to (pln_dotsL _).to)) ru_eqB) ?_
      unfold dotsD
      rw [any_dots]
      simp [inDots]
    · repeat first | exact le_nil | apply le_eq | apply le_no
  obtain ⟨⟨r, c⟩, hd0⟩ : ∃ z, (dots M wd)[0]? = some z := ⟨_, List.getElem?_eq_getElem dp⟩
  have hin := dots_in sh (r, c) (List.mem_of_getElem? hd0)
  have at0 : atI (dotsD M wd) (0 : Int) = some (.tup [.int r, .int c]) := by
    show atI (dotsD M wd) ((0 : Nat) : Int) = _
    rw [atI_nat]
    unfold dotsD
    rw [List.getElem?_map, hd0]
    rfl
  refine nx_seq (nx_set (ev_op (ev_var rfl) ev_int (rd_ixL at0)) (nx_go ?_))
  refine nx_seq (nx_set (d := .lst (somes M wd cB r c)) (ev_lst (eva_cons ev_non (eva_cons (ev_op (ev_var rfl) ev_int (rd_ixT rfl)) (eva_cons (ev_tcb (eva_one (ev_var rfl)) (rn_list (.inr rfl))) (eva_cons (ev_op (ev_var rfl) (ev_tup (eva_one ev_int) (by simp)) (ru_addT (by simp))) (eva_cons (ev_slT (k := 1) (ev_var rfl)) (eva_cons (ev_tup (eva_one (ev_var rfl)) (by simp))
    (eva_cons (ev_tup (eva_cons (ev_tcb (eva_one (ev_op (ev_var rfl) ev_int (rd_ixT rfl))) (rn_str (small_log (by omega)))) (eva_one (ev_op (ev_var rfl) ev_int (rd_ixT rfl)))) (by simp)) (eva_cons ev_dic (eva_cons (ev_var rfl) (eva_one (ev_var rfl))))))))))) (by simp [somes])) (nx_go ?_))
  refine nx_seq (nx_for (vs := [10]) (evi_list (ev_var rfl)) (fun _ => esR M wd cB p2 (.dat (.tup [.int r, .int c])) (.dat (.lst (somes M wd cB r c))) .no) ?_ (.inl (by decide)) (fun F' _ i hi => ?_) (nx_go ?_))
  · repeat first | exact le_nil | apply le_eq | apply le_no
  · have hs := somes_no (M := M) (w := wd) (cB := cB) (r := r) (c := c) ((somes M wd cB r c).getD i .non) (by
      rw [List.getD_eq_getElem?_getD, List.getElem?_eq_getElem hi]
      exact List.getElem_mem _)
    refine ⟨_, evg_name (by simp), nx_if (b := false) (EVT.as (evt_test (ev_op (ev_var rfl) (ev_var rfl) (rd_inOwn ⟨M, wd, _, sh, rfl, hs.2, rfl⟩))) hs.1) (fun z => nomatch z) fun _ => nx_next (nx_goL (nx_at ?_))⟩
    repeat first | exact le_nil | apply le_eq | apply le_no
  refine nx_seq (nx_if (b := false) (evt_or0 (b := false) (c := false) (evt_test (ev_op (ev_tup (eva_cons ev_bl (eva_one ev_bl)) (by simp)) (ev_var rfl) (rd_inOwn ⟨M, wd, _, sh, rfl, only_bools, by simp [inDots]⟩))) fun _ => evt_or0 (b := false) (c := false) (evt_test (ev_op (ev_tup (eva_cons ev_bl (eva_one ev_bl)) (by simp)) (ev_var rfl) (rd_inOwn ⟨M, wd, _, sh, rfl, only_bools, by simp [inDots]⟩))) fun _ =>
    evt_test (ev_op (ev_tup (eva_cons (ev_op (ev_var rfl) ev_int (rd_ixT rfl)) (eva_one (ev_tcb (eva_one (ev_op (ev_var rfl) ev_int (rd_ixT rfl))) rn_bool))) (by simp)) (ev_var rfl) (rd_inOwn ⟨M, wd, _, sh, rfl, only_mix, by simp [inDots]⟩))) (fun z => nomatch z) fun _ => nx_next (nx_go ?_))
  have bd2 := smR_bd (m := 3) (p := p2) (by decide) (by decide)
  refine nx_seq (nx_set (d := rowsD (smR 3 p2).1) (ev_callM (eva_one ev_int) rfl rfl ⟨p2, 3, hp2, by decide, by decide, rfl, rfl, rfl, rfl⟩) (nx_go ?_))
  generalize smW 3 p2 = v2 at bd2
  generalize (smR 3 p2).1 = M2 at bd2
  generalize (smR 3 p2).2 = p3 at rt
  have nob : ∀ (N : List (List Bool)), ∀ C gs, rowsD N ≠ .obj C gs := fun N C gs e => nomatch e
  have noi : ∀ (i : Int), ∀ C gs, D.int i ≠ .obj C gs := fun N C gs e => nomatch e
  refine nx_seq (nx_if (b := false) (evt_or0 (b := false) (c := false) (EVT.as (evt_test (ev_op (ev_op (ev_var rfl) (ev_make (eva_one (ev_var rfl)) ⟨M2, v2, bd2, rfl, rfl⟩) (rd_eqOwn (hk M2 v2) Z.nfB ⟨M, wd, _, rfl, .inl ⟨M2, v2, rfl, rfl⟩⟩)) (ev_op (ev_var rfl) (ev_var rfl) (ru_eqD (pln_rows M).to (pln_rows M2).to)) ru_neB)) (by rw [eqv_rows]; simp)) fun _ =>
    evt_or0 (b := false) (c := false) (EVT.as (evt_not (evt_test (ev_op (ev_var rfl) (ev_make (eva_one (ev_var rfl)) ⟨M, wd, bd, rfl, rfl⟩) (rd_eqOwn (hk M wd) Z.nfB ⟨M, wd, _, rfl, .inl ⟨M, wd, rfl, rfl⟩⟩)))) (by simp)) fun _ =>
    evt_or0 (b := false) (c := false) (evt_test (ev_op (ev_var rfl) (ev_var rfl) (rd_eqOwn (fun C gs e => absurd e (nob M C gs)) Z.nfT ⟨M, wd, _, rfl, .inr ⟨nob M, rfl⟩⟩))) fun _ =>
    evt_test (ev_op (ev_var rfl) ev_int (rd_eqOwn (fun C gs e => absurd e (noi 0 C gs)) Z.nfI ⟨M, wd, _, rfl, .inr ⟨noi 0, rfl⟩⟩))) (fun z => nomatch z) fun _ => nx_next (nx_go ?_))
  refine nx_ret (EV.as (ev_and0 (b := true) (EV.as (ev_op (ev_fld (ev_un (ev_var rfl) (rd_invOwn ⟨M, wd, bd, rfl, rfl⟩)) T.cls.cl U.n_rows rfl) (ev_call (eva_one (ev_var rfl)) ⟨M, wd, sh, rfl, rfl⟩) (ru_eqD (pln_rows _).to (pln_rows _).to)) (by rw [eqv_rows]; simp)) fun _ => ev_and0 (b := true) (c := true)
    (EV.as (ev_op (ev_un (ev_un (ev_var rfl) (rd_invOwn ⟨M, wd, bd, rfl, rfl⟩)) (rd_invOwn ⟨tr M wd, M.length, tr_bd bd, rfl, rfl⟩)) (ev_var rfl) (rd_eqOwn (hk M wd) Z.nfB ⟨_, _, _, rfl, .inl ⟨M, wd, rfl, rfl⟩⟩)) (by rw [tr_tr sh]; simp)) fun _ =>
    EV.as (ev_op (ev_fld (ev_un (ev_var rfl) (rd_invOwn ⟨M, wd, bd, rfl, rfl⟩)) T.cls.cl U.n_dots rfl) (ev_call (eva_one (ev_var rfl)) ⟨M, wd, sh, rfl, rfl⟩) (ru_eqD (pln_dots _).to (pln_dots _).to)) (by rw [(eqv_iff _ _ (noB_dots _ _) (noB_dots _ _)).mpr rfl])) rfl) (rt _ rfl)
end
end W01
namespace W01
open PySem L2 Wd
structure CalG (P : Program) (w : World) (K : PySem.W.Frag) (mg : Str → Option Value) (base : Heap) (k : Nat) (x : Str) (f : Addr) (fd : FuncData) (ps : List Str) (sp : Sp) : Prop where
  ok : FnG P w K mg base k f fd ps sp
  mgx : mg x = some (.ref f)
  kp : PySem.W.keepIn K (.ref f) = true
  bd : Binds K fd ps []
section
variable {P : Program} {w : World} {K : PySem.W.Frag} {mg : Str → Option Value} {base : Heap} {cB : Addr}
abbrev s_law : Stmt := top 30
theorem sc_law : FnScope ["_law_script", "_law_number"] ["_law_script"] (defScope s_law) := ⟨rfl, rfl, rfl, by decide +kernel, rfl, by decide +kernel, by decide +kernel⟩
def R_law : List D → D → Prop := fun ds d => ∃ ns : List Int, ns.length ≤ 1000 ∧ ds = [.scr (ns.map D.int)] ∧ d = .bl true
theorem ok_law {f f1 f2 : Addr} {fd fd1 fd2 : FuncData} (F : Fun K "law" "law" s_law f fd) (T : TxtL K mg cB) (C__law_pot : Cal P w K mg base 1 "_law_pot" f1 fd1 ["_law_script", "_law_number"] (spN R_pot))
    (C__law_right : CalG P w K mg base 7 "_law_right" f2 fd2 ["_law_pot_here"] (spM R_right)) : FnG P w K mg base 8 f fd ["_law_script"] (spR R_law) := by
  refine fnG_of F sc_law (fun vs H Q E h => len_R (fun ds d ⟨_, _, e, _⟩ => by rw [e]; rfl) h) (fun cdv A outer s H vs Q E gd hr h => ?_)
  have nd := sc_law.nd
  refine ⟨_, (pss_one (ps_ret (pe_callB (k_all (K := K) rfl rfl) (by rfl) T.b_all (by decide +kernel) (pa_cons (pe_lc (own := [("_law_number", 1)]) (g := (gName 1)) rfl nd (pi_range1 (by rfl) T.b_range (pa_cons (pe_callB (call_maxK rfl) (by rfl) T.b_max (by decide +kernel) (pa_cons pe_int (pa_cons (pe_callB (call_minK rfl) (by rfl) T.b_min (by decide +kernel) (pa_cons pe_int (pa_cons (pe_callB (k_len (K := K) rfl) (by rfl) T.b_len (by decide +kernel) (pa_cons (pv 0) pa_nil)) pa_nil))) pa_nil))) pa_nil)) (blkOk_by (own := [("_law_number", 1)]) (by kernel_rfl)) (fun _ _ _ _ _ => (pg_name (i := 1) nd rfl (by first | exact Or.inl rfl | exact Or.inr rfl))) (fun _ _ _ _ _ => pts_nil) (fun _ _ _ _ _ => (pe_callG (E := E0) gd C__law_right.ok (hr.mono (by decide)) rfl C__law_right.mgx C__law_right.kp C__law_right.bd (pa_cons (pe_call C__law_pot.ok (hr.mono (by decide)) rfl C__law_pot.mgx C__law_pot.kp C__law_pot.bd .nil pass0 (pa_cons (pv 0) (pa_cons (pv 1) pa_nil))) pa_nil)))) pa_nil)))), ?_⟩
  refine body_R h fun ds d B r rt => ?_
  obtain ⟨ns, hn, rfl, rfl⟩ := r
  refine nx_ret (ev_allT (ev_map (evi_rng1 (eva_one (ev_tcb (eva_cons ev_int (eva_one (ev_tcb (eva_cons ev_int (eva_one (ev_tcb (eva_one (ev_var rfl)) rn_lenC))) rn_min))) rn_max)) ?_) (fun _ => .bl true) ?_ fun i hi => ?_) fun _ _ => rfl) (rt _)
  · split <;> (try split) <;> omega
  · rw [List.length_map]
    split <;> (try split) <;> omega
  · have hi : i ≤ 100 := by
      rw [List.length_map] at hi
      revert hi
      split <;> (try split) <;> omega
    exact ev_callN (eva_cons (ev_var rfl) (eva_one (ev_var rfl))) ⟨ns, i, hn, hi, rfl, rfl⟩ ⟨potOf ns i, (potOf_ok ns i).mono (by decide), rfl, rfl, rfl, rfl⟩
end
end W01
namespace W01
open PySem L2 Wd
theorem kit_out {K : PySem.W.Frag} {C : Addr} {T : String} (hm : PySem.W.kitMeta T = true) (h : PySem.W.mroIn K C (.type T) = some false) : PySem.W.kitOne K (.ref C) (.type T) = some false := by
  have e : (Value.ref C == Value.type T) = false := by rfl
  unfold PySem.W.kitOne PySem.W.kitCls
  rw [e]
  simp only [Bool.false_eq_true, if_false, hm, if_true]
  exact h
theorem kit_inn {K : PySem.W.Frag} {C : Addr} {T : String} (h1 : PySem.W.isClsIn K C = true) (h2 : PySem.W.typeIn K (.ref C) = some (.type "type")) (h : PySem.W.subIn K (.type T) (.ref C) = some false) : PySem.W.kitOne K (.type T) (.ref C) = some false := by
  have e : (Value.type T == Value.ref C) = false := by rfl
  have h3 : ((PySem.W.clsIn K C).isSome && PySem.W.typeIn K (.ref C) == some (.type "type")) = true := by
    rw [h2]
    have : (PySem.W.clsIn K C).isSome = true := h1
    rw [this]
    rfl
  unfold PySem.W.kitOne PySem.W.kitCls
  rw [e]
  simp only [Bool.false_eq_true, if_false, h3, if_true]
  exact h
theorem kit_self {K : PySem.W.Frag} {C : Addr} : PySem.W.kitOne K (.ref C) (.ref C) = some true := by
  unfold PySem.W.kitOne
  exact if_pos (by simp)
theorem m1 : PySem.W.kitMeta "int" = true := by decide +kernel
theorem m2 : PySem.W.kitMeta "bool" = true := by decide +kernel
theorem m3 : PySem.W.kitMeta "tuple" = true := by decide +kernel
theorem m4 : PySem.W.kitMeta "str" = true := by decide +kernel
theorem s1 {K : PySem.W.Frag} {C : Addr} : PySem.W.subIn K (.type "NoneType") (.ref C) = some false := by kernel_rfl
theorem s2 {K : PySem.W.Frag} {C : Addr} : PySem.W.subIn K (.type "bool") (.ref C) = some false := by kernel_rfl
theorem s3 {K : PySem.W.Frag} {C : Addr} : PySem.W.subIn K (.type "int") (.ref C) = some false := by kernel_rfl
theorem s4 {K : PySem.W.Frag} {C : Addr} : PySem.W.subIn K (.type "str") (.ref C) = some false := by kernel_rfl
theorem s5 {K : PySem.W.Frag} {C : Addr} : PySem.W.subIn K (.type "list") (.ref C) = some false := by kernel_rfl
theorem s6 {K : PySem.W.Frag} {C : Addr} : PySem.W.subIn K (.type "tuple") (.ref C) = some false := by kernel_rfl
theorem s7 {K : PySem.W.Frag} {C : Addr} : PySem.W.subIn K (.type "dict") (.ref C) = some false := by kernel_rfl
/-- no list stands in K -/
def bare : Value → Bool
  | .type t => !(t == "list")
  | _ => true
theorem all_look {K : PySem.W.Frag} (h : K.all (fun p => bare p.2.cls) = true) : ∀ (a : Addr) (o : Obj), K.lookup a = some o → o.cls ≠ .type "list" := by
  induction K with
  | nil => intro a o e; cases e
  | cons p r ih =>
    intro a o e
    obtain ⟨b, x⟩ := p
    simp only [List.all_cons, Bool.and_eq_true] at h
    rw [List.lookup_cons] at e
    split at e
    · cases e
      intro z
      have h1 := h.1
      rw [z] at h1
      revert h1
      decide
    · exact ih h.2 a o e
theorem prom_law {K : PySem.W.Frag} (hK : K.all (fun p => bare p.2.cls) = true) (H : Hp) (a : Addr) (ns : List Int) (hn : ns.length ≤ 63) (only : Only H) (hs : SqL K H a (ns.map V.int)) : spR R_law [.ref a] H (fun v _ => v = .bl true) fun _ _ _ => False := by
  have allI : ∀ l : List Int, IsA H (l.map V.int) (l.map D.int) := fun l => by
    induction l with
    | nil => exact .nil
    | cons i l ih => exact .cons (.int i) ih
  rcases hs with (h | ⟨o, h⟩) | ⟨o, its, n, h, hc, _⟩
  · exfalso
    rcases only a with e | ⟨ob, xs, e⟩
    · rw [h] at e; cases e
    · rw [h] at e; cases e
  · exact ⟨H, [.scr (ns.map D.int)], .bl true, Same.refl _, .one (.scr h (allI ns)), ⟨ns, by omega, rfl, rfl⟩, fun v B' H' _ i => by cases i; rfl⟩
  · exact absurd hc (all_look hK a o h)

theorem all_mk {l : PySem.W.OpenLaw} {w : World} {K : PySem.W.Frag} {h : Heap} {mg : Str → Option Value} {fa C f_ii f_ip f_iip f_ir f_ar f_tu f_ne f_do f_wi f_in f_co f_le f_iv f_eq f_po f_ta f_of f_ro f_si f_sm f_ld f_aw f_tr f_td f_ri f_la : Addr} (X : K.In h) (G : h.Ns mainGlobals mg) (hfa : mg "law" = some (.ref fa))
    {od_ii an_ii od_ip an_ip od_iip an_iip od_ir an_ir od_ar an_ar od_tu an_tu od_ne an_ne od_do an_do od_wi an_wi od_in an_in od_co an_co od_le an_le od_iv an_iv od_eq an_eq od_po an_po od_ta an_ta od_of an_of od_ro an_ro od_si an_si od_sm an_sm od_ld an_ld od_aw an_aw od_tr an_tr od_td an_td od_ri an_ri od_la an_la : Option Addr} {sl_ii sl_ip sl_iip sl_ir sl_ar sl_tu sl_ne sl_do sl_wi sl_in sl_co sl_le sl_iv sl_eq sl_po sl_ta sl_of sl_ro sl_si sl_sm sl_ld sl_aw sl_tr sl_td sl_ri sl_la : Array (Option Value)} {oc_ii kv_ii dc_ii pm_ii cd_ii ct_ii oc_ip kv_ip dc_ip pm_ip cd_ip ct_ip oc_iip kv_iip dc_iip pm_iip cd_iip ct_iip oc_ir kv_ir dc_ir pm_ir cd_ir ct_ir oc_ar kv_ar dc_ar pm_ar cd_ar ct_ar oc_tu kv_tu dc_tu pm_tu cd_tu ct_tu oc_ne kv_ne dc_ne pm_ne cd_ne ct_ne oc_do kv_do dc_do pm_do cd_do ct_do oc_wi kv_wi dc_wi pm_wi cd_wi ct_wi oc_in kv_in dc_in pm_in cd_in ct_in oc_co kv_co dc_co pm_co cd_co ct_co oc_le kv_le dc_le pm_le cd_le ct_le oc_iv kv_iv dc_iv pm_iv cd_iv ct_iv oc_eq kv_eq dc_eq pm_eq cd_eq ct_eq oc_po kv_po dc_po pm_po cd_po ct_po oc_ta kv_ta dc_ta pm_ta cd_ta ct_ta oc_of kv_of dc_of pm_of cd_of ct_of oc_ro kv_ro dc_ro pm_ro cd_ro ct_ro oc_si kv_si dc_si pm_si cd_si ct_si oc_sm kv_sm dc_sm pm_sm cd_sm ct_sm oc_ld kv_ld dc_ld pm_ld cd_ld ct_ld oc_aw kv_aw dc_aw pm_aw cd_aw ct_aw oc_tr kv_tr dc_tr pm_tr cd_tr ct_tr oc_td kv_td dc_td pm_td cd_td ct_td oc_ri kv_ri dc_ri pm_ri cd_ri ct_ri oc_la kv_la dc_la pm_la cd_la ct_la : Value} {t1 t2 t3 : Tok}
    (gC : PySem.W.nsIn K mainGlobals "Board" = some (some (.ref C)))
    (g_ii : PySem.W.nsIn K mainGlobals "is_integer" = some (some (.ref f_ii)))
    (l_ii : K.lookup f_ii = some ⟨oc_ii, od_ii, .func (PySem.W.fnOf "is_integer" "is_integer" (defArgs s_is_integer) (defBody s_is_integer) (defScope s_is_integer) .none kv_ii dc_ii pm_ii an_ii cd_ii ct_ii), sl_ii⟩)
    (c_ii : PySem.W.codeIn K cd_ii "is_integer" = true)
    (k_ii : PySem.W.keepIn K (.ref f_ii) = true)
    (g_ip : PySem.W.nsIn K mainGlobals "is_pair" = some (some (.ref f_ip)))
    (l_ip : K.lookup f_ip = some ⟨oc_ip, od_ip, .func (PySem.W.fnOf "is_pair" "is_pair" (defArgs s_is_pair) (defBody s_is_pair) (defScope s_is_pair) .none kv_ip dc_ip pm_ip an_ip cd_ip ct_ip), sl_ip⟩)
    (c_ip : PySem.W.codeIn K cd_ip "is_pair" = true)
    (k_ip : PySem.W.keepIn K (.ref f_ip) = true)
    (g_iip : PySem.W.nsIn K mainGlobals "is_integer_pair" = some (some (.ref f_iip)))
    (l_iip : K.lookup f_iip = some ⟨oc_iip, od_iip, .func (PySem.W.fnOf "is_integer_pair" "is_integer_pair" (defArgs s_is_integer_pair) (defBody s_is_integer_pair) (defScope s_is_integer_pair) .none kv_iip dc_iip pm_iip an_iip cd_iip ct_iip), sl_iip⟩)
    (c_iip : PySem.W.codeIn K cd_iip "is_integer_pair" = true)
    (k_iip : PySem.W.keepIn K (.ref f_iip) = true)
    (g_ir : PySem.W.nsIn K mainGlobals "_is_row" = some (some (.ref f_ir)))
    (l_ir : K.lookup f_ir = some ⟨oc_ir, od_ir, .func (PySem.W.fnOf "_is_row" "_is_row" (defArgs s_is_row) (defBody s_is_row) (defScope s_is_row) .none kv_ir dc_ir pm_ir an_ir cd_ir ct_ir), sl_ir⟩)
    (c_ir : PySem.W.codeIn K cd_ir "_is_row" = true)
    (k_ir : PySem.W.keepIn K (.ref f_ir) = true)
    (g_ar : PySem.W.nsIn K mainGlobals "_are_rows" = some (some (.ref f_ar)))
    (l_ar : K.lookup f_ar = some ⟨oc_ar, od_ar, .func (PySem.W.fnOf "_are_rows" "_are_rows" (defArgs s_are_rows) (defBody s_are_rows) (defScope s_are_rows) .none kv_ar dc_ar pm_ar an_ar cd_ar ct_ar), sl_ar⟩)
    (c_ar : PySem.W.codeIn K cd_ar "_are_rows" = true)
    (k_ar : PySem.W.keepIn K (.ref f_ar) = true)
    (g_tu : PySem.W.nsIn K mainGlobals "_turned" = some (some (.ref f_tu)))
    (l_tu : K.lookup f_tu = some ⟨oc_tu, od_tu, .func (PySem.W.fnOf "_turned" "_turned" (defArgs s_turned) (defBody s_turned) (defScope s_turned) .none kv_tu dc_tu pm_tu an_tu cd_tu ct_tu), sl_tu⟩)
    (c_tu : PySem.W.codeIn K cd_tu "_turned" = true)
    (k_tu : PySem.W.keepIn K (.ref f_tu) = true)
    (g_ne : PySem.W.nsIn K mainGlobals "_none_is_empty" = some (some (.ref f_ne)))
    (l_ne : K.lookup f_ne = some ⟨oc_ne, od_ne, .func (PySem.W.fnOf "_none_is_empty" "_none_is_empty" (defArgs s_none_is_empty) (defBody s_none_is_empty) (defScope s_none_is_empty) .none kv_ne dc_ne pm_ne an_ne cd_ne ct_ne), sl_ne⟩)
    (c_ne : PySem.W.codeIn K cd_ne "_none_is_empty" = true)
    (k_ne : PySem.W.keepIn K (.ref f_ne) = true)
    (g_do : PySem.W.nsIn K mainGlobals "_dots_of" = some (some (.ref f_do)))
    (l_do : K.lookup f_do = some ⟨oc_do, od_do, .func (PySem.W.fnOf "_dots_of" "_dots_of" (defArgs s_dots_of) (defBody s_dots_of) (defScope s_dots_of) .none kv_do dc_do pm_do an_do cd_do ct_do), sl_do⟩)
    (c_do : PySem.W.codeIn K cd_do "_dots_of" = true)
    (k_do : PySem.W.keepIn K (.ref f_do) = true)
    (g_wi : PySem.W.nsIn K mainGlobals "_wires_of" = some (some (.ref f_wi)))
    (l_wi : K.lookup f_wi = some ⟨oc_wi, od_wi, .func (PySem.W.fnOf "_wires_of" "_wires_of" (defArgs s_wires_of) (defBody s_wires_of) (defScope s_wires_of) .none kv_wi dc_wi pm_wi an_wi cd_wi ct_wi), sl_wi⟩)
    (c_wi : PySem.W.codeIn K cd_wi "_wires_of" = true)
    (k_wi : PySem.W.keepIn K (.ref f_wi) = true)
    (g_in : PySem.W.findIn K (.ref C) "__init__" = some (some (.ref f_in)))
    (i_in : PySem.W.isFn K (.ref f_in) = true)
    (l_in : K.lookup f_in = some ⟨oc_in, od_in, .func (PySem.W.fnOf "__init__" "Board.__init__" (defArgs s_init) (defBody s_init) (defScope s_init) .none kv_in dc_in pm_in an_in cd_in ct_in), sl_in⟩)
    (c_in : PySem.W.codeIn K cd_in "Board.__init__" = true)
    (k_in : PySem.W.keepIn K (.ref f_in) = true)
    (g_co : PySem.W.findIn K (.ref C) "__contains__" = some (some (.ref f_co)))
    (i_co : PySem.W.isFn K (.ref f_co) = true)
    (l_co : K.lookup f_co = some ⟨oc_co, od_co, .func (PySem.W.fnOf "__contains__" "Board.__contains__" (defArgs s_contains) (defBody s_contains) (defScope s_contains) .none kv_co dc_co pm_co an_co cd_co ct_co), sl_co⟩)
    (c_co : PySem.W.codeIn K cd_co "Board.__contains__" = true)
    (k_co : PySem.W.keepIn K (.ref f_co) = true)
    (g_le : PySem.W.findIn K (.ref C) "__len__" = some (some (.ref f_le)))
    (i_le : PySem.W.isFn K (.ref f_le) = true)
    (l_le : K.lookup f_le = some ⟨oc_le, od_le, .func (PySem.W.fnOf "__len__" "Board.__len__" (defArgs s_len) (defBody s_len) (defScope s_len) .none kv_le dc_le pm_le an_le cd_le ct_le), sl_le⟩)
    (c_le : PySem.W.codeIn K cd_le "Board.__len__" = true)
    (k_le : PySem.W.keepIn K (.ref f_le) = true)
    (g_iv : PySem.W.findIn K (.ref C) "__invert__" = some (some (.ref f_iv)))
    (i_iv : PySem.W.isFn K (.ref f_iv) = true)
    (l_iv : K.lookup f_iv = some ⟨oc_iv, od_iv, .func (PySem.W.fnOf "__invert__" "Board.__invert__" (defArgs s_invert) (defBody s_invert) (defScope s_invert) .none kv_iv dc_iv pm_iv an_iv cd_iv ct_iv), sl_iv⟩)
    (c_iv : PySem.W.codeIn K cd_iv "Board.__invert__" = true)
    (k_iv : PySem.W.keepIn K (.ref f_iv) = true)
    (g_eq : PySem.W.findIn K (.ref C) "__eq__" = some (some (.ref f_eq)))
    (i_eq : PySem.W.isFn K (.ref f_eq) = true)
    (l_eq : K.lookup f_eq = some ⟨oc_eq, od_eq, .func (PySem.W.fnOf "__eq__" "Board.__eq__" (defArgs s_eq) (defBody s_eq) (defScope s_eq) .none kv_eq dc_eq pm_eq an_eq cd_eq ct_eq), sl_eq⟩)
    (c_eq : PySem.W.codeIn K cd_eq "Board.__eq__" = true)
    (k_eq : PySem.W.keepIn K (.ref f_eq) = true)
    (g_po : PySem.W.nsIn K mainGlobals "_law_pot" = some (some (.ref f_po)))
    (l_po : K.lookup f_po = some ⟨oc_po, od_po, .func (PySem.W.fnOf "_law_pot" "_law_pot" (defArgs s_pot) (defBody s_pot) (defScope s_pot) .none kv_po dc_po pm_po an_po cd_po ct_po), sl_po⟩)
    (c_po : PySem.W.codeIn K cd_po "_law_pot" = true)
    (k_po : PySem.W.keepIn K (.ref f_po) = true)
    (g_ta : PySem.W.nsIn K mainGlobals "_law_take" = some (some (.ref f_ta)))
    (l_ta : K.lookup f_ta = some ⟨oc_ta, od_ta, .func (PySem.W.fnOf "_law_take" "_law_take" (defArgs s_take) (defBody s_take) (defScope s_take) .none kv_ta dc_ta pm_ta an_ta cd_ta ct_ta), sl_ta⟩)
    (c_ta : PySem.W.codeIn K cd_ta "_law_take" = true)
    (k_ta : PySem.W.keepIn K (.ref f_ta) = true)
    (g_of : PySem.W.nsIn K mainGlobals "_law_of" = some (some (.ref f_of)))
    (l_of : K.lookup f_of = some ⟨oc_of, od_of, .func (PySem.W.fnOf "_law_of" "_law_of" (defArgs s_of) (defBody s_of) (defScope s_of) .none kv_of dc_of pm_of an_of cd_of ct_of), sl_of⟩)
    (c_of : PySem.W.codeIn K cd_of "_law_of" = true)
    (k_of : PySem.W.keepIn K (.ref f_of) = true)
    (g_ro : PySem.W.nsIn K mainGlobals "_law_rows" = some (some (.ref f_ro)))
    (l_ro : K.lookup f_ro = some ⟨oc_ro, od_ro, .func (PySem.W.fnOf "_law_rows" "_law_rows" (defArgs s_rows) (defBody s_rows) (defScope s_rows) .none kv_ro dc_ro pm_ro an_ro cd_ro ct_ro), sl_ro⟩)
    (c_ro : PySem.W.codeIn K cd_ro "_law_rows" = true)
    (k_ro : PySem.W.keepIn K (.ref f_ro) = true)
    (g_si : PySem.W.nsIn K mainGlobals "_law_size" = some (some (.ref f_si)))
    (l_si : K.lookup f_si = some ⟨oc_si, od_si, .func (PySem.W.fnOf "_law_size" "_law_size" (defArgs s_size) (defBody s_size) (defScope s_size) .none kv_si dc_si pm_si an_si cd_si ct_si), sl_si⟩)
    (c_si : PySem.W.codeIn K cd_si "_law_size" = true)
    (k_si : PySem.W.keepIn K (.ref f_si) = true)
    (g_sm : PySem.W.nsIn K mainGlobals "_law_small_rows" = some (some (.ref f_sm)))
    (l_sm : K.lookup f_sm = some ⟨oc_sm, od_sm, .func (PySem.W.fnOf "_law_small_rows" "_law_small_rows" (defArgs s_small_rows) (defBody s_small_rows) (defScope s_small_rows) .none kv_sm dc_sm pm_sm an_sm cd_sm ct_sm), sl_sm⟩)
    (c_sm : PySem.W.codeIn K cd_sm "_law_small_rows" = true)
    (k_sm : PySem.W.keepIn K (.ref f_sm) = true)
    (g_ld : PySem.W.nsIn K mainGlobals "_law_dots" = some (some (.ref f_ld)))
    (l_ld : K.lookup f_ld = some ⟨oc_ld, od_ld, .func (PySem.W.fnOf "_law_dots" "_law_dots" (defArgs s_ldots) (defBody s_ldots) (defScope s_ldots) .none kv_ld dc_ld pm_ld an_ld cd_ld ct_ld), sl_ld⟩)
    (c_ld : PySem.W.codeIn K cd_ld "_law_dots" = true)
    (k_ld : PySem.W.keepIn K (.ref f_ld) = true)
    (g_aw : PySem.W.nsIn K mainGlobals "_law_all_wires" = some (some (.ref f_aw)))
    (l_aw : K.lookup f_aw = some ⟨oc_aw, od_aw, .func (PySem.W.fnOf "_law_all_wires" "_law_all_wires" (defArgs s_all_wires) (defBody s_all_wires) (defScope s_all_wires) .none kv_aw dc_aw pm_aw an_aw cd_aw ct_aw), sl_aw⟩)
    (c_aw : PySem.W.codeIn K cd_aw "_law_all_wires" = true)
    (k_aw : PySem.W.keepIn K (.ref f_aw) = true)
    (g_tr : PySem.W.nsIn K mainGlobals "_law_turned_rows" = some (some (.ref f_tr)))
    (l_tr : K.lookup f_tr = some ⟨oc_tr, od_tr, .func (PySem.W.fnOf "_law_turned_rows" "_law_turned_rows" (defArgs s_turned_rows) (defBody s_turned_rows) (defScope s_turned_rows) .none kv_tr dc_tr pm_tr an_tr cd_tr ct_tr), sl_tr⟩)
    (c_tr : PySem.W.codeIn K cd_tr "_law_turned_rows" = true)
    (k_tr : PySem.W.keepIn K (.ref f_tr) = true)
    (g_td : PySem.W.nsIn K mainGlobals "_law_turned_dots" = some (some (.ref f_td)))
    (l_td : K.lookup f_td = some ⟨oc_td, od_td, .func (PySem.W.fnOf "_law_turned_dots" "_law_turned_dots" (defArgs s_turned_dots) (defBody s_turned_dots) (defScope s_turned_dots) .none kv_td dc_td pm_td an_td cd_td ct_td), sl_td⟩)
    (c_td : PySem.W.codeIn K cd_td "_law_turned_dots" = true)
    (k_td : PySem.W.keepIn K (.ref f_td) = true)
    (g_ri : PySem.W.nsIn K mainGlobals "_law_right" = some (some (.ref f_ri)))
    (l_ri : K.lookup f_ri = some ⟨oc_ri, od_ri, .func (PySem.W.fnOf "_law_right" "_law_right" (defArgs s_right) (defBody s_right) (defScope s_right) .none kv_ri dc_ri pm_ri an_ri cd_ri ct_ri), sl_ri⟩)
    (c_ri : PySem.W.codeIn K cd_ri "_law_right" = true)
    (k_ri : PySem.W.keepIn K (.ref f_ri) = true)
    (g_la : PySem.W.nsIn K mainGlobals "law" = some (some (.ref f_la)))
    (l_la : K.lookup f_la = some ⟨oc_la, od_la, .func (PySem.W.fnOf "law" "law" (defArgs s_law) (defBody s_law) (defScope s_law) .none kv_la dc_la pm_la an_la cd_la ct_la), sl_la⟩)
    (c_la : PySem.W.codeIn K cd_la "law" = true)
    (k_la : PySem.W.keepIn K (.ref f_la) = true)
    (dDOT : PySem.W.nsIn K mainGlobals "DOT" = some (some (.str "o" t1)))
    (dNO : PySem.W.nsIn K mainGlobals "NO_DOT" = some (some (.str "." t2)))
    (dLO : PySem.W.nsIn K mainGlobals "LONGEST" = some (some (.int 10 t3)))
    (z_isinstance : PySem.W.nsIn K mainGlobals "isinstance" = some none)
    (z_int : PySem.W.nsIn K mainGlobals "int" = some none)
    (z_bool : PySem.W.nsIn K mainGlobals "bool" = some none)
    (z_tuple : PySem.W.nsIn K mainGlobals "tuple" = some none)
    (z_str : PySem.W.nsIn K mainGlobals "str" = some none)
    (z_len : PySem.W.nsIn K mainGlobals "len" = some none)
    (z_all : PySem.W.nsIn K mainGlobals "all" = some none)
    (z_range : PySem.W.nsIn K mainGlobals "range" = some none)
    (z_max : PySem.W.nsIn K mainGlobals "max" = some none)
    (z_min : PySem.W.nsIn K mainGlobals "min" = some none)
    (z_abs : PySem.W.nsIn K mainGlobals "abs" = some none)
    (z_enumerate : PySem.W.nsIn K mainGlobals "enumerate" = some none)
    (z_sorted : PySem.W.nsIn K mainGlobals "sorted" = some none)
    (z_repr : PySem.W.nsIn K mainGlobals "repr" = some none)
    (z_list : PySem.W.nsIn K mainGlobals "list" = some none)
    (pg : PySem.W.plainGet K C Str.empty = true)
    (hd : PySem.W.hasDictIn K C = true)
    (po : PySem.W.plainOver K C = true)
    (sa : PySem.W.findIn K (.ref C) "__setattr__" = some (some (.builtin "object.__setattr__")))
    (mk : PySem.W.makesIn K C = true)
    (kc : PySem.W.keepIn K (.ref C) = true)
    (ca : PySem.W.findIn K (.ref C) "__class__" = some (some (.builtin "object.__class__")))
    (cn : PySem.W.specialIn K (.builtin "object.__class__") "__get__" = some (some (.builtin "getset_descriptor.__get__")))
    (ct : PySem.W.takesIn K (.builtin "object.__class__") = some true)
    (cm : PySem.W.mroIn K C (.type "object") = some true)
    (n_rows : PySem.W.findIn K (.ref C) "rows" = some none)
    (n_height : PySem.W.findIn K (.ref C) "height" = some none)
    (n_width : PySem.W.findIn K (.ref C) "width" = some none)
    (n_dots : PySem.W.findIn K (.ref C) "dots" = some none)
    (n_wires : PySem.W.findIn K (.ref C) "wires" = some none)
    (n_is_full : PySem.W.findIn K (.ref C) "is_full" = some none)
    (kI : PySem.W.mroIn K C (.type "int") = some false)
    (kB : PySem.W.mroIn K C (.type "bool") = some false)
    (kT : PySem.W.mroIn K C (.type "tuple") = some false)
    (kS : PySem.W.mroIn K C (.type "str") = some false)
    (ic : PySem.W.isClsIn K C = true)
    (tc : PySem.W.typeIn K (.ref C) = some (.type "type"))
    (fB : PySem.W.notFirst K C (.ref C) = true)
    (fT : PySem.W.notFirst K C (.type "tuple") = true)
    (fI : PySem.W.notFirst K C (.type "int") = true) :
    ∃ fd : FuncData, (∀ (s : Shared) (v : Value), BindsTo s fd ⟨[v], []⟩ [("_law_script", v)]) ∧ ∀ base : Heap, K.In base → base.Ns mainGlobals mg → FnG l.prog w K mg base 8 fa fd ["_law_script"] (spR R_law) := by
  have e := hfa.symm.trans (PySem.W.mg_of X G g_la)
  cases e
  have T : TxtL K mg C := ⟨⟨PySem.W.mg_none_of X G z_isinstance, PySem.W.mg_none_of X G z_int, PySem.W.mg_none_of X G z_bool, PySem.W.mg_none_of X G z_tuple, PySem.W.mg_none_of X G z_str, PySem.W.mg_none_of X G z_len, PySem.W.mg_none_of X G z_all, PySem.W.mg_none_of X G z_range, ⟨t1, PySem.W.mg_of X G dDOT⟩, ⟨t2, PySem.W.mg_of X G dNO⟩, ⟨t3, PySem.W.mg_of X G dLO⟩, ⟨⟨pg, hd, po, sa⟩, ca, cn, ct, cm⟩, kit_out m1 kI, kit_out m2 kB, kit_out m3 kT, kit_out m4 kS⟩, PySem.W.mg_none_of X G z_max, PySem.W.mg_none_of X G z_min, PySem.W.mg_none_of X G z_abs, PySem.W.mg_none_of X G z_enumerate, PySem.W.mg_none_of X G z_sorted, PySem.W.mg_none_of X G z_repr, PySem.W.mg_none_of X G z_list⟩
  have U : TxtB K C := ⟨n_rows, n_height, n_width, n_dots, n_wires, n_is_full, kit_inn ic tc s1, kit_inn ic tc s2, kit_inn ic tc s3, kit_inn ic tc s4, kit_inn ic tc s5, kit_inn ic tc s6, kit_inn ic tc s7, kit_self⟩
  have Z : TxtR K C := ⟨fB, fT, fI⟩
  have F_ii := fun_mk (st := s_is_integer) l_ii c_ii k_ii
  have b_ii := F_ii.binds (ps := ["value"]) fun _ _ _ _ _ _ us hl => match us, hl with | [_], _ => rfl
  have F_ip := fun_mk (st := s_is_pair) l_ip c_ip k_ip
  have b_ip := F_ip.binds (ps := ["value"]) fun _ _ _ _ _ _ us hl => match us, hl with | [_], _ => rfl
  have F_iip := fun_mk (st := s_is_integer_pair) l_iip c_iip k_iip
  have b_iip := F_iip.binds (ps := ["value"]) fun _ _ _ _ _ _ us hl => match us, hl with | [_], _ => rfl
  have F_ir := fun_mk (st := s_is_row) l_ir c_ir k_ir
  have b_ir := F_ir.binds (ps := ["value"]) fun _ _ _ _ _ _ us hl => match us, hl with | [_], _ => rfl
  have F_ar := fun_mk (st := s_are_rows) l_ar c_ar k_ar
  have b_ar := F_ar.binds (ps := ["value"]) fun _ _ _ _ _ _ us hl => match us, hl with | [_], _ => rfl
  have F_tu := fun_mk (st := s_turned) l_tu c_tu k_tu
  have b_tu := F_tu.binds (ps := ["rows"]) fun _ _ _ _ _ _ us hl => match us, hl with | [_], _ => rfl
  have F_ne := fun_mk (st := s_none_is_empty) l_ne c_ne k_ne
  have b_ne := F_ne.binds (ps := ["rows"]) fun _ _ _ _ _ _ us hl => match us, hl with | [_], _ => rfl
  have F_do := fun_mk (st := s_dots_of) l_do c_do k_do
  have b_do := F_do.binds (ps := ["rows"]) fun _ _ _ _ _ _ us hl => match us, hl with | [_], _ => rfl
  have F_wi := fun_mk (st := s_wires_of) l_wi c_wi k_wi
  have b_wi := F_wi.binds (ps := ["rows"]) fun _ _ _ _ _ _ us hl => match us, hl with | [_], _ => rfl
  have F_in := fun_mk (st := s_init) l_in c_in k_in
  have b_in := F_in.binds (ps := ["self", "rows"]) fun _ _ _ _ _ _ us hl => match us, hl with | [_, _], _ => rfl
  have F_co := fun_mk (st := s_contains) l_co c_co k_co
  have b_co := F_co.binds (ps := ["self", "x"]) fun _ _ _ _ _ _ us hl => match us, hl with | [_, _], _ => rfl
  have F_le := fun_mk (st := s_len) l_le c_le k_le
  have b_le := F_le.binds (ps := ["self"]) fun _ _ _ _ _ _ us hl => match us, hl with | [_], _ => rfl
  have F_iv := fun_mk (st := s_invert) l_iv c_iv k_iv
  have b_iv := F_iv.binds (ps := ["self"]) fun _ _ _ _ _ _ us hl => match us, hl with | [_], _ => rfl
  have F_eq := fun_mk (st := s_eq) l_eq c_eq k_eq
  have b_eq := F_eq.binds (ps := ["self", "other"]) fun _ _ _ _ _ _ us hl => match us, hl with | [_, _], _ => rfl
  have F_po := fun_mk (st := s_pot) l_po c_po k_po
  have b_po := F_po.binds (ps := ["_law_script", "_law_number"]) fun _ _ _ _ _ _ us hl => match us, hl with | [_, _], _ => rfl
  have F_ta := fun_mk (st := s_take) l_ta c_ta k_ta
  have b_ta := F_ta.binds (ps := ["_law_pot_here", "_law_upto"]) fun _ _ _ _ _ _ us hl => match us, hl with | [_, _], _ => rfl
  have F_of := fun_mk (st := s_of) l_of c_of k_of
  have b_of := F_of.binds (ps := ["_law_pot_here", "_law_some"]) fun _ _ _ _ _ _ us hl => match us, hl with | [_, _], _ => rfl
  have F_ro := fun_mk (st := s_rows) l_ro c_ro k_ro
  have b_ro := F_ro.binds (ps := ["_law_pot_here", "_law_tall", "_law_wide"]) fun _ _ _ _ _ _ us hl => match us, hl with | [_, _, _], _ => rfl
  have F_si := fun_mk (st := s_size) l_si c_si k_si
  have b_si := F_si.binds (ps := ["_law_pot_here", "_law_most"]) fun _ _ _ _ _ _ us hl => match us, hl with | [_, _], _ => rfl
  have F_sm := fun_mk (st := s_small_rows) l_sm c_sm k_sm
  have b_sm := F_sm.binds (ps := ["_law_pot_here", "_law_most"]) fun _ _ _ _ _ _ us hl => match us, hl with | [_, _], _ => rfl
  have F_ld := fun_mk (st := s_ldots) l_ld c_ld k_ld
  have b_ld := F_ld.binds (ps := ["_law_rows_here"]) fun _ _ _ _ _ _ us hl => match us, hl with | [_], _ => rfl
  have F_aw := fun_mk (st := s_all_wires) l_aw c_aw k_aw
  have b_aw := F_aw.binds (ps := ["_law_rows_here"]) fun _ _ _ _ _ _ us hl => match us, hl with | [_], _ => rfl
  have F_tr := fun_mk (st := s_turned_rows) l_tr c_tr k_tr
  have b_tr := F_tr.binds (ps := ["_law_rows_here"]) fun _ _ _ _ _ _ us hl => match us, hl with | [_], _ => rfl
  have F_td := fun_mk (st := s_turned_dots) l_td c_td k_td
  have b_td := F_td.binds (ps := ["_law_dots_here"]) fun _ _ _ _ _ _ us hl => match us, hl with | [_], _ => rfl
  have F_ri := fun_mk (st := s_right) l_ri c_ri k_ri
  have b_ri := F_ri.binds (ps := ["_law_pot_here"]) fun _ _ _ _ _ _ us hl => match us, hl with | [_], _ => rfl
  have F_la := fun_mk (st := s_law) l_la c_la k_la
  have b_la := F_la.binds (ps := ["_law_script"]) fun _ _ _ _ _ _ us hl => match us, hl with | [_], _ => rfl
  refine ⟨PySem.W.fnOf "law" "law" (defArgs s_law) (defBody s_law) (defScope s_law) .none kv_la dc_la pm_la an_la cd_la ct_la, fun s v => .of_eq rfl, fun base _ _ => ?_⟩
  have C_ii := Cal.mk (w := w) (P := l.prog) (mg := mg) (base := base) (ok_is_integer F_ii T.toTxt) (PySem.W.mg_of X G g_ii) k_ii b_ii
  have C_ip := Cal.mk (w := w) (P := l.prog) (mg := mg) (base := base) (ok_is_pair F_ip T.toTxt) (PySem.W.mg_of X G g_ip) k_ip b_ip
  have C_iip := Cal.mk (w := w) (P := l.prog) (mg := mg) (base := base) (ok_is_integer_pair F_iip T.toTxt C_ip C_ii) (PySem.W.mg_of X G g_iip) k_iip b_iip
  have C_ir := Cal.mk (w := w) (P := l.prog) (mg := mg) (base := base) (ok_is_row F_ir T.toTxt) (PySem.W.mg_of X G g_ir) k_ir b_ir
  have C_ar := Cal.mk (w := w) (P := l.prog) (mg := mg) (base := base) (ok_are_rows F_ar T.toTxt C_ir) (PySem.W.mg_of X G g_ar) k_ar b_ar
  have C_ne := Cal.mk (w := w) (P := l.prog) (mg := mg) (base := base) (ok_none_is_empty F_ne T.toTxt) (PySem.W.mg_of X G g_ne) k_ne b_ne
  have C_tu := Cal.mk (w := w) (P := l.prog) (mg := mg) (base := base) (ok_turned F_tu T.toTxt) (PySem.W.mg_of X G g_tu) k_tu b_tu
  have C_do := Cal.mk (w := w) (P := l.prog) (mg := mg) (base := base) (ok_dots_of F_do T.toTxt) (PySem.W.mg_of X G g_do) k_do b_do
  have C_wi := Cal.mk (w := w) (P := l.prog) (mg := mg) (base := base) (ok_wires_of F_wi T.toTxt) (PySem.W.mg_of X G g_wi) k_wi b_wi
  have C_B : CalC l.prog w K mg base 3 "Board" C f_in _ ["self", "rows"] (spI C R_init) := ⟨⟨mk, g_in, i_in, kc⟩, ok_init F_in T.toTxt U C_ar C_ne C_tu C_do C_wi, PySem.W.mg_of X G gC, b_in⟩
  have O_co : CalO l.prog w K mg base _ C "__contains__" f_co _ := ⟨⟨g_co, i_co⟩, ((ok_contains F_co T.toTxt U C_iip).raw b_co .nil).imp fun vs H Q E h => by rw [List.append_nil]; exact h⟩
  have O_le : CalO l.prog w K mg base _ C "__len__" f_le _ := ⟨⟨g_le, i_le⟩, ((ok_len F_le T.toTxt U).raw b_le .nil).imp fun vs H Q E h => by rw [List.append_nil]; exact h⟩
  have O_iv : CalO l.prog w K mg base _ C "__invert__" f_iv _ := ⟨⟨g_iv, i_iv⟩, ((ok_invert F_iv T.toTxt U C_tu C_B).raw b_iv .nil).imp fun vs H Q E h => by rw [List.append_nil]; exact h⟩
  have O_eq : CalO l.prog w K mg base _ C "__eq__" f_eq _ := ⟨⟨g_eq, i_eq⟩, ((ok_eq F_eq T.toTxt U C_B).raw b_eq .nil).imp fun vs H Q E h => by rw [List.append_nil]; exact h⟩
  have C_ta := Cal.mk (w := w) (P := l.prog) (mg := mg) (base := base) (ok_take F_ta T.toTxt) (PySem.W.mg_of X G g_ta) k_ta b_ta
  have C_of := Cal.mk (w := w) (P := l.prog) (mg := mg) (base := base) (ok_of F_of T.toTxt C_ta) (PySem.W.mg_of X G g_of) k_of b_of
  have C_si := Cal.mk (w := w) (P := l.prog) (mg := mg) (base := base) (ok_size F_si T.toTxt C_ta) (PySem.W.mg_of X G g_si) k_si b_si
  have C_ro := Cal.mk (w := w) (P := l.prog) (mg := mg) (base := base) (ok_rows F_ro T C_ta) (PySem.W.mg_of X G g_ro) k_ro b_ro
  have C_sm := Cal.mk (w := w) (P := l.prog) (mg := mg) (base := base) (ok_small_rows F_sm T C_si C_ro) (PySem.W.mg_of X G g_sm) k_sm b_sm
  have C_ld := Cal.mk (w := w) (P := l.prog) (mg := mg) (base := base) (ok_ldots F_ld T) (PySem.W.mg_of X G g_ld) k_ld b_ld
  have C_aw := Cal.mk (w := w) (P := l.prog) (mg := mg) (base := base) (ok_all_wires F_aw T) (PySem.W.mg_of X G g_aw) k_aw b_aw
  have C_tr := Cal.mk (w := w) (P := l.prog) (mg := mg) (base := base) (ok_turned_rows F_tr T) (PySem.W.mg_of X G g_tr) k_tr b_tr
  have C_td := Cal.mk (w := w) (P := l.prog) (mg := mg) (base := base) (ok_turned_dots F_td T) (PySem.W.mg_of X G g_td) k_td b_td
  have C_po := Cal.mk (w := w) (P := l.prog) (mg := mg) (base := base) (ok_pot F_po T) (PySem.W.mg_of X G g_po) k_po b_po
  have C_ri : CalG l.prog w K mg base 7 "_law_right" f_ri _ ["_law_pot_here"] (spM R_right) := ⟨ok_right F_ri T U Z C_sm C_of C_ld C_aw C_tr C_td C_B O_co O_le O_iv O_eq, PySem.W.mg_of X G g_ri, k_ri, b_ri⟩
  exact ok_law F_la T C_po C_ri
theorem walk {l : PySem.W.OpenLaw} {q : Program} {loose : List Str} {XP : (Str → Option Value) → Heap → Prop} {YP : World → Heap → Prop} {d : DefRec} {K : Params → PySem.W.Frag} (hn : l.most = some 63) (hdf : d.params.defaults = [])
    (hY : ∀ (w : World) (h : Heap), YP w h → (K w.params).In h) (hK : ∀ w : World, (K w.params).all (fun p => bare p.2.cls) = true)
    (F : ∀ (w : World) (mg : Str → Option Value) (fa : Addr) (h : Heap), (K w.params).In h → h.Ns mainGlobals mg → mg d.name = some (.ref fa) →
      ∃ fd : FuncData, (∀ (s : Shared) (u : Value), BindsTo s fd ⟨[u], []⟩ [("_law_script", u)]) ∧ ∀ base : Heap, (K w.params).In base → base.Ns mainGlobals mg → FnG l.prog w (K w.params) mg base 8 fa fd ["_law_script"] (spR R_law)) :
    PySem.W.WalkO q loose XP YP l.row.toRowW d [] (fun f vs => PySem.call f vs) :=
  walk_G (n := 63) (k := 8) (x := "_law_script") (sp := fun _ => spR R_law) hn (by decide) hdf ⟨rfl, by decide, by decide⟩ hY F fun w H a ns hl only hs => prom_law (hK w) H a ns hl only hs
end W01
open PySem PySem.W PyProof.Rows
set_option maxRecDepth 100000 in
set_option maxHeartbeats 0 in
theorem PySem.Challenge.cw_wiresindark_k01_boards_holds : PySem.Challenge.rw_wiresindark_k01_boards.Holds := by
  w_on; o_law; k_head; (case hw => w_witness2)
  k_fill
  refine W01.walk (l := PySem.Challenge.rw_wiresindark_k01_boards) rfl rfl (fun w h Y => PySem.W.kIn_of Y) ?K ?F
  case K => intro w; kernel_rfl
  case F =>
    intro w mg fa h KX G hmg
    refine' W01.all_mk KX G hmg ?gC ?g_ii ?l_ii ?c_ii ?k_ii ?g_ip ?l_ip ?c_ip ?k_ip ?g_iip ?l_iip ?c_iip ?k_iip ?g_ir ?l_ir ?c_ir ?k_ir ?g_ar ?l_ar ?c_ar ?k_ar ?g_tu ?l_tu ?c_tu ?k_tu ?g_ne ?l_ne ?c_ne ?k_ne ?g_do ?l_do ?c_do ?k_do ?g_wi ?l_wi ?c_wi ?k_wi ?g_in ?i_in ?l_in ?c_in ?k_in ?g_co ?i_co ?l_co ?c_co ?k_co ?g_le ?i_le ?l_le ?c_le ?k_le ?g_iv ?i_iv ?l_iv ?c_iv ?k_iv ?g_eq ?i_eq ?l_eq ?c_eq ?k_eq ?g_po ?l_po ?c_po ?k_po ?g_ta ?l_ta ?c_ta ?k_ta ?g_of ?l_of ?c_of ?k_of ?g_ro ?l_ro ?c_ro ?k_ro ?g_si ?l_si ?c_si ?k_si ?g_sm ?l_sm ?c_sm ?k_sm ?g_ld ?l_ld ?c_ld ?k_ld ?g_aw ?l_aw ?c_aw ?k_aw ?g_tr ?l_tr ?c_tr ?k_tr ?g_td ?l_td ?c_td ?k_td ?g_ri ?l_ri ?c_ri ?k_ri ?g_la ?l_la ?c_la ?k_la ?dDOT ?dNO ?dLO ?z_isinstance ?z_int ?z_bool ?z_tuple ?z_str ?z_len ?z_all ?z_range ?z_max ?z_min ?z_abs ?z_enumerate ?z_sorted ?z_repr ?z_list ?pg ?hd ?po ?sa ?mk ?kc ?ca ?cn ?ct ?cm ?n_rows ?n_height ?n_width ?n_dots ?n_wires ?n_is_full ?kI ?kB ?kT ?kS ?ic ?tc ?fB ?fT ?fI
    (case gC => k_is); (case g_ii => k_is); (case l_ii => k_is); (case c_ii => k_is); (case k_ii => k_is); (case g_ip => k_is)
    (case l_ip => k_is); (case c_ip => k_is); (case k_ip => k_is); (case g_iip => k_is); (case l_iip => k_is); (case c_iip => k_is)
    (case k_iip => k_is); (case g_ir => k_is); (case l_ir => k_is); (case c_ir => k_is); (case k_ir => k_is); (case g_ar => k_is)
    (case l_ar => k_is); (case c_ar => k_is); (case k_ar => k_is); (case g_tu => k_is); (case l_tu => k_is); (case c_tu => k_is)
    (case k_tu => k_is); (case g_ne => k_is); (case l_ne => k_is); (case c_ne => k_is); (case k_ne => k_is); (case g_do => k_is)
    (case l_do => k_is); (case c_do => k_is); (case k_do => k_is); (case g_wi => k_is); (case l_wi => k_is); (case c_wi => k_is)
    (case k_wi => k_is); (case g_in => k_is); (case i_in => k_is); (case l_in => k_is); (case c_in => k_is); (case k_in => k_is)
    (case g_co => k_is); (case i_co => k_is); (case l_co => k_is); (case c_co => k_is); (case k_co => k_is); (case g_le => k_is)
    (case i_le => k_is); (case l_le => k_is); (case c_le => k_is); (case k_le => k_is); (case g_iv => k_is); (case i_iv => k_is)
    (case l_iv => k_is); (case c_iv => k_is); (case k_iv => k_is); (case g_eq => k_is); (case i_eq => k_is); (case l_eq => k_is)
    (case c_eq => k_is); (case k_eq => k_is); (case g_po => k_is); (case l_po => k_is); (case c_po => k_is); (case k_po => k_is)
    (case g_ta => k_is); (case l_ta => k_is); (case c_ta => k_is); (case k_ta => k_is); (case g_of => k_is); (case l_of => k_is)
    (case c_of => k_is); (case k_of => k_is); (case g_ro => k_is); (case l_ro => k_is); (case c_ro => k_is); (case k_ro => k_is)
    (case g_si => k_is); (case l_si => k_is); (case c_si => k_is); (case k_si => k_is); (case g_sm => k_is); (case l_sm => k_is)
    (case c_sm => k_is); (case k_sm => k_is); (case g_ld => k_is); (case l_ld => k_is); (case c_ld => k_is); (case k_ld => k_is)
    (case g_aw => k_is); (case l_aw => k_is); (case c_aw => k_is); (case k_aw => k_is); (case g_tr => k_is); (case l_tr => k_is)
    (case c_tr => k_is); (case k_tr => k_is); (case g_td => k_is); (case l_td => k_is); (case c_td => k_is); (case k_td => k_is)
    (case g_ri => k_is); (case l_ri => k_is); (case c_ri => k_is); (case k_ri => k_is); (case g_la => k_is); (case l_la => k_is)
    (case c_la => k_is); (case k_la => k_is); (case dDOT => k_is); (case dNO => k_is); (case dLO => k_is); (case z_isinstance => k_is)
    (case z_int => k_is); (case z_bool => k_is); (case z_tuple => k_is); (case z_str => k_is); (case z_len => k_is); (case z_all => k_is)
    (case z_range => k_is); (case z_max => k_is); (case z_min => k_is); (case z_abs => k_is); (case z_enumerate => k_is); (case z_sorted => k_is)
    (case z_repr => k_is); (case z_list => k_is); (case pg => k_is); (case hd => k_is); (case po => k_is); (case sa => k_is)
    (case mk => k_is); (case kc => k_is); (case ca => k_is); (case cn => k_is); (case ct => k_is); (case cm => k_is)
    (case n_rows => k_is); (case n_height => k_is); (case n_width => k_is); (case n_dots => k_is); (case n_wires => k_is); (case n_is_full => k_is)
    (case kI => k_is); (case kB => k_is); (case kT => k_is); (case kS => k_is); (case ic => k_is); (case tc => k_is)
    (case fB => k_is); (case fT => k_is); (case fI => k_is)
