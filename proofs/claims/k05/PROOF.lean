import PyProof.Rows.All
import Wide.All
import OpenK.AllK
import Wide.FinOn
import PyProof.EqAt
import PyProof.EqKinds
import PyProof.TupleCall
import KE.KStateDown
import HandS.ForMost
import HandS.Flow
import HandS.Exc
import HandS.TryOnly
import HandS.TryMany
import HandS.ExcOwn
import HandS.WordsExc
import HandS.ExcField
import HandS.IsInst
import HandS.Deep
import HandS.Conv
import HandS.Style
import HandS.TupAny
import HandS.TupMul
import HandS.Star
import HandS.FStr
import HandS.Strs
import HandS.Defaults
import HandS.More
import HandS.Codes
import HandS.MakeKw
import HandS.MakeKwOnly
import HandS.Head0
import HandS.Head1
import HandS.Head2
import HandS.HeadEnd
import HandS.HeadHook1
import HandS.HeadHook2
import KE.KExcInit
import KE.KExcIs
import KE.KExcHand
import HandS.ExcValue
import PyProof.Rows.SetFrom
import HandS.Walk
import PySem.Challenge.RW_cutweave_k05_deeds_done
set_option Elab.async false
set_option linter.all false
set_option maxRecDepth 100000
set_option maxHeartbeats 4000000
namespace Cw
open PySem PySem.Spec PyProof.Rows L2
/-! ### the world: what is known for good (G) within what is there (H) -/
def Ex (H H' : Hp) : Prop := ∀ a o, H a = some o → H' a = some o
theorem Ex.refl (H : Hp) : Ex H H := fun _ _ h => h
theorem Ex.trans {H H1 H2 : Hp} (a : Ex H H1) (b : Ex H1 H2) : Ex H H2 := fun x o h => b x o (a x o h)
theorem Ex.new {H : Hp} {p : Addr} {o : HO} (h : H p = none) : Ex H (upd H p o) := fun a u e => by
  rw [upd_ne (ne_of_none e h)]
  exact e
/-- an object that H does not know may change -/
theorem Ex.mut {H H' : Hp} {p : Addr} {o : HO} (e : Ex H H') (h : H p = none) : Ex H (upd H' p o) := fun a u ha => by
  rw [upd_ne (ne_of_none ha h)]
  exact e a u ha
theorem Ex.add {G H : Hp} {p : Addr} {o : HO} (e : Ex G H) (h : H p = some o) : Ex (upd G p o) H := fun a u ha => by
  by_cases z : a = p
  · subst z
    rw [upd_same] at ha
    cases ha
    exact h
  · rw [upd_ne z] at ha
    exact e a u ha
theorem Ex.back {H H' : Hp} {p : Addr} (e : Ex H H') (h : H' p = none) : H p = none := by
  cases h1 : H p with
  | none => rfl
  | some o =>
    rw [e p o h1] at h
    cases h
theorem Ex.rd {H H' : Hp} {a : Addr} {u : HO} (e : Ex H H') (h : Rd H a u) : Rd H' a u := by
  rcases h with h | ⟨o, h⟩
  · exact Or.inl (e a _ h)
  · exact Or.inr ⟨o, e a _ h⟩
theorem Ex.sl {K : PySem.W.Frag} {H H' : Hp} {a : Addr} {xs : List V} (e : Ex H H') (h : SqL K H a xs) : SqL K H' a xs := by
  rcases h with h | h
  · exact Or.inl (e.rd h)
  · exact Or.inr h
theorem Ex.st {K : PySem.W.Frag} {H H' : Hp} {a : Addr} {xs : List V} (e : Ex H H') (h : SqT K H a xs) : SqT K H' a xs := by
  rcases h with h | h
  · exact Or.inl (e.rd h)
  · exact Or.inr h
/-- from (G, H) to (G', H'): G and H have grown, at b (if at all) H has changed; G' knows of what was there no more than G did -/
structure Gro (b : Option Addr) (G H G' H' : Hp) : Prop where
  g : Ex G G'
  w : Ex G' H'
  k : ∀ a o, some a ≠ b → H a = some o → H' a = some o
  n : ∀ a, H a ≠ none → G a = none → G' a = none
theorem Gro.ex {G H G' H' : Hp} (g : Gro none G H G' H') : Ex H H' := fun a o h => g.k a o (fun z => nomatch z) h
theorem Gro.refl {b : Option Addr} {G H : Hp} (e : Ex G H) : Gro b G H G H := ⟨Ex.refl G, e, fun _ _ _ h => h, fun _ _ h => h⟩
theorem Gro.mono {b : Option Addr} {G H G' H' : Hp} (g : Gro none G H G' H') : Gro b G H G' H' := ⟨g.g, g.w, fun a o _ h => g.ex a o h, g.n⟩
theorem Gro.trans {b : Option Addr} {G H G1 H1 G2 H2 : Hp} (x : Gro b G H G1 H1) (y : Gro b G1 H1 G2 H2) (hb : ∀ a, b = some a → H a ≠ none → H1 a ≠ none) : Gro b G H G2 H2 :=
  ⟨x.g.trans y.g, y.w, fun a o z h => y.k a o z (x.k a o z h), fun a h z => y.n a (by
    by_cases e : some a = b
    · exact hb a e.symm h
    · cases q : H a with
      | none => exact absurd q h
      | some o =>
        rw [x.k a o e q]
        exact fun z => nomatch z) (x.n a h z)⟩
theorem Gro.trans0 {G H G1 H1 G2 H2 : Hp} (x : Gro none G H G1 H1) (y : Gro none G1 H1 G2 H2) : Gro none G H G2 H2 := x.trans y fun a z => nomatch z
/-- only H has grown -/
theorem Gro.up {G H H' : Hp} (e : Ex G H) (k : Ex H H') : Gro none G H G H' := ⟨Ex.refl G, e.trans k, fun a o _ h => k a o h, fun _ _ h => h⟩
/-- a new object, known from now on -/
theorem Gro.new {G H : Hp} {p : Addr} {o : HO} (e : Ex G H) (h : H p = none) : Gro none G H (upd G p o) (upd H p o) :=
  ⟨Ex.new (e.back h), fun a u ha => by
    by_cases z : a = p
    · subst z
      rw [upd_same] at ha ⊢
      exact ha
    · rw [upd_ne z] at ha ⊢
      exact e a u ha, fun a u _ ha => Ex.new h a u ha, fun a ha z => by
    have q : a ≠ p := fun y => by
      rw [y] at ha
      exact ha h
    rw [upd_ne q]
    exact z⟩
/-! ### data: what a value is worth -/
mutual
inductive Rp (K : PySem.W.Frag) (G : Hp) : V → PyData → Prop
  | non : Rp K G .non .none
  | bl (b : Bool) : Rp K G (.bl b) (.bool b)
  | int (i : Int) : Rp K G (.int i) (.int i)
  | str (x : Str) : Rp K G (.str x) (.str x)
  | lst {a : Addr} {xs : List V} {ds : List PyData} : G a = some (.lst xs) → Rps K G xs ds → Rp K G (.ref a) (.list ds)
  | tup {a : Addr} {xs : List V} {ds : List PyData} : SqT K G a xs → Rps K G xs ds → Rp K G (.ref a) (.tuple ds)
inductive Rps (K : PySem.W.Frag) (G : Hp) : List V → List PyData → Prop
  | nil : Rps K G [] []
  | cons {v : V} {vs : List V} {d : PyData} {ds : List PyData} : Rp K G v d → Rps K G vs ds → Rps K G (v :: vs) (d :: ds)
end
mutual
theorem Rp.mono {K : PySem.W.Frag} {G G' : Hp} (e : Ex G G') : ∀ {v : V} {d : PyData}, Rp K G v d → Rp K G' v d
  | _, _, .non => .non
  | _, _, .bl b => .bl b
  | _, _, .int i => .int i
  | _, _, .str x => .str x
  | _, _, .lst h r => .lst (e _ _ h) (Rps.mono e r)
  | _, _, .tup h r => .tup (e.st h) (Rps.mono e r)
theorem Rps.mono {K : PySem.W.Frag} {G G' : Hp} (e : Ex G G') : ∀ {vs : List V} {ds : List PyData}, Rps K G vs ds → Rps K G' vs ds
  | _, _, .nil => .nil
  | _, _, .cons h r => .cons (Rp.mono e h) (Rps.mono e r)
end
mutual
theorem Rp.dp {K : PySem.W.Frag} {G : Hp} : ∀ {v : V} {d : PyData}, Rp K G v d → Dp K G v d
  | _, _, .non => .non
  | _, _, .bl b => .bl b
  | _, _, .int i => .int i
  | _, _, .str x => .str x
  | _, _, .lst h r => .lst (.inl (.inl h)) (Rps.dp r)
  | _, _, .tup h r => .tup h (Rps.dp r)
theorem Rps.dp {K : PySem.W.Frag} {G : Hp} : ∀ {vs : List V} {ds : List PyData}, Rps K G vs ds → DpAll K G vs ds
  | _, _, .nil => .nil
  | _, _, .cons h r => .cons (Rp.dp h) (Rps.dp r)
end
section
variable {K : PySem.W.Frag} {G : Hp}
theorem Rps.len : ∀ {vs : List V} {ds : List PyData}, Rps K G vs ds → vs.length = ds.length
  | _, _, .nil => rfl
  | _, _, .cons _ r => by rw [List.length_cons, List.length_cons, Rps.len r]
theorem Rps.get : ∀ {vs : List V} {ds : List PyData} {i : Nat} {d : PyData}, Rps K G vs ds → ds[i]? = some d → ∃ v, vs[i]? = some v ∧ Rp K G v d
  | _, _, _, _, .nil, e => by simp at e
  | _, _, 0, _, .cons h _, e => by
    simp at e
    subst e
    exact ⟨_, rfl, h⟩
  | _, _, i + 1, d, .cons _ r, e => by
    obtain ⟨v, h1, h2⟩ := Rps.get (i := i) (d := d) r (by simpa using e)
    exact ⟨v, by simpa using h1, h2⟩
theorem Rps.at {vs : List V} {ds : List PyData} {i : Nat} {v : V} (h : Rps K G vs ds) (e : vs[i]? = some v) : ∃ d, ds[i]? = some d ∧ Rp K G v d := by
  have hi : i < ds.length := by
    rw [← h.len]
    exact (List.getElem?_eq_some_iff.mp e).1
  obtain ⟨u, h1, h2⟩ := h.get (List.getElem?_eq_getElem hi)
  rw [e] at h1
  cases h1
  exact ⟨_, List.getElem?_eq_getElem hi, h2⟩
theorem Rps.app : ∀ {vs us : List V} {ds es : List PyData}, Rps K G vs ds → Rps K G us es → Rps K G (vs ++ us) (ds ++ es)
  | _, _, _, _, .nil, h => h
  | _, _, _, _, .cons h r, q => .cons h (Rps.app r q)
theorem Rps.drop : ∀ {vs : List V} {ds : List PyData} (n : Nat), Rps K G vs ds → Rps K G (vs.drop n) (ds.drop n)
  | _, _, 0, r => r
  | _, _, _ + 1, .nil => .nil
  | _, _, n + 1, .cons _ r => Rps.drop n r
theorem Rps.take : ∀ {vs : List V} {ds : List PyData} (n : Nat), Rps K G vs ds → Rps K G (vs.take n) (ds.take n)
  | _, _, 0, _ => .nil
  | _, _, _ + 1, .nil => .nil
  | _, _, n + 1, .cons h r => .cons h (Rps.take n r)
theorem Rps.rep {v : V} {d : PyData} (h : Rp K G v d) : ∀ n : Nat, Rps K G (List.replicate n v) (List.replicate n d)
  | 0 => .nil
  | n + 1 => .cons h (Rps.rep h n)
theorem Rps.one {v : V} {d : PyData} (h : Rp K G v d) : Rps K G [v] [d] := .cons h .nil
theorem Rps.set {v : V} {d : PyData} (h : Rp K G v d) : ∀ {vs : List V} {ds : List PyData} (i : Nat), Rps K G vs ds → Rps K G (vs.set i v) (ds.set i d)
  | _, _, _, .nil => .nil
  | _, _, 0, .cons _ r => .cons h r
  | _, _, i + 1, .cons q r => .cons q (Rps.set h i r)
theorem rp_int {v : V} {i : Int} (h : Rp K G v (.int i)) : v = .int i := by cases h <;> rfl
theorem rp_bool {v : V} {i : Bool} (h : Rp K G v (.bool i)) : v = .bl i := by cases h <;> rfl
theorem rp_str {v : V} {i : Str} (h : Rp K G v (.str i)) : v = .str i := by cases h <;> rfl
theorem rp_none {v : V} (h : Rp K G v .none) : v = .non := by cases h <;> rfl
theorem rp_tup {v : V} {ds : List PyData} (h : Rp K G v (.tuple ds)) : ∃ a vs, v = .ref a ∧ SqT K G a vs ∧ Rps K G vs ds := by
  cases h with
  | tup h r => exact ⟨_, _, rfl, h, r⟩
theorem rp_lst {v : V} {ds : List PyData} (h : Rp K G v (.list ds)) : ∃ a vs, v = .ref a ∧ G a = some (.lst vs) ∧ Rps K G vs ds := by
  cases h with
  | lst h r => exact ⟨_, _, rfl, h, r⟩
theorem rp_nodict {v : V} {ds : List (PyData × PyData)} (h : Rp K G v (.dict ds)) : False := by cases h
theorem rps_ints {vs : List V} {ns : List Int} (h : Rps K G vs (ns.map .int)) : vs = ns.map .int := by
  induction ns generalizing vs with
  | nil => cases h <;> rfl
  | cons n r ih =>
    cases h with
    | cons h1 h2 => rw [rp_int h1, ih h2] <;> rfl
theorem ints_rps : ∀ ns : List Int, Rps K G (ns.map V.int) (ns.map .int)
  | [] => .nil
  | n :: r => .cons (.int n) (ints_rps r)
end
end Cw

set_option maxHeartbeats 4000000
namespace Cw
open PySem PySem.Spec PyProof.Rows L2
/-! ### what the module's names are: the built-in ones are free -/
structure Blt (mg : Str → Option Value) : Prop where
  len_ : mg "len" = none
  range_ : mg "range" = none
  int_ : mg "int" = none
  str_ : mg "str" = none
  bool_ : mg "bool" = none
  list_ : mg "list" = none
  tuple_ : mg "tuple" = none
  set_ : mg "set" = none
  dict_ : mg "dict" = none
  isinstance_ : mg "isinstance" = none
  all_ : mg "all" = none
  any_ : mg "any" = none
  enumerate_ : mg "enumerate" = none
  zip_ : mg "zip" = none
  min_ : mg "min" = none
  max_ : mg "max" = none
  sum_ : mg "sum" = none
  sorted_ : mg "sorted" = none
  reversed_ : mg "reversed" = none
  Exception_ : mg "Exception" = none
  ValueError_ : mg "ValueError" = none
theorem bo_len : bootBuiltins "len" = some (.builtin "len") := PySem.boot_len
theorem bo_isinstance : bootBuiltins "isinstance" = some (.builtin "isinstance") := by decide +kernel
theorem bo_all : bootBuiltins "all" = some (.builtin "all") := by decide +kernel
theorem bo_any : bootBuiltins "any" = some (.builtin "any") := by decide +kernel
theorem bo_int : bootBuiltins "int" = some (.type "int") := by decide +kernel
theorem bo_str : bootBuiltins "str" = some (.type "str") := by decide +kernel
theorem bo_bool : bootBuiltins "bool" = some (.type "bool") := by decide +kernel
theorem bo_list : bootBuiltins "list" = some (.type "list") := by decide +kernel
theorem bo_tuple : bootBuiltins "tuple" = some (.type "tuple") := by decide +kernel
theorem bo_set : bootBuiltins "set" = some (.type "set") := by decide +kernel
theorem bo_Exception : bootBuiltins "Exception" = some (.type "Exception") := by decide +kernel
theorem bo_ValueError : bootBuiltins "ValueError" = some (.type "ValueError") := by decide +kernel

/-! ### a def of the text -/
abbrev FnP (K : PySem.W.Frag) (x : Str) (st : Stmt) (f : Addr) (fd : FuncData) : Prop := FunD K x x (defArgs st) (defBody st) (defScope st) [] [] f fd
/-- a def that a name of the module stands for, and what it promises (no exception) -/
def Cal (P : Program) (w : World) (K : PySem.W.Frag) (mg : Str → Option Value) (base : Heap) (k : Nat) (x : Str) (ps : List Str) (sp : Sp) : Prop :=
  ∃ f fd, FnOk P w K mg base CX0 k f fd ps sp ∧ mg x = some (.ref f) ∧ PySem.W.keepIn K (.ref f) = true ∧ Binds K fd ps []
/-- the same of one that may raise -/
def CalX (P : Program) (w : World) (K : PySem.W.Frag) (mg : Str → Option Value) (base : Heap) (k : Nat) (x : Str) (ps : List Str) (sp : Sp) : Prop :=
  ∃ f fd, FnOk P w K mg base (L2.CX P w) k f fd ps sp ∧ mg x = some (.ref f) ∧ PySem.W.keepIn K (.ref f) = true ∧ Binds K fd ps []
section
variable {P : Program} {w : World} {K : PySem.W.Frag} {mg : Str → Option Value} {base : Heap}
theorem Cal.imp {k : Nat} {x : Str} {ps : List Str} {sp sp' : Sp} (c : Cal P w K mg base k x ps sp) (h : ∀ vs H Q E, sp' vs H Q E → sp vs H Q E) : Cal P w K mg base k x ps sp' := by
  obtain ⟨f, fd, h1, h2⟩ := c
  exact ⟨f, fd, h1.imp h, h2⟩
theorem Cal.mono {j k : Nat} {x : Str} {ps : List Str} {sp : Sp} (c : Cal P w K mg base j x ps sp) (h : j ≤ k) : Cal P w K mg base k x ps sp := by
  obtain ⟨f, fd, h1, h2⟩ := c
  exact ⟨f, fd, h1.mono h, h2⟩
/-- a def of the text that raises nothing keeps its promise -/
theorem cal_of {x : Str} {st : Stmt} {f : Addr} {fd : FuncData} {N ps : List Str} {k : Nat} {sp : Sp} (F : FnP K x st f fd) (hm : mg x = some (.ref f)) (S : FnScope N ps (defScope st))
    (hb : ∀ (dV kV doc pm : Value) (an : Option Addr) (cdv ct : Value) (us : List Value), us.length = ps.length → bindArgs (PySem.W.fnOf x x (defArgs st) (defBody st) (defScope st) .none kV doc pm an cdv ct) ⟨us, []⟩ = pure (ps.zip us))
    (len : ∀ vs H Q E, sp vs H Q E → vs.length = ps.length)
    (body : ∀ (cdv : Value) (A : Around) (outer : List Env) (s : Shared) (H : Hp) (vs : List V) (Q : VK) (E : XK), Room k (A.deeper (envOfC x (defScope st) s.heap.objs.size f cdv)) → sp vs H Q E →
      ∃ t σ, PSs (cxOf CX0 P w K mg base N x (defScope st) f cdv A outer s H E).nox (defBody st) t ∧ start N vs = σ ∧ t { nx := fun _ H' => Q .non H', rt := Q } σ H) :
    Cal P w K mg base (k + 1) x ps sp := by
  refine ⟨f, fd, FunD.ok F S len (fun cdv A outer s H vs Q E hr h => ?_), hm, F.kp, ?_⟩
  · obtain ⟨t, σ, h1, rfl, h2⟩ := body cdv A outer s H vs Q E hr h
    exact ⟨t, PSs.nox h1, h2⟩
  · obtain ⟨oc, od, dV, kV, doc, pm, an, cdv, ct, osl, rfl, lk, hcd, hd, hk⟩ := F.ex
    rcases hd with ⟨_, rfl⟩ | ⟨z, _⟩
    · exact .all fun us hu => hb .none kV doc pm an cdv ct us hu
    · exact absurd rfl z
/-- a def stands there, of which nothing is asked -/
theorem cal_never {x : Str} {st : Stmt} {f : Addr} {fd : FuncData} {ps : List Str} {k : Nat} {sp : Sp} (F : FnP K x st f fd) (hm : mg x = some (.ref f))
    (hb : ∀ (dV kV doc pm : Value) (an : Option Addr) (cdv ct : Value) (us : List Value), us.length = ps.length → bindArgs (PySem.W.fnOf x x (defArgs st) (defBody st) (defScope st) .none kV doc pm an cdv ct) ⟨us, []⟩ = pure (ps.zip us))
    (no : ∀ vs H Q E, ¬ sp vs H Q E) : Cal P w K mg base k x ps sp := by
  refine ⟨f, fd, ⟨fun vs H Q E h => absurd h (no vs H Q E), fun A outer s H args us vs Q E _ _ _ _ h => absurd h (no vs H Q E)⟩, hm, F.kp, ?_⟩
  obtain ⟨oc, od, dV, kV, doc, pm, an, cdv, ct, osl, rfl, lk, hcd, hd, hk⟩ := F.ex
  rcases hd with ⟨_, rfl⟩ | ⟨z, _⟩
  · exact .all fun us hu => hb .none kV doc pm an cdv ct us hu
  · exact absurd rfl z
theorem calX_of {x : Str} {st : Stmt} {f : Addr} {fd : FuncData} {N ps : List Str} {k : Nat} {sp : Sp} (F : FnP K x st f fd) (hm : mg x = some (.ref f)) (S : FnScope N ps (defScope st))
    (hb : ∀ (dV kV doc pm : Value) (an : Option Addr) (cdv ct : Value) (us : List Value), us.length = ps.length → bindArgs (PySem.W.fnOf x x (defArgs st) (defBody st) (defScope st) .none kV doc pm an cdv ct) ⟨us, []⟩ = pure (ps.zip us))
    (len : ∀ vs H Q E, sp vs H Q E → vs.length = ps.length)
    (body : ∀ (cdv : Value) (A : Around) (outer : List Env) (s : Shared) (H : Hp) (vs : List V) (Q : VK) (E : XK), Room k (A.deeper (envOfC x (defScope st) s.heap.objs.size f cdv)) → sp vs H Q E →
      ∃ t σ, PSs (cxOf (L2.CX P w) P w K mg base N x (defScope st) f cdv A outer s H E) (defBody st) t ∧ start N vs = σ ∧ t { nx := fun _ H' => Q .non H', rt := Q } σ H) :
    CalX P w K mg base (k + 1) x ps sp := by
  refine ⟨f, fd, FunD.ok F S len (fun cdv A outer s H vs Q E hr h => ?_), hm, F.kp, ?_⟩
  · obtain ⟨t, σ, h1, rfl, h2⟩ := body cdv A outer s H vs Q E hr h
    exact ⟨t, h1, h2⟩
  obtain ⟨oc, od, dV, kV, doc, pm, an, cdv, ct, osl, rfl, lk, hcd, hd, hk⟩ := F.ex
  rcases hd with ⟨_, rfl⟩ | ⟨z, _⟩
  · exact .all fun us hu => hb .none kV doc pm an cdv ct us hu
  · exact absurd rfl z
end
section
variable {X : Cx} {e : Expr} {es : List Expr} {ta tb : TE} {t : TA} {pos p : Pos}
theorem hu64 {k : Nat} (hr : Room k X.A) : X.A.units + 64 < cLine := hr.units
theorem hu65 {k : Nat} (hr : Room k X.A) : X.A.units + 65 < cLine := by
  have := hr.un
  omega
theorem pe_callC {k : Nat} {x : Str} {ps : List Str} {sp : Sp} (C : Cal X.prog X.w X.K X.mg X.base k x ps sp) (hr : Room k X.A) (hg : Gl X x) (ha : PA X (e :: es) t)
    (hdb : (x == ("__debug__" : Str)) = false := by decide) (he : starEach (e :: es) X.env = (false, eval e X.env) :: starEach es X.env := by rfl) (hpl : (backTo pos (starEach es X.env)).any (·.1) = false := by rfl) :
    PE X (.Call (.Name x p) (e :: es) [] pos) (tCall sp [] E0 t) := by
  obtain ⟨f, fd, h1, h2, h3, h4⟩ := C
  exact pe_call h1 hr hg h2 h3 h4 .nil pass0 ha hdb he hpl
theorem pe_call0C {k : Nat} {x : Str} {ps : List Str} {sp : Sp} (C : Cal X.prog X.w X.K X.mg X.base k x ps sp) (hr : Room k X.A) (hg : Gl X x)
    (hdb : (x == ("__debug__" : Str)) = false := by decide) : PE X (.Call (.Name x p) [] [] pos) (tCall sp [] E0 tNil) := by
  obtain ⟨f, fd, h1, h2, h3, h4⟩ := C
  exact pe_call0 h1 hr hg h2 h3 h4 .nil pass0 hdb
/-- a call of a def that may raise: what is wished for it stands at the caller's slots -/
theorem pe_callXC {k : Nat} {x : Str} {ps : List Str} {sp : Sp} {E : L2.St → XK} (C : CalX X.prog X.w X.K X.mg X.base k x ps sp) (hr : Room k X.A) (hg : Gl X x) (hx : ∀ σ, PassesAt (L2.CX X.prog X.w) X σ (E σ)) (ha : PA X (e :: es) t)
    (hdb : (x == ("__debug__" : Str)) = false := by decide) (he : starEach (e :: es) X.env = (false, eval e X.env) :: starEach es X.env := by rfl) (hpl : (backTo pos (starEach es X.env)).any (·.1) = false := by rfl) :
    PE X (.Call (.Name x p) (e :: es) [] pos) (tCallS sp E t) := by
  obtain ⟨f, fd, h1, h2, h3, h4⟩ := C
  exact pe_callS h1 hr hg h2 h3 h4 hx ha hdb he hpl

theorem pe_bty {x : Str} {n : String} (hg : Gl X x) (hm : X.mg x = none) (hv : bootBuiltins x = some (.type n)) (hn : x ≠ "__name__" := by decide) (hd : (x == ("__debug__" : Str)) = false := by decide) : PE X (.Name x pos) (tC (.ty n)) := pe_bltn hg hm hv rfl hn hd
theorem pe_gref {x : Str} {a : Addr} (hg : Gl X x) (hm : X.mg x = some (.ref a)) (hd : (x == ("__debug__" : Str)) = false := by decide) : PE X (.Name x pos) (tC (.ref a)) := pe_glob hg hm rfl hd
theorem pe_gint {x : Str} {i : Int} (hg : Gl X x) (hm : ∃ t, X.mg x = some (.int i t)) (hd : (x == ("__debug__" : Str)) = false := by decide) : PE X (.Name x pos) (tC (.int i)) := by
  obtain ⟨t, h⟩ := hm
  exact pe_glob hg h ⟨t, rfl⟩ hd
theorem pe_gstr {x z : Str} (hg : Gl X x) (hm : ∃ t, X.mg x = some (.str z t)) (hd : (x == ("__debug__" : Str)) = false := by decide) : PE X (.Name x pos) (tC (.str z)) := by
  obtain ⟨t, h⟩ := hm
  exact pe_glob hg h ⟨t, rfl⟩ hd
/-! ### operators of more than one kind -/
def rAddA (K : PySem.W.Frag) : R2 := fun x y H Q => rI0 (fun i j => .int (i + j)) x y H Q ∨ rCat x y H Q ∨ rCatA K x y H Q ∨ ∃ i j, x = .str i ∧ y = .str j ∧ i.length + j.length ≤ sizeLine ∧ Q (.str (i ++ j)) H
theorem op_addA : OpR X (binaryOp .Add) (rAddA X.K) := op_add.or (op_cat.or (op_catA.or op_add_str))
def rMulA (K : PySem.W.Frag) : R2 := fun x y H Q => rI CMul (fun i j => .int (i * j)) x y H Q ∨ rRep x y H Q ∨ rRepT K x y H Q
theorem op_mulA : OpR X (binaryOp .Mult) (rMulA X.K) := op_mul.or (op_rep.or op_repT)
def rEqA (K : PySem.W.Frag) : R2 := fun x y H Q => rEq x y H Q ∨ rEqD K x y H Q
theorem op_eqA (hu : X.A.units + 64 < cLine) : OpR X (compareOp .Eq) (rEqA X.K) := op_eq.or (op_eqD hu)
def rNeA (K : PySem.W.Frag) : R2 := fun x y H Q => rNe x y H Q ∨ rNeD K x y H Q
theorem op_neA (hu : X.A.units + 64 < cLine) : OpR X (compareOp .NotEq) (rNeA X.K) := op_ne.or (op_neD hu)
abbrev rInSgn : R2 := fun x y H Q => ∃ (c : Nat) (z : Str), x = .str ⟨#[c]⟩ ∧ y = .str z ∧ Q (.bl (decide (c ∈ z.cps.toList))) H
abbrev rNiSgn : R2 := fun x y H Q => ∃ (c : Nat) (z : Str), x = .str ⟨#[c]⟩ ∧ y = .str z ∧ Q (.bl (!decide (c ∈ z.cps.toList))) H
def rInA (K : PySem.W.Frag) : R2 := fun x y H Q => rIn K false x y H Q ∨ rInD K x y H Q ∨ rInSgn x y H Q
theorem op_inA (hu : X.A.units + 65 < cLine) : OpR X (compareOp .In) (rInA X.K) := op_in_seq.or ((op_inD hu).or op_in_sign)
def rNiA (K : PySem.W.Frag) : R2 := fun x y H Q => rIn K true x y H Q ∨ rNotInD K x y H Q ∨ rNiSgn x y H Q
theorem op_niA (hu : X.A.units + 65 < cLine) : OpR X (compareOp .NotIn) (rNiA X.K) := op_notIn_seq.or ((op_notInD hu).or op_notIn_sign)
def rIsA : R2 := fun x y H Q => (y = .non ∧ Q (.bl (decide (x = .non))) H) ∨ rIsB x y H Q
theorem op_isA : OpR X (compareOp .Is) rIsA := op_isN.or op_isBl
def rIsntA : R2 := fun x y H Q => (y = .non ∧ Q (.bl (!decide (x = .non))) H) ∨ rNotB x y H Q
theorem op_isnotA : OpR X (compareOp .IsNot) rIsntA := op_notN.or op_notBl
def rSlAny (K : PySem.W.Frag) : V → Option Int → Option Int → Hp → VK → Prop := fun x lo hi H Q => rSlL K x lo hi H Q ∨ rSlA K x lo hi H Q ∨ rSlS x lo hi H Q
theorem sl_anyA : SlR X (rSlAny X.K) := sl_list.or (sl_tupA.or sl_str)
def rPopA : V → List V → Hp → VK → Prop := fun x vs H Q => rPop x vs H Q ∨ rPopAt x vs H Q
theorem mt_popA : MtR X "list.pop" rPopA := MtR.or mt_pop mt_popAt
def rIntA : List V → Hp → VK → Prop := fun xs H Q => (∃ i, xs = [.int i] ∧ Q (.int i) H) ∨ (∃ k, xs = [.bl k] ∧ Q (.int (if k then 1 else 0)) H)
theorem call_intA : CallR X (.type "int") rIntA := call_int1
def rLenA (K : PySem.W.Frag) : List V → Hp → VK → Prop := fun xs H Q => ∃ x n, xs = [x] ∧ LenV K x H n ∧ Q (.int n) H
theorem call_lenA : CallR X (.builtin "len") (rLenA X.K) := call_len
def rListA (K : PySem.W.Frag) : List V → Hp → VK → Prop := fun xs H Q => ∃ p ys, xs = [.ref p] ∧ (SqL K H p ys ∨ SqT K H p ys) ∧ ∀ l, H l = none → Q (.ref l) (upd H l (.lst ys))
theorem call_listA : CallR X (.type "list") (rListA X.K) := call_list_of
def rTupA (K : PySem.W.Frag) : List V → Hp → VK → Prop := fun xs H Q => ∃ p ys, xs = [.ref p] ∧ ((SqL K H p ys ∧ ∀ l, H l = none → Q (.ref l) (upd H l (.tup ys))) ∨ (SqT K H p ys ∧ Q (.ref p) H))
theorem call_tupA : CallR X (.type "tuple") (rTupA X.K) := call_tuple_of
def rJoinA (K : PySem.W.Frag) : V → List V → Hp → VK → Prop := fun x xs H Q => ∃ a p, ∃ ys : List Str, x = .str a ∧ xs = [.ref p] ∧ (SqL K H p (ys.map V.str) ∨ SqT K H p (ys.map V.str)) ∧ (ys.map (·.length)).sum + ys.length * a.length ≤ 16777216 ∧ Q (.str (Txt.join a ys)) H
theorem pe_joinA {o : Expr} {to : TE} {apos : Pos} (ho : PE X o to) (he : PE X e ta) (hs : starEach [e] X.env = [(false, eval e X.env)] := by rfl) (hbase : attributeBase o "join" X.env (eval o X.env) = eval o X.env := by rfl) (hline : (apos.endLine == pos.line) = true := by rfl) :
    PE X (.Call (.Attribute o "join" apos) [e] [] pos) (tM1 (rJoinA X.K) to ta) := pe_join ho he hs hbase hline
/-! ### a statement, then the rest, with a word between them -/
abbrev tCut : TS → TS → TS := C8.tCut
theorem pss_cut {st : Stmt} {rest : List Stmt} {t u : TS} (h1 : PS X st t) (h2 : PSs X rest u) : PSs X (st :: rest) (tCut t u) := C8.pss_cut h1 h2
/-! ### what a for walks: a list, a tuple, a text -/
theorem pi_or {tg it : Expr} {w1 w2 : TI} (h1 : PI X tg it w1) (h2 : PI X tg it w2) : PI X tg it (fun σ H R => w1 σ H R ∨ w2 σ H R) := ⟨fun pins s σ H R I h => by
  rcases h with h | h
  · exact h1.run pins s σ H R I h
  · exact h2.run pins s σ H R I h⟩
def iSeqA (K : PySem.W.Frag) (te : TE) : TI := fun σ H R => iList K te σ H R ∨ iTup K te σ H R ∨ iStr te σ H R
theorem pi_seqA {tg : Expr} (he : PE X e ta) : PI X tg e (iSeqA X.K ta) := pi_or (pi_list he) (pi_or (pi_tup he) (pi_str he))
end
end Cw

set_option maxHeartbeats 4000000
namespace Cw
open PySem PySem.Spec PyProof.Rows L2
/-! ### readings, one step each -/
section
variable {K : PySem.W.Frag} {σ : L2.St} {G H : Hp} {Q : VK} {D : Ends} {ta tb tc : TE} {t u : TS} {c c2 : TT} {x y v : V} {i j n : Int} {r : R2}
theorem q_seq (h : t { D with nx := u D } σ H) : tSeq t u D σ H := h
theorem q_asg {k : Nat} (h : ta σ H fun x H1 => D.nx (σ.set k (some x)) H1) : tAsg ta (gName k) D σ H := h
theorem q_asgG {g : TG} (h : ta σ H fun x H1 => g x σ H1 D.nx) : tAsg ta g D σ H := h
theorem q_sub {s : TSet} {R : L2.St → Hp → Prop} (h : ta σ H fun o H1 => tb σ H1 fun i H2 => s o i v H2 fun H3 => R σ H3) : gSub ta tb s v σ H R := h
theorem q_ret (h : ta σ H D.rt) : tRet ta D σ H := h
theorem q_retN (h : D.rt .non H) : tRetN D σ H := h
theorem q_drop (h : ta σ H fun _ H1 => D.nx σ H1) : tDrop ta D σ H := h
theorem q_next (h : D.nx σ H) : tNext D σ H := h
theorem q_ifs (h : c σ H fun b H1 => if b = true then t D σ H1 else u D σ H1) : tIfS c t u D σ H := h
theorem q_op (h : ta σ H fun x H1 => tb σ H1 fun y H2 => r x y H2 Q) : tOp r ta tb σ H Q := h
theorem q_un {r : V → Hp → VK → Prop} (h : ta σ H fun x H1 => r x H1 Q) : tUn r ta σ H Q := h
theorem q_var {k : Nat} (h : σ[k]? = some (some v)) (q : Q v H) : tVar k σ H Q := ⟨v, h, q⟩
theorem q_c (q : Q v H) : tC v σ H Q := q
theorem q_nil {Q : List V → Hp → Prop} (q : Q [] H) : tNil σ H Q := q
theorem q_cons {ts : TA} {Q : List V → Hp → Prop} (h : ta σ H fun x H1 => ts σ H1 fun xs H2 => Q (x :: xs) H2) : tCons ta ts σ H Q := h
theorem q_cb {ts : TA} {r : List V → Hp → VK → Prop} (h : ts σ H fun vs H1 => r vs H1 Q) : tCB r ts σ H Q := h
theorem q_call {ts : TA} {sp : Sp} {E : XK} (h : ts σ H fun vs H1 => sp (vs ++ []) H1 Q E) : tCall sp [] E ts σ H Q := h
theorem q_test {Q : Bool → Hp → Prop} (h : ta σ H fun x H1 => ∃ k, x = .bl k ∧ Q k H1) : tTest ta σ H Q := h
theorem q_B {Q : Bool → Hp → Prop} (h : ta σ H fun x H1 => ∃ k, x = .bl k ∧ Q k H1) : tB ta σ H Q := h
theorem q_bl {b : Bool} {Q : Bool → Hp → Prop} (h : Q b H) : ∃ k, V.bl b = .bl k ∧ Q k H := ⟨b, rfl, h⟩
theorem q_and {Q : Bool → Hp → Prop} (h : c σ H fun b H1 => if b = true then c2 σ H1 Q else Q false H1) : tAnd c c2 σ H Q := h
theorem q_or {Q : Bool → Hp → Prop} (h : c σ H fun b H1 => if b = true then Q true H1 else c2 σ H1 Q) : tOr c c2 σ H Q := h
theorem q_not {Q : Bool → Hp → Prop} (h : c σ H fun b H1 => Q (!b) H1) : tNot c σ H Q := h
theorem q_andV (h : ta σ H fun x H1 => ∃ c, x = .bl c ∧ if c = true then tb σ H1 Q else Q (.bl false) H1) : tAndV ta tb σ H Q := h
theorem q_orV (h : ta σ H fun x H1 => ∃ c, x = .bl c ∧ if c = true then Q (.bl true) H1 else tb σ H1 Q) : tOrV ta tb σ H Q := h
theorem q_notV (h : ta σ H fun x H1 => ∃ c, x = .bl c ∧ Q (.bl (!c)) H1) : tNotV ta σ H Q := h
theorem q_ife (h : c σ H fun b H1 => if b = true then ta σ H1 Q else tb σ H1 Q) : tIf c ta tb σ H Q := h
theorem q_blI {b : Bool} {R : Bool → Prop} (h : R b) : ∃ k, V.bl b = .bl k ∧ R k := ⟨b, rfl, h⟩
theorem q_tup {ts : TA} (h : ts σ H fun xs H1 => xs.length ≤ sizeLine ∧ ∀ p, H1 p = none → Q (.ref p) (upd H1 p (.tup xs))) : tTup ts σ H Q := h
theorem q_lst {ts : TA} (h : ts σ H fun xs H1 => xs.length ≤ sizeLine ∧ ∀ p, H1 p = none → Q (.ref p) (upd H1 p (.lst xs))) : tLst ts σ H Q := h
theorem q_sl {r : V → Option Int → Option Int → Hp → VK → Prop} {tl th : TO} (h : ta σ H fun x H1 => tl σ H1 fun l H2 => th σ H2 fun u H3 => r x l u H3 Q) : tSl r ta tl th σ H Q := h
theorem q_no {Q : Option Int → Hp → Prop} (h : Q none H) : tNoPart σ H Q := h
theorem q_part {Q : Option Int → Hp → Prop} (h : ta σ H fun x H1 => ∃ i, x = .int i ∧ Q (some i) H1) : tPart ta σ H Q := h
theorem q_some {Q : Option Int → Hp → Prop} (h : Q (some i) H) : ∃ k, V.int i = .int k ∧ Q (some k) H := ⟨i, rfl, h⟩
theorem q_cut {M : L2.St → Hp → Prop} (h : t { D with nx := M } σ H) (k : ∀ σ' H', M σ' H' → u D σ' H') : tCut t u D σ H := ⟨M, h, k⟩
/-! operators -/
theorem q_add (q : Q (.int (i + j)) H) : rAddA K (.int i) (.int j) H Q := .inl ⟨i, j, rfl, rfl, q⟩
theorem q_sub2 (q : Q (.int (i - j)) H) : rI0 (fun i j => .int (i - j)) (.int i) (.int j) H Q := ⟨i, j, rfl, rfl, q⟩
theorem q_mul (h : (-(2 ^ 64) < i ∧ i < 2 ^ 64) ∨ (-(2 ^ 64) < j ∧ j < 2 ^ 64)) (q : Q (.int (i * j)) H) : rMulA K (.int i) (.int j) H Q := .inl ⟨i, j, rfl, rfl, h, q⟩
theorem q_mod (h : 0 < j) (q : Q (.int (i % j)) H) : rI (fun _ j => 0 < j) (fun i j => .int (i % j)) (.int i) (.int j) H Q := ⟨i, j, rfl, rfl, h, q⟩
theorem q_fdiv (h : 0 < j ∧ j < 1073741824) (q : Q (.int (i / j)) H) : rI CDiv (fun i j => .int (i / j)) (.int i) (.int j) H Q := ⟨i, j, rfl, rfl, h, q⟩
theorem q_pow (h : CPow i j) (q : Q (.int (i ^ j.toNat)) H) : rI CPow (fun i j => .int (i ^ j.toNat)) (.int i) (.int j) H Q := ⟨i, j, rfl, rfl, h, q⟩
theorem q_neg (q : Q (.int (-i)) H) : rU (fun i => .int (-i)) (.int i) H Q := ⟨i, rfl, q⟩
theorem q_int (q : Q (.int i) H) : rIntA [.int i] H Q := .inl ⟨i, rfl, q⟩
theorem q_intB {b : Bool} (q : Q (.int (if b then 1 else 0)) H) : rIntA [.bl b] H Q := .inr ⟨b, rfl, q⟩
theorem q_lt (q : Q (.bl (decide (i < j))) H) : rI0 (fun i j => .bl (decide (i < j))) (.int i) (.int j) H Q := ⟨i, j, rfl, rfl, q⟩
theorem q_le (q : Q (.bl (decide (i ≤ j))) H) : rI0 (fun i j => .bl (decide (i ≤ j))) (.int i) (.int j) H Q := ⟨i, j, rfl, rfl, q⟩
theorem q_gt (q : Q (.bl (decide (j < i))) H) : rI0 (fun i j => .bl (decide (j < i))) (.int i) (.int j) H Q := ⟨i, j, rfl, rfl, q⟩
theorem q_ge (q : Q (.bl (decide (j ≤ i))) H) : rI0 (fun i j => .bl (decide (j ≤ i))) (.int i) (.int j) H Q := ⟨i, j, rfl, rfl, q⟩
theorem dec_i : decide (V.int i = V.int j) = decide (i = j) := by
  rw [Bool.eq_iff_iff]
  simp
theorem dec_s {a b : Str} : decide (V.str a = V.str b) = decide (a = b) := by
  rw [Bool.eq_iff_iff]
  simp
theorem dec_b {a b : Bool} : decide (V.bl a = V.bl b) = decide (a = b) := by
  rw [Bool.eq_iff_iff]
  simp
theorem q_eqI (q : Q (.bl (decide (i = j))) H) : rEqA K (.int i) (.int j) H Q := .inl ⟨rfl, by rw [dec_i]; exact q⟩
theorem q_neI (q : Q (.bl (!decide (i = j))) H) : rNeA K (.int i) (.int j) H Q := .inl ⟨rfl, by rw [dec_i]; exact q⟩
theorem q_eqS {a b : Str} (q : Q (.bl (decide (a = b))) H) : rEqA K (.str a) (.str b) H Q := .inl ⟨rfl, by rw [dec_s]; exact q⟩
theorem q_neS {a b : Str} (q : Q (.bl (!decide (a = b))) H) : rNeA K (.str a) (.str b) H Q := .inl ⟨rfl, by rw [dec_s]; exact q⟩
theorem q_eqB {a b : Bool} (q : Q (.bl (decide (a = b))) H) : rEqA K (.bl a) (.bl b) H Q := .inl ⟨rfl, by rw [dec_b]; exact q⟩
theorem q_neB {a b : Bool} (q : Q (.bl (!decide (a = b))) H) : rNeA K (.bl a) (.bl b) H Q := .inl ⟨rfl, by rw [dec_b]; exact q⟩
theorem q_isN (q : Q (.bl (decide (x = .non))) H) : rIsA x .non H Q := .inl ⟨rfl, q⟩
theorem q_isntN (q : Q (.bl (!decide (x = .non))) H) : rIsntA x .non H Q := .inl ⟨rfl, q⟩
theorem q_isB {a b : Bool} (q : Q (.bl (decide (a = b))) H) : rIsA (.bl a) (.bl b) H Q := .inr ⟨a, b, rfl, rfl, q⟩
/-! an item -/
theorem q_ixL {a : Addr} {xs : List V} (h : SqL K H a xs) (e : atI xs i = some v) (q : Q v H) : rIx K (.ref a) (.int i) H Q := .inl ⟨a, xs, i, v, rfl, rfl, h, e, q⟩
theorem q_ixC {a : Addr} {xs : List V} (h : H a = some (.lst xs)) (e : atI xs i = some v) (q : Q v H) : rIx K (.ref a) (.int i) H Q := q_ixL (.inl (.inl h)) e q
theorem q_ixT {a : Addr} {xs : List V} (h : SqT K H a xs) (e : atI xs i = some v) (q : Q v H) : rIx K (.ref a) (.int i) H Q := .inr (.inl ⟨a, xs, i, v, rfl, rfl, h, e, q⟩)
theorem q_set {a : Addr} {xs : List V} {k : Nat} {R : Hp → Prop} (h : H a = some (.lst xs)) (e : ixN xs.length i = some k) (q : R (upd H a (.lst (xs.set k v)))) : rSetL (.ref a) (.int i) v H R := ⟨a, xs, i, k, rfl, rfl, h, e, q⟩
theorem q_lenC {a : Addr} {xs : List V} (h : SqL K H a xs) (q : Q (.int (xs.length : Nat)) H) : rLenA K [.ref a] H Q := ⟨_, _, rfl, .inl ⟨xs, h, rfl⟩, q⟩
theorem q_lenT {a : Addr} {xs : List V} (h : SqT K H a xs) (q : Q (.int (xs.length : Nat)) H) : rLenA K [.ref a] H Q := ⟨_, _, rfl, .inr ⟨xs, h, rfl⟩, q⟩
theorem q_lenS {z : Str} (h : z.length ≤ sizeLine) (q : Q (.int (z.length : Nat)) H) : rLenA K [.str z] H Q := ⟨_, _, rfl, ⟨h, rfl⟩, q⟩
/-! branches -/
theorem q_ift {A B : Prop} (h : A) : if true = true then A else B := iteT h
theorem q_iff {A B : Prop} (h : B) : if false = true then A else B := iteF h
theorem q_ifd {p A B : Prop} [Decidable p] (h1 : p → A) (h2 : ¬ p → B) : if decide p = true then A else B := by
  by_cases h : p
  · rw [if_pos (decide_eq_true h)]
    exact h1 h
  · rw [if_neg (by rw [decide_eq_false h]; decide)]
    exact h2 h
theorem q_ifnd {p A B : Prop} [Decidable p] (h1 : ¬ p → A) (h2 : p → B) : if (!decide p) = true then A else B := by
  by_cases h : p
  · rw [if_neg (by rw [decide_eq_true h]; decide)]
    exact h2 h
  · rw [if_pos (by rw [decide_eq_false h]; decide)]
    exact h1 h
theorem q_ifb {b : Bool} {A B : Prop} (h1 : b = true → A) (h2 : b = false → B) : if b = true then A else B := by
  cases b with
  | true => exact iteT (h1 rfl)
  | false => exact iteF (h2 rfl)
theorem upd_id {a : Addr} {o : HO} (h : H a = some o) : upd H a o = H := by
  funext b
  by_cases e : b = a
  · subst e
    rw [upd_same, h]
  · rw [upd_ne e]
theorem q_setU {a : Addr} {xs : List V} {k : Nat} {R : Hp → Prop} (e : ixN xs.length i = some k) (q : R (upd H a (.lst (xs.set k v)))) : rSetL (.ref a) (.int i) v (upd H a (.lst xs)) R := q_set upd_same e (by rw [upd_upd]; exact q)
theorem q_ixU {a : Addr} {xs : List V} (e : atI xs i = some v) (q : Q v (upd H a (.lst xs))) : rIx K (.ref a) (.int i) (upd H a (.lst xs)) Q := q_ixC upd_same e q
theorem q_ixInts {a : Addr} {ns : List Int} (h : SqL K H a (ns.map V.int)) (h0 : 0 ≤ i) (h1 : i < ns.length) (q : ∀ n : Int, n ∈ ns → Q (.int n) H) : rIx K (.ref a) (.int i) H Q := by
  obtain ⟨k, rfl⟩ := Int.eq_ofNat_of_zero_le h0
  have hk : k < ns.length := by omega
  exact q_ixL h (atI_nat (v := .int ns[k]) (by rw [List.getElem?_map, List.getElem?_eq_getElem hk] <;> rfl)) (q _ (List.getElem_mem hk))
end
theorem cxK {CXX : CXT} {P : Program} {w : World} {K : PySem.W.Frag} {mg : Str → Option Value} {base : Heap} {N : List Str} {q : Str} {sc : Scope} {f : Addr} {cd : Value} {A : Around} {o : List Env} {s : Shared} {H : Hp} {E : XK} : (cxOf CXX P w K mg base N q sc f cd A o s H E).nox.K = K := rfl
theorem cxK2 {CXX : CXT} {P : Program} {w : World} {K : PySem.W.Frag} {mg : Str → Option Value} {base : Heap} {N : List Str} {q : Str} {sc : Scope} {f : Addr} {cd : Value} {A : Around} {o : List Env} {s : Shared} {H : Hp} {E : XK} : (cxOf CXX P w K mg base N q sc f cd A o s H E).K = K := rfl
end Cw

set_option maxHeartbeats 4000000
namespace Cw
open PySem PySem.Spec PyProof.Rows L2
/-! ### isinstance of data -/
def tyN : PyData → String
  | .none => "NoneType"
  | .bool _ => "bool"
  | .int _ => "int"
  | .str _ => "str"
  | .list _ => "list"
  | .tuple _ => "tuple"
  | .dict _ => "dict"
theorem tyx_l {K : PySem.W.Frag} {H : Hp} {a : Addr} {xs : List V} (h : SqL K H a xs) : TyX K H (.ref a) (.type "list") := by
  rcases h with (h | ⟨o, h⟩) | ⟨o, its, n, h1, h2, h3⟩
  · exact .base (.lst h)
  · exact .base (.frz h)
  · exact .kList h1 h2
theorem tyx_t {K : PySem.W.Frag} {H : Hp} {a : Addr} {xs : List V} (h : SqT K H a xs) : TyX K H (.ref a) (.type "tuple") := by
  rcases h with (h | ⟨o, h⟩) | ⟨o, its, n, h1, h2, h3⟩
  · exact .base (.tup h)
  · exact .fTuple h
  · exact .kTuple h1 h2
theorem tyx_of {K : PySem.W.Frag} {G H : Hp} (e : Ex G H) {v : V} {d : PyData} (h : Rp K G v d) : TyX K H v (.type (tyN d)) := by
  cases h with
  | non => exact .base .non
  | bl b => exact .base (.bl b)
  | int i => exact .base (.int i)
  | str x => exact .base (.str x)
  | lst h _ => exact .base (.lst (e _ _ h))
  | tup h _ => exact tyx_t (e.st h)
def dInt : PyData → Bool
  | .int _ => true
  | .bool _ => true
  | _ => false
def dBool : PyData → Bool
  | .bool _ => true
  | _ => false
def dStr : PyData → Bool
  | .str _ => true
  | _ => false
def dLst : PyData → Bool
  | .list _ => true
  | _ => false
def dTup : PyData → Bool
  | .tuple _ => true
  | _ => false
def dSeq : PyData → Bool
  | .tuple _ => true
  | .list _ => true
  | _ => false
def isN (a n : String) : Bool := a == n || (a == "bool" && n == "int")
abbrev isI (d : PyData) (n : String) : Bool := isN (tyN d) n
theorem kitB_isI (d : PyData) {n : String} (hn : n = "int" ∨ n = "bool" ∨ n = "str" ∨ n = "list" ∨ n = "tuple") : kitB (tyN d) n = some (isI d n) := by
  have key : ∀ a ∈ ["NoneType", "bool", "int", "str", "list", "tuple", "dict"], ∀ n ∈ ["int", "bool", "str", "list", "tuple"], kitB a n = some (isN a n) := by decide +kernel
  refine key _ ?_ n ?_
  · cases d <;> simp [tyN]
  · rcases hn with rfl | rfl | rfl | rfl | rfl <;> simp
section
variable {K : PySem.W.Frag} {G H : Hp} {Q : VK} {v : V} {d : PyData}
theorem q_isi {n : String} (h : Rp K G v d) (e : Ex G H) (hn : n = "int" ∨ n = "bool" ∨ n = "str" ∨ n = "list" ∨ n = "tuple") (q : Q (.bl (isI d n)) H) : rIsi K [v, .ty n] H Q :=
  ⟨v, .ty n, _, .type n, _, rfl, .ty n, tyx_of e h, kit_ty (kitB_isI d hn), q⟩
theorem q_isi2 {n m : String} {p : Addr} (h : Rp K G v d) (e : Ex G H) (hp : H p = some (.tup [.ty n, .ty m])) (hn : n = "int" ∨ n = "bool" ∨ n = "str" ∨ n = "list" ∨ n = "tuple") (hm : m = "int" ∨ m = "bool" ∨ m = "str" ∨ m = "list" ∨ m = "tuple")
    (q : Q (.bl (isI d n || isI d m)) H) : rIsiT K [v, .ref p] H Q := by
  refine ⟨v, p, _, _, [.type n, .type m], _, rfl, hp, .cons (.ty n) (.cons (.ty m) .nil), tyx_of e h, ?_, q⟩
  have h1 : PySem.W.kitOne K (.type (tyN d)) (.type n) = some (isI d n) := kit_ty (kitB_isI d hn)
  have h2 : PySem.W.kitOne K (.type (tyN d)) (.type m) = some (isI d m) := kit_ty (kitB_isI d hm)
  unfold PySem.W.kitAny
  rw [h1]
  cases isI d n with
  | true => rfl
  | false =>
    unfold PySem.W.kitAny
    rw [h2]
    cases isI d m <;> rfl
theorem q_isiInt (h : Rp K G v d) (e : Ex G H) (q : Q (.bl (dInt d)) H) : rIsi K [v, .ty "int"] H Q :=
  q_isi h e (by simp) (by cases d <;> exact q)
theorem q_isiBool (h : Rp K G v d) (e : Ex G H) (q : Q (.bl (dBool d)) H) : rIsi K [v, .ty "bool"] H Q :=
  q_isi h e (by simp) (by cases d <;> exact q)
theorem q_isiStr (h : Rp K G v d) (e : Ex G H) (q : Q (.bl (dStr d)) H) : rIsi K [v, .ty "str"] H Q :=
  q_isi h e (by simp) (by cases d <;> exact q)
theorem q_isiLst (h : Rp K G v d) (e : Ex G H) (q : Q (.bl (dLst d)) H) : rIsi K [v, .ty "list"] H Q :=
  q_isi h e (by simp) (by cases d <;> exact q)
theorem q_isiTup (h : Rp K G v d) (e : Ex G H) (q : Q (.bl (dTup d)) H) : rIsi K [v, .ty "tuple"] H Q :=
  q_isi h e (by simp) (by cases d <;> exact q)
theorem q_isiTL {p : Addr} (h : Rp K G v d) (e : Ex G H) (hp : H p = some (.tup [.ty "tuple", .ty "list"])) (q : Q (.bl (dSeq d)) H) : rIsiT K [v, .ref p] H Q :=
  q_isi2 h e hp (by simp) (by simp) (by cases d <;> exact q)
theorem q_isiLT {p : Addr} (h : Rp K G v d) (e : Ex G H) (hp : H p = some (.tup [.ty "list", .ty "tuple"])) (q : Q (.bl (dSeq d)) H) : rIsiT K [v, .ref p] H Q :=
  q_isi2 h e hp (by simp) (by simp) (by cases d <;> exact q)
theorem q_iNonInt (q : Q (.bl false) H) : rIsi K [.non, .ty "int"] H Q := q_isiInt (Rp.non (K := K) (G := H)) (Ex.refl H) q
theorem q_iNonBool (q : Q (.bl false) H) : rIsi K [.non, .ty "bool"] H Q := q_isiBool (Rp.non (K := K) (G := H)) (Ex.refl H) q
theorem q_iNonStr (q : Q (.bl false) H) : rIsi K [.non, .ty "str"] H Q := q_isiStr (Rp.non (K := K) (G := H)) (Ex.refl H) q
theorem q_iNonLst (q : Q (.bl false) H) : rIsi K [.non, .ty "list"] H Q := q_isiLst (Rp.non (K := K) (G := H)) (Ex.refl H) q
theorem q_iNonTup (q : Q (.bl false) H) : rIsi K [.non, .ty "tuple"] H Q := q_isiTup (Rp.non (K := K) (G := H)) (Ex.refl H) q
theorem q_iBlInt {b : Bool} (q : Q (.bl true) H) : rIsi K [.bl b, .ty "int"] H Q := q_isiInt (Rp.bl (K := K) (G := H) b) (Ex.refl H) q
theorem q_iBlBool {b : Bool} (q : Q (.bl true) H) : rIsi K [.bl b, .ty "bool"] H Q := q_isiBool (Rp.bl (K := K) (G := H) b) (Ex.refl H) q
theorem q_iBlStr {b : Bool} (q : Q (.bl false) H) : rIsi K [.bl b, .ty "str"] H Q := q_isiStr (Rp.bl (K := K) (G := H) b) (Ex.refl H) q
theorem q_iBlLst {b : Bool} (q : Q (.bl false) H) : rIsi K [.bl b, .ty "list"] H Q := q_isiLst (Rp.bl (K := K) (G := H) b) (Ex.refl H) q
theorem q_iBlTup {b : Bool} (q : Q (.bl false) H) : rIsi K [.bl b, .ty "tuple"] H Q := q_isiTup (Rp.bl (K := K) (G := H) b) (Ex.refl H) q
theorem q_iInInt {i : Int} (q : Q (.bl true) H) : rIsi K [.int i, .ty "int"] H Q := q_isiInt (Rp.int (K := K) (G := H) i) (Ex.refl H) q
theorem q_iInBool {i : Int} (q : Q (.bl false) H) : rIsi K [.int i, .ty "bool"] H Q := q_isiBool (Rp.int (K := K) (G := H) i) (Ex.refl H) q
theorem q_iInStr {i : Int} (q : Q (.bl false) H) : rIsi K [.int i, .ty "str"] H Q := q_isiStr (Rp.int (K := K) (G := H) i) (Ex.refl H) q
theorem q_iInLst {i : Int} (q : Q (.bl false) H) : rIsi K [.int i, .ty "list"] H Q := q_isiLst (Rp.int (K := K) (G := H) i) (Ex.refl H) q
theorem q_iInTup {i : Int} (q : Q (.bl false) H) : rIsi K [.int i, .ty "tuple"] H Q := q_isiTup (Rp.int (K := K) (G := H) i) (Ex.refl H) q
theorem q_iStInt {x : Str} (q : Q (.bl false) H) : rIsi K [.str x, .ty "int"] H Q := q_isiInt (Rp.str (K := K) (G := H) x) (Ex.refl H) q
theorem q_iStBool {x : Str} (q : Q (.bl false) H) : rIsi K [.str x, .ty "bool"] H Q := q_isiBool (Rp.str (K := K) (G := H) x) (Ex.refl H) q
theorem q_iStStr {x : Str} (q : Q (.bl true) H) : rIsi K [.str x, .ty "str"] H Q := q_isiStr (Rp.str (K := K) (G := H) x) (Ex.refl H) q
theorem q_iStLst {x : Str} (q : Q (.bl false) H) : rIsi K [.str x, .ty "list"] H Q := q_isiLst (Rp.str (K := K) (G := H) x) (Ex.refl H) q
theorem q_iStTup {x : Str} (q : Q (.bl false) H) : rIsi K [.str x, .ty "tuple"] H Q := q_isiTup (Rp.str (K := K) (G := H) x) (Ex.refl H) q
theorem line_of {n : Nat} (h : Nat.ble n 100000 = true) : n ≤ sizeLine := Nat.le_trans (Nat.le_of_ble_eq_true h) (by decide)
theorem q_ifTr {b : Bool} {A B : Prop} (h : b = true) (a : A) : if b = true then A else B := by
  rw [if_pos h]
  exact a
theorem q_ifFa {b : Bool} {A B : Prop} (h : b = false) (a : B) : if b = true then A else B := by
  rw [if_neg (by rw [h]; decide)]
  exact a
theorem q_ifdT {p A B : Prop} [Decidable p] (h : p) (a : A) : if decide p = true then A else B := by
  rw [if_pos (decide_eq_true h)]
  exact a
theorem q_ifdF {p A B : Prop} [Decidable p] (h : ¬ p) (b : B) : if decide p = true then A else B := by
  rw [if_neg (by rw [decide_eq_false h]; decide)]
  exact b
theorem q_ifndT {p A B : Prop} [Decidable p] (h : ¬ p) (a : A) : if (!decide p) = true then A else B := by
  rw [if_pos (by rw [decide_eq_false h]; decide)]
  exact a
theorem q_ifndF {p A B : Prop} [Decidable p] (h : p) (b : B) : if (!decide p) = true then A else B := by
  rw [if_neg (by rw [decide_eq_true h]; decide)]
  exact b
end
/-! ### data of less than n levels, none too wide -/
def Sm : Nat → PyData → Prop
  | 0, _ => False
  | n + 1, .list ds => ds.length ≤ 1000000 ∧ ∀ d ∈ ds, Sm n d
  | n + 1, .tuple ds => ds.length ≤ 1000000 ∧ ∀ d ∈ ds, Sm n d
  | _ + 1, .dict _ => False
  | _ + 1, _ => True
/-! ### data read -/
section
variable {K : PySem.W.Frag} {G H : Hp} {Q : VK} {v : V} {d : PyData} {ds : List PyData} {i : Int}
theorem Rps.atI {vs : List V} (h : Rps K G vs ds) (e : atI ds i = some d) : ∃ v, L2.atI vs i = some v ∧ Rp K G v d := by
  unfold L2.atI at e ⊢
  rw [h.len]
  cases q : ixN ds.length i with
  | none =>
    rw [q] at e
    cases e
  | some k =>
    rw [q] at e
    exact h.get e
theorem q_lenRL (h : Rp K G v (.list ds)) (e : Ex G H) (q : Q (.int (ds.length : Nat)) H) : rLenA K [v] H Q := by
  obtain ⟨a, vs, rfl, hS, hv⟩ := rp_lst h
  refine q_lenC (.inl (.inl (e _ _ hS))) ?_
  rw [hv.len]
  exact q
theorem q_lenRT (h : Rp K G v (.tuple ds)) (e : Ex G H) (q : Q (.int (ds.length : Nat)) H) : rLenA K [v] H Q := by
  obtain ⟨a, vs, rfl, hS, hv⟩ := rp_tup h
  refine q_lenT (e.st hS) ?_
  rw [hv.len]
  exact q
theorem q_ixRL (h : Rp K G v (.list ds)) (e : Ex G H) (hd : atI ds i = some d) (q : ∀ u, Rp K G u d → Q u H) : rIx K v (.int i) H Q := by
  obtain ⟨a, vs, rfl, hS, hv⟩ := rp_lst h
  obtain ⟨u, h1, h2⟩ := hv.atI hd
  exact q_ixL (.inl (.inl (e _ _ hS))) h1 (q u h2)
theorem q_ixRT (h : Rp K G v (.tuple ds)) (e : Ex G H) (hd : atI ds i = some d) (q : ∀ u, Rp K G u d → Q u H) : rIx K v (.int i) H Q := by
  obtain ⟨a, vs, rfl, hS, hv⟩ := rp_tup h
  obtain ⟨u, h1, h2⟩ := hv.atI hd
  exact q_ixT (e.st hS) h1 (q u h2)
theorem q_bt {b : Bool} (h : b = true) (q : Q (.bl true) H) : Q (.bl b) H := by
  rw [h]
  exact q
theorem q_bf {b : Bool} (h : b = false) (q : Q (.bl false) H) : Q (.bl b) H := by
  rw [h]
  exact q
theorem atI_at {ds : List PyData} {k : Nat} (h : k < ds.length) : atI ds (k : Int) = some ds[k] := atI_nat (List.getElem?_eq_getElem h)
theorem Ex.sLr {a : Addr} {xs : List V} (e : Ex G H) (h : G a = some (.lst xs)) : SqL K H a xs := .inl (.inl (e _ _ h))
end
/-! ### loops -/
section
variable {K : PySem.W.Frag} {σ : L2.St} {G H : Hp} {Q : VK} {D : Ends} {ta tb tc : TE} {t u : TS} {g : TG}
/-- what a walk over a range asks, its ends known -/
def kRng1 (g : TG) (t : TS) (D : Ends) (σ : L2.St) : List V → Hp → Prop := fun vs H1 => ∃ j : Int, vs = [.int j] ∧ -(2 ^ 62) ≤ j ∧ j < 2 ^ 62 ∧ ∃ W : Nat → Nat → L2.St → Hp → Prop, (∃ m, W 0 m σ H1) ∧ ∀ i m σ H, W i m σ H →
      ((Itr 0 j.toNat).stop i H ∧ D.nx σ H) ∨ ((Itr 0 j.toNat).go i H ∧ ∃ N : L2.St → Hp → Prop, (∀ σ' H', N σ' H' → ∃ m', m' < m ∧ W (i + 1) m' σ' H') ∧ ∀ x H', (Itr 0 j.toNat).yld i H x H' → g x σ H' fun σ2 H2 => t { D with nx := N, ct := N, bk := D.nx } σ2 H2)
theorem q_forR1 {ta : TA} (h : ta σ H (kRng1 g t D σ)) : tFor (iRng1 ta) g t D σ H := h
theorem q_rng1 (n : Nat) (hn : n ≤ 1000000) (Pv : Nat → L2.St → Hp → Prop) (h0 : Pv 0 σ H) (hs : ∀ i σ' H', i < n → Pv i σ' H' → g (.int i) σ' H' fun σ2 H2 => t { D with nx := Pv (i + 1), ct := Pv (i + 1), bk := D.nx } σ2 H2)
    (hd : ∀ σ' H', Pv n σ' H' → D.nx σ' H') : kRng1 g t D σ [.int (n : Nat)] H := by
  refine ⟨n, rfl, by omega, by omega, ?_⟩
  rw [Int.toNat_natCast]
  refine for_range (n := n) Pv h0 (fun i σ' H' hi p => ?_) hd
  rw [Int.zero_add]
  exact hs i σ' H' hi p
/-- .. over a list, a tuple -/
def kLst (K : PySem.W.Frag) (g : TG) (t : TS) (D : Ends) (σ : L2.St) : V → Hp → Prop := fun x H1 => ∃ a, x = .ref a ∧ (∃ xs, SqL K H1 a xs) ∧ ∃ W : Nat → Nat → L2.St → Hp → Prop, (∃ m, W 0 m σ H1) ∧ ∀ i m σ H, W i m σ H →
      ((Itl K a).stop i H ∧ D.nx σ H) ∨ ((Itl K a).go i H ∧ ∃ N : L2.St → Hp → Prop, (∀ σ' H', N σ' H' → ∃ m', m' < m ∧ W (i + 1) m' σ' H') ∧ ∀ x H', (Itl K a).yld i H x H' → g x σ H' fun σ2 H2 => t { D with nx := N, ct := N, bk := D.nx } σ2 H2)
def kTup (K : PySem.W.Frag) (g : TG) (t : TS) (D : Ends) (σ : L2.St) : V → Hp → Prop := fun x H1 => ∃ a, x = .ref a ∧ (∃ xs, SqT K H1 a xs) ∧ ∃ W : Nat → Nat → L2.St → Hp → Prop, (∃ m, W 0 m σ H1) ∧ ∀ i m σ H, W i m σ H →
      ((Itt K a).stop i H ∧ D.nx σ H) ∨ ((Itt K a).go i H ∧ ∃ N : L2.St → Hp → Prop, (∀ σ' H', N σ' H' → ∃ m', m' < m ∧ W (i + 1) m' σ' H') ∧ ∀ x H', (Itt K a).yld i H x H' → g x σ H' fun σ2 H2 => t { D with nx := N, ct := N, bk := D.nx } σ2 H2)
theorem q_forL (h : ta σ H (kLst K g t D σ)) : tFor (iSeqA K ta) g t D σ H := .inl h
theorem q_forT (h : ta σ H (kTup K g t D σ)) : tFor (iSeqA K ta) g t D σ H := .inr (.inl h)
theorem q_lst_for {a : Addr} {xs : List V} (hx : SqL K H a xs) (Pv : Nat → L2.St → Hp → Prop) (h0 : Pv 0 σ H) (hl : ∀ i σ' H', i ≤ xs.length → Pv i σ' H' → SqL K H' a xs)
    (hs : ∀ i x σ' H', xs[i]? = some x → Pv i σ' H' → g x σ' H' fun σ2 H2 => t { D with nx := Pv (i + 1), ct := Pv (i + 1), bk := D.nx } σ2 H2) (hd : ∀ σ' H', Pv xs.length σ' H' → D.nx σ' H') : kLst K g t D σ (.ref a) H :=
  ⟨a, rfl, ⟨xs, hx⟩, for_list Pv h0 hl hs hd⟩
theorem q_tup_for {a : Addr} {xs : List V} (hx : SqT K H a xs) (Pv : Nat → L2.St → Hp → Prop) (h0 : Pv 0 σ H) (hl : ∀ i σ' H', i ≤ xs.length → Pv i σ' H' → SqT K H' a xs)
    (hs : ∀ i x σ' H', xs[i]? = some x → Pv i σ' H' → g x σ' H' fun σ2 H2 => t { D with nx := Pv (i + 1), ct := Pv (i + 1), bk := D.nx } σ2 H2) (hd : ∀ σ' H', Pv xs.length σ' H' → D.nx σ' H') : kTup K g t D σ (.ref a) H :=
  ⟨a, rfl, ⟨xs, hx⟩, for_tup Pv h0 hl hs hd⟩
theorem q_name {k : Nat} {v : V} {R : L2.St → Hp → Prop} (h : R (σ.set k (some v)) H) : gName k v σ H R := h
/-! comprehensions -/
def kcLst (K : PySem.W.Frag) (g : TG) (tt : TT) (te : TE) (vs : List Nat) (σ : L2.St) (Q : VK) : V → Hp → Prop := fun x H1 => ∃ a, x = .ref a ∧ (∃ xs, SqL K H1 a xs) ∧ ∀ D, H1 D = none → ∃ W : Nat → Nat → Hp → Prop, (∃ m, W 0 m (upd H1 D (.lst []))) ∧ ∀ i m H, W i m H →
  ((Itl K a).stop i H ∧ Q (.ref D) H) ∨ ((Itl K a).go i H ∧ ∃ Nx : Hp → Prop, (∀ H', Nx H' → ∃ m', m' < m ∧ W (i + 1) m' H') ∧ ∀ x H', (Itl K a).yld i H x H' → g x (wipe σ vs) H' fun σ2 H2 => wipe σ2 vs = wipe σ vs ∧ tt σ2 H2 fun b H3 =>
    if b = true then te σ2 H3 fun y H4 => ∃ acc, H4 D = some (.lst acc) ∧ acc.length < sizeLine ∧ Nx (upd H4 D (.lst (acc ++ [y]))) else Nx H3)
def kcTup (K : PySem.W.Frag) (g : TG) (tt : TT) (te : TE) (vs : List Nat) (σ : L2.St) (Q : VK) : V → Hp → Prop := fun x H1 => ∃ a, x = .ref a ∧ (∃ xs, SqT K H1 a xs) ∧ ∀ D, H1 D = none → ∃ W : Nat → Nat → Hp → Prop, (∃ m, W 0 m (upd H1 D (.lst []))) ∧ ∀ i m H, W i m H →
  ((Itt K a).stop i H ∧ Q (.ref D) H) ∨ ((Itt K a).go i H ∧ ∃ Nx : Hp → Prop, (∀ H', Nx H' → ∃ m', m' < m ∧ W (i + 1) m' H') ∧ ∀ x H', (Itt K a).yld i H x H' → g x (wipe σ vs) H' fun σ2 H2 => wipe σ2 vs = wipe σ vs ∧ tt σ2 H2 fun b H3 =>
    if b = true then te σ2 H3 fun y H4 => ∃ acc, H4 D = some (.lst acc) ∧ acc.length < sizeLine ∧ Nx (upd H4 D (.lst (acc ++ [y]))) else Nx H3)
def kcRng1 (g : TG) (tt : TT) (te : TE) (vs : List Nat) (σ : L2.St) (Q : VK) : List V → Hp → Prop := fun us H1 => ∃ j : Int, us = [.int j] ∧ -(2 ^ 62) ≤ j ∧ j < 2 ^ 62 ∧ ∀ D, H1 D = none → ∃ W : Nat → Nat → Hp → Prop, (∃ m, W 0 m (upd H1 D (.lst []))) ∧ ∀ i m H, W i m H →
  ((Itr 0 j.toNat).stop i H ∧ Q (.ref D) H) ∨ ((Itr 0 j.toNat).go i H ∧ ∃ Nx : Hp → Prop, (∀ H', Nx H' → ∃ m', m' < m ∧ W (i + 1) m' H') ∧ ∀ x H', (Itr 0 j.toNat).yld i H x H' → g x (wipe σ vs) H' fun σ2 H2 => wipe σ2 vs = wipe σ vs ∧ tt σ2 H2 fun b H3 =>
    if b = true then te σ2 H3 fun y H4 => ∃ acc, H4 D = some (.lst acc) ∧ acc.length < sizeLine ∧ Nx (upd H4 D (.lst (acc ++ [y]))) else Nx H3)
variable {tt : TT} {te : TE} {ws : List Nat}
theorem q_lcL (h : ta σ H (kcLst K g tt te ws σ Q)) : tLc (iSeqA K ta) g tt te ws σ H Q := .inl h
theorem q_lcT (h : ta σ H (kcTup K g tt te ws σ Q)) : tLc (iSeqA K ta) g tt te ws σ H Q := .inr (.inl h)
theorem q_lcR1 {ta : TA} (h : ta σ H (kcRng1 g tt te ws σ Q)) : tLc (iRng1 ta) g tt te ws σ H Q := h
theorem q_lst_lc {a : Addr} {xs : List V} (hx : SqL K H a xs) (h : ∀ D, H D = none → ∃ Pv : Nat → Hp → Prop, Pv 0 (upd H D (.lst [])) ∧ (∀ i H', i ≤ xs.length → Pv i H' → SqL K H' a xs) ∧
    (∀ i x H', xs[i]? = some x → Pv i H' → g x (wipe σ ws) H' fun σ2 H2 => wipe σ2 ws = wipe σ ws ∧ tt σ2 H2 fun b H3 => if b = true then te σ2 H3 fun y H4 => ∃ acc, H4 D = some (.lst acc) ∧ acc.length < sizeLine ∧ Pv (i + 1) (upd H4 D (.lst (acc ++ [y]))) else Pv (i + 1) H3) ∧
    ∀ H', Pv xs.length H' → Q (.ref D) H') : kcLst K g tt te ws σ Q (.ref a) H := ⟨a, rfl, ⟨xs, hx⟩, fun D hD => by
  obtain ⟨Pv, h0, hl, hs, hd⟩ := h D hD
  exact lc_list Pv h0 hl hs hd⟩
theorem q_rng_lc (n : Nat) (hn : n ≤ 1000000) (h : ∀ D, H D = none → ∃ Pv : Nat → Hp → Prop, Pv 0 (upd H D (.lst [])) ∧
    (∀ i H', i < n → Pv i H' → g (.int (i : Nat)) (wipe σ ws) H' fun σ2 H2 => wipe σ2 ws = wipe σ ws ∧ tt σ2 H2 fun b H3 => if b = true then te σ2 H3 fun y H4 => ∃ acc, H4 D = some (.lst acc) ∧ acc.length < sizeLine ∧ Pv (i + 1) (upd H4 D (.lst (acc ++ [y]))) else Pv (i + 1) H3) ∧
    ∀ H', Pv n H' → Q (.ref D) H') : kcRng1 g tt te ws σ Q [.int (n : Nat)] H := ⟨n, rfl, by omega, by omega, fun D hD => by
  obtain ⟨Pv, h0, hs, hd⟩ := h D hD
  rw [Int.toNat_natCast]
  refine lc_range (n := n) Pv h0 (fun i H' hi p => ?_) hd
  rw [Int.zero_add]
  exact hs i H' hi p⟩
end
end Cw

set_option maxHeartbeats 4000000
/-! own exception classes over another own one over Exception, whose __init__ keeps its one argument -/
namespace Cw
open PySem PySem.Spec PyProof.Rows L2
abbrev tailE : List Value := [.type "Exception", .type "BaseException", .type "object"]
def eqW (a b : Option (Option Value)) : Bool := decide (a = b)
theorem bA {a b : Bool} (h : (a && b) = true) : a = true ∧ b = true := Bool.and_eq_true_iff.mp h
/-- what the written part says of such a class at C, its __init__ at fI, its field -/
structure XcC (K : PySem.W.Frag) (C fI : Addr) (fld : Str) : Prop where
  kC : PySem.W.keepIn K (.ref C) = true
  ii : PySem.W.excInitIn K C tailE "Exception.__new__" = true
  ov : PySem.W.excOver K C tailE = true
  hd : PySem.W.hasDictIn K C = true
  sa : PySem.W.findIn K (.ref C) "__setattr__" = some (some (.builtin "object.__setattr__"))
  ga : PySem.W.findIn K (.ref C) "__getattribute__" = some (some (.builtin "BaseException.__getattribute__"))
  gg : PySem.W.findIn K (.ref C) "__getattr__" = some none
  no : PySem.W.findIn K (.ref C) fld = some none
  iC : PySem.W.findIn K (.ref C) "__init__" = some (some (.ref fI))
  tI : PySem.W.typeIn K (.ref fI) = some (.type "function")
  exC : PySem.W.subIn K (.ref C) (.type "BaseException") = some true
  tyC : PySem.W.typeIn K (.ref C) = some (.type "type")
  cA : PySem.W.findIn K (.ref C) "__class__" = some (some (.builtin "object.__class__"))
  sp : PySem.W.specialIn K (.builtin "object.__class__") "__get__" = some (some (.builtin "getset_descriptor.__get__"))
  tk : PySem.W.takesIn K (.builtin "object.__class__") = some true
  mo : PySem.W.mroIn K C (.type "object") = some true
def xcB (K : PySem.W.Frag) (C fI : Addr) (fld : Str) : Bool :=
  PySem.W.keepIn K (.ref C) && (PySem.W.excInitIn K C tailE "Exception.__new__" && (PySem.W.excOver K C tailE && (PySem.W.hasDictIn K C && (eqW (PySem.W.findIn K (.ref C) "__setattr__") (some (some (.builtin "object.__setattr__"))) &&
  (eqW (PySem.W.findIn K (.ref C) "__getattribute__") (some (some (.builtin "BaseException.__getattribute__"))) && (eqW (PySem.W.findIn K (.ref C) "__getattr__") (some none) && (eqW (PySem.W.findIn K (.ref C) fld) (some none) && (eqW (PySem.W.findIn K (.ref C) "__init__") (some (some (.ref fI))) &&
  (decide (PySem.W.typeIn K (.ref fI) = some (.type "function")) && (decide (PySem.W.subIn K (.ref C) (.type "BaseException") = some true) && (decide (PySem.W.typeIn K (.ref C) = some (.type "type")) && (eqW (PySem.W.findIn K (.ref C) "__class__") (some (some (.builtin "object.__class__"))) &&
  (eqW (PySem.W.specialIn K (.builtin "object.__class__") "__get__") (some (some (.builtin "getset_descriptor.__get__"))) && (decide (PySem.W.takesIn K (.builtin "object.__class__") = some true) && decide (PySem.W.mroIn K C (.type "object") = some true)))))))))))))))
theorem xcB_ok {K : PySem.W.Frag} {C fI : Addr} {fld : Str} (h : xcB K C fI fld = true) : XcC K C fI fld := by
  obtain ⟨h1, h⟩ := bA h
  obtain ⟨h2, h⟩ := bA h
  obtain ⟨h3, h⟩ := bA h
  obtain ⟨h4, h⟩ := bA h
  obtain ⟨h5, h⟩ := bA h
  obtain ⟨h6, h⟩ := bA h
  obtain ⟨h7, h⟩ := bA h
  obtain ⟨h8, h⟩ := bA h
  obtain ⟨h9, h⟩ := bA h
  obtain ⟨h10, h⟩ := bA h
  obtain ⟨h11, h⟩ := bA h
  obtain ⟨h12, h⟩ := bA h
  obtain ⟨h13, h⟩ := bA h
  obtain ⟨h14, h⟩ := bA h
  obtain ⟨h15, h16⟩ := bA h
  exact ⟨h1, h2, h3, h4, of_decide_eq_true h5, of_decide_eq_true h6, of_decide_eq_true h7, of_decide_eq_true h8, of_decide_eq_true h9, of_decide_eq_true h10, of_decide_eq_true h11, of_decide_eq_true h12, of_decide_eq_true h13, of_decide_eq_true h14, of_decide_eq_true h15, of_decide_eq_true h16⟩
theorem XcC.xf {K : PySem.W.Frag} {C fI : Addr} {fld : Str} (T : XcC K C fI fld) : XfC K C := ⟨T.ga, T.gg, T.exC, T.hd⟩
theorem XcC.cls {K : PySem.W.Frag} {C fI : Addr} {fld : Str} (T : XcC K C fI fld) : (PySem.W.clsIn K C).isSome = true := by
  obtain ⟨cd, h, _⟩ := PySem.W.any_some T.hd
  rw [h] <;> rfl
/-- the text of such an __init__ -/
structure InitS (st : Stmt) (qual fld : Str) : Prop where
  body : ∃ q1 q2 q3 q4, defBody st = [.Assign [.Attribute (.Name "self" q1) fld q2] (.Name fld q3) q4]
  kind : (defScope st).kind = .function
  co : (defScope st).isCoroutine = false
  gen : (defScope st).isGenerator = false
  ks : ∀ L f cd, (envOfC qual (defScope st) L f cd).kindOf "self" = some .local
  kf : ∀ L f cd, (envOfC qual (defScope st) L f cd).kindOf fld = some .local
  nm : ∀ x v : Value, (([("self", x), (fld, v)] : List (Str × Value)).all fun y => (defScope st).names.lookup y.1 == some .local || (defScope st).names.lookup y.1 == some .cell) = true
  bl : ∀ L f cd (x v : Value), bindL (envOfC qual (defScope st) L f cd).kindOf ([("self", x), (fld, v)] : List (Str × Value)) (fun _ => none) "self" = some x ∧ bindL (envOfC qual (defScope st) L f cd).kindOf ([("self", x), (fld, v)] : List (Str × Value)) (fun _ => none) fld = some v
  bind : ∀ (kV doc pm : Value) (an : Option Addr) (cdv ct : Value) (x v : Value), bindArgs (PySem.W.fnOf "__init__" qual (defArgs st) (defBody st) (defScope st) .none kV doc pm an cdv ct) ⟨[x, v], []⟩ = pure ([("self", x), (fld, v)] : List (Str × Value))
  db : (fld == ("__debug__" : Str)) = false
namespace Xc
open PySem.W PySem.Calls PySem.HandSPX
theorem one_size (v : Value) : [v].length ≤ sizeLine := by
  rw [sizeLine_eq]
  exact (by decide : 1 ≤ 16777216)
theorem ldC {M : Model} {s : Shared} {name : Str} {scope : Scope} {L a : Addr} {cd : Value} {m : Str → Option Value} {x : Str} {pos : Pos} {v : Value} {Q : Value → Shared → Prop} {A : Around} {E : Value → Shared → Prop} (hn : s.heap.Ns L m) (hv : m x = some v) (h : Q v s)
    (hk : scope.kind = .function) (hl : (envOfC name scope L a cd).kindOf x = some .local) (hd : (x == ("__debug__" : Str)) = false) :
    wpAny M A (eval (.Name x pos) (envOfC name scope L a cd)) Q E s := wpAny_Name (wpAny_loadName_local hk hl hn hv h) hd
/-- what a store into a fresh exception at x leaves -/
structure InitEnd (h h' : Heap) (x C dx t1 : Addr) (fld : Str) (v : Value) : Prop where
  keep : ∀ b o, b ≠ x → h.get? b = some o → h'.get? b = some o
  obj : h'.get? x = some { cls := .ref C, dict := some dx, data := .fields #[.ref t1, .none, .none, .none, .bool false, .none] }
  dbig : h.objs.size ≤ dx
  dne : dx ≠ x
  ns : h'.Ns1 dx (fun y => if y = fld then some v else none)
/-- a made one -/
structure OwnMade (h h' : Heap) (e C d : Addr) (fld : Str) (v : Value) : Prop where
  keep : ∀ b o, h.get? b = some o → h'.get? b = some o
  new : h.objs.size ≤ e
  obj : ∃ t1 : Addr, h'.get? e = some { cls := .ref C, dict := some d, data := .fields #[.ref t1, .none, .none, .none, .bool false, .none] }
  dbig : h.objs.size ≤ d
  dne : d ≠ e
  ns : h'.Ns1 d (fun y => if y = fld then some v else none)
section
variable {prog : Program} {w : World} {A : Around} {E : Value → Shared → Prop} {R : Result → Shared → Prop} {hp : Heap} {g : Array GenState} {d : Drawn} {t : Nat} {os : OsState} {K : Frag} {C fI : Addr} {fld qual : Str} {st : Stmt} {fd : FuncData}
open Builtin Builtin.ObjectAttr in
theorem osa {tk : Tok} {v : Value} {x : Addr} {fv : Array Value} (T : XcC K C fI fld) (X : K.In hp) (hx : hp.get? x = some { cls := .ref C, data := .fields fv })
    (hq : ∀ h' tk' dx, (∀ b o, b ≠ x → hp.get? b = some o → h'.get? b = some o) → hp.objs.size ≤ dx → dx ≠ x → h'.get? x = some { cls := .ref C, dict := some dx, data := .fields fv } →
      h'.Ns1 dx (fun y => if y = fld then some v else none) → R (.ok (.ret .none)) ⟨h', g, d, tk', os⟩) :
    codeAny (model prog w) A (.call (.builtin "object.__setattr__") ⟨[.ref x, .str fld tk, v], []⟩) R ⟨hp, g, d, t, os⟩ := by
  have hxs : x ≠ hp.objs.size := Nat.ne_of_lt (Heap.lt_size hx)
  refine osa_openX (s := ⟨hp, g, d, t, os⟩) (od := none) (r := none) PySem.F.store_Exception X ⟨hx, rfl, rfl, trivial⟩ T.ov (by unfold takerIn; rw [T.no] <;> rfl) fun b => ?_
  show wpAny _ _ (storeInOwnDict (.ref x) (.ref C) (.str fld tk) fld v b) _ _ _
  obtain ⟨cd, hc, hd'⟩ := any_some T.hd
  have hcls : W.Looks (model prog w) hp (classData C) cd := W.looks_clsIn X hc
  obtain ⟨nm, bs, mro, ns, qn, hd, sn, sb, ab, col, del⟩ := cd
  dsimp only at hd'
  subst hd'
  unfold storeInOwnDict ownDictForStores
  repeat (first | with_reducible refine store_in_new ?_ ?_ | with_reducible refine wpAny_loadPart_at hx ?_ | with_reducible refine hcls.at ?_ | wp_step)
  · exact ⟨_, #[], _, (Heap.get?_update_ne _ _ _ _ hxs.symm).trans (Heap.get?_push_at rfl rfl), rfl, fun e he => absurd he (by simp), fun _ => rfl⟩
  · intro h' tk' hn' hs
    have hx₁ : (hp.push { cls := .type "dict", data := .dict #[] }).get? x = some { cls := .ref C, data := .fields fv } := Heap.get?_push_of_some _ hx
    refine hq h' tk' hp.objs.size (fun b o hb ho => ?_) (Nat.le_refl _) hxs.symm ?_ hn'
    · exact (hs.2 b (Nat.ne_of_lt (Heap.lt_size ho))).trans ((Heap.get?_update_ne _ _ _ _ hb).trans (Heap.get?_push_of_some _ ho))
    · exact (hs.2 x hxs).trans (Heap.get?_update_self _ hx₁ rfl)
theorem init {s : Shared} (T : XcC K C fI fld) (S : InitS st qual fld) (F : FunD K "__init__" qual (defArgs st) (defBody st) (defScope st) [] [] fI fd) {x t0 : Addr} {v : Value} (X : K.In s.heap) (hlim : s.heap.NoLimit) (hx : s.heap.get? x = some (excO C t0)) (hroom : A.depth < recursionLimit)
    (hq : ∀ h' tk dx, InitEnd s.heap h' x C dx t0 fld v → R (.ok (.ret .none)) { s with heap := h', toks := tk }) :
    codeAny (model prog w) A (.call (.ref fI) ⟨[.ref x, v], []⟩) R s := by
  obtain ⟨oc, od, dV, kV, doc, pm, an, cdv, ct, osl, rfl, ho, hcd, hdd, _⟩ := F.ex
  rcases hdd with ⟨_, rfl⟩ | ⟨z, _⟩
  case inr => exact absurd rfl z
  refine Att.call_fn (binds := [("self", .ref x), (fld, v)]) X hlim ho hcd hroom (BindsTo.of_eq (S.bind _ _ _ _ _ _ _ _)) (S.nm _ _) (fun s₁ IC => ?_) S.co S.gen S.kind
  obtain ⟨h₁, tk₁, rfl⟩ := IC.toInCall.same
  have k : ∀ b o, s.heap.get? b = some o → h₁.get? b = some o := IC.toInCall.keep
  have hn := IC.toInCall.ns
  have hxL : s.heap.objs.size ≠ x := Nat.ne_of_gt (Heap.lt_size hx)
  have X₁ : K.In h₁ := X.keeps k
  have hx₁ := k _ _ hx
  obtain ⟨q1, q2, q3, q4, eb⟩ := S.body
  rw [eb]
  obtain ⟨b1, b2⟩ := S.bl s.heap.objs.size fI cdv (.ref x) v
  refine wpAny_execs_cons (plainObj_wpAny_Assign_Attribute ?_)
  refine ldC (v := v) hn b2 (ldC (v := .ref x) hn b1 ?_ S.kind (S.ks _ _ _) (by decide)) S.kind (S.kf _ _ _) S.db
  refine set_plain X₁ (ox := excO C t0) (od := none) ⟨hx₁, rfl, rfl, trivial⟩ T.sa ?_
  refine osa T X₁ hx₁ (fun h₃ tk₃ dx k₃ dn dne hx₃ hn₃ => ?_)
  have z : s.heap.objs.size < h₁.objs.size := hn.lt
  exact wpAny_execs_nil (hq h₃ tk₃ dx ⟨fun b o hb e => k₃ b o hb (k b o e), hx₃, Nat.le_of_lt (Nat.lt_of_lt_of_le z dn), dne, hn₃⟩)
theorem made {s : Shared} (T : XcC K C fI fld) (S : InitS st qual fld) (F : FunD K "__init__" qual (defArgs st) (defBody st) (defScope st) [] [] fI fd) {v : Value} (X : K.In s.heap) (hlim : s.heap.NoLimit) (hroom : A.depth + 1 < recursionLimit)
    (hq : ∀ h' tk e d, OwnMade s.heap h' e C d fld v → R (.ok (.ret (.ref e))) { s with heap := h', toks := tk }) :
    codeAny (model prog w) A (.call (.ref C) ⟨[v], []⟩) R s := by
  obtain ⟨nm, N', qn, bs, bm, hdct, sn, sub, ab, col, dd, k0, k1, k2, k3, k5, hC, hT⟩ := excInit_of X T.ii
  obtain ⟨hp, g, dr, tk, os⟩ := s
  have k : ∀ b o, hp.get? b = some o → ((hp.push (kdv_tup [v])).push (excO C hp.objs.size)).get? b = some o := fun b o e => Heap.get?_push_of_some _ (Heap.get?_push_of_some _ e)
  have hget : ((hp.push (kdv_tup [v])).push (excO C hp.objs.size)).get? (hp.objs.size + 1) = some (excO C hp.objs.size) := by heap_get
  refine HandSPX.call_own PySem.F.excBase_Exception hT hC (looks_findIn X T.iC) (fun self => bind_fn X self T.tI) (one_size v) ?_
  refine init (s := ⟨(hp.push (kdv_tup [v])).push (excO C hp.objs.size), g, dr, tk, os⟩) T S F (X.keeps k) (hlim.keeps k) hget ?_ fun h' tk' dx ⟨k', hx, dn, dne, hns⟩ => ?_
  · show A.depth + 1 < recursionLimit
    exact hroom
  · have old : ∀ b o, hp.get? b = some o → h'.get? b = some o := fun b o e => k' b o (Nat.ne_of_lt (Nat.lt_succ_of_lt (Heap.lt_size e))) (k b o e)
    have z : hp.objs.size + 1 + 1 ≤ dx := by
      first
        | (simpa only [Heap.size_push] using dn)
        | exact dn
        | (have q := dn; rw [Heap.size_push, Heap.size_push] at q; exact q)
    exact ⟨rfl, hq h' tk' (hp.objs.size + 1) dx ⟨old, Nat.le_succ _, ⟨_, hx⟩, Nat.le_trans (Nat.le_trans (Nat.le_succ _) (Nat.le_succ _)) z, dne, hns⟩⟩
end
end Xc
theorem relO_one {v : V} {v' : Value} {fld : Str} (r : RelV v v') (f : Str) : RelO (List.lookup f [(fld, v)]) (if f = fld then some v' else none) := by
  by_cases hw : f = fld
  · subst hw
    rw [if_pos rfl]
    have q : List.lookup f [(f, v)] = some v := by simp [List.lookup]
    rw [q]
    exact r
  · rw [if_neg hw]
    have qw : (f == fld) = false := by simpa using hw
    have q2 : List.lookup f [(fld, v)] = none := by simp [List.lookup, qw]
    rw [q2]
    trivial
/-! ### one more name for a class: how it stands in the module -/
/-- a class by its name, with its __init__ -/
def Xn (K : PySem.W.Frag) (mg : Str → Option Value) (x fld : Str) (C : Addr) : Prop :=
  mg x = some (.ref C) ∧ ∃ (fI : Addr) (st : Stmt) (qual : Str) (fd : FuncData), XcC K C fI fld ∧ InitS st qual fld ∧ FunD K "__init__" qual (defArgs st) (defBody st) (defScope st) [] [] fI fd
/-- an exception object of the class at C, with its dict at d, not raised -/
def ExH (C d a : Addr) : HO := .ext fun h => ∃ t1 : Addr, h.get? a = some { cls := .ref C, dict := some d, data := .fields #[.ref t1, .none, .none, .none, .bool false, .none] }
section
variable {X : Cx} {C : Addr} {x fld : Str}
/-- C(e), about to be raised -/
def tMkX (C : Addr) (fld : Str) (ta : TA) : L2.St → Hp → XK → Prop := fun σ H Q => ta σ H fun vs H1 => ∃ v, vs = [v] ∧ ∀ d, H1 d = none → Q (.ref C) (some d) (upd H1 d (.xd [(fld, v)]))
theorem pmk_x {a : Expr} {ta : TA} {p pos : Pos} {k : Nat} (T : Xn X.K X.mg x fld C) (hr : Room k X.A) (ha : PA X [a] ta) (hg : Gl X x) (hdb : (x == ("__debug__" : Str)) = false := by decide)
    (he : starEach (a :: []) X.env = (false, eval a X.env) :: starEach [] X.env := by rfl) (hpl : (backTo pos (starEach [] X.env)).any (·.1) = false := by rfl) :
    PMk X (.Call (.Name x p) [a] [] pos) (tMkX C fld ta) := by
  obtain ⟨gC, fI, st, qual, fd, T, S, F⟩ := T
  intro pins s σ H Q I h
  refine wpAny_Call_Name_kw (ld_glob I hg gC ?_ hdb)
  refine PySem.W.callWith_K (h₀ := X.base) I.ok.mod.kin T.kC (thn (ha.run pos pins s σ H _ I h) fun us s1 hh => ?_) he hpl
  obtain ⟨vs, H1, I1, r1, v, ev, q1⟩ := hh
  subst ev
  refine ⟨I1.kIn, ?_⟩
  cases r1 with
  | cons rv rn =>
    rename_i v' us'
    cases rn
    show wpAny _ _ (call (.ref C) [v']) _ _ _
    have hlim := I1.nolimit
    obtain ⟨hp, g, dr, tk, os⟩ := s1
    refine wpAny_call (Xc.made T S F I1.kIn hlim (by have := hr.dp; omega) fun h' tk' e d M => ?_)
    show MkP X pins σ Q (.ref e) ⟨h', g, dr, tk', os⟩
    obtain ⟨t1, hoe⟩ := M.obj
    have hns := M.ns
    obtain ⟨G', g1, g2⟩ := restrict h' fun b => decide (b ≠ e)
    have gk : ∀ b, b ≠ e → G'.get? b = h'.get? b := fun b hb => g1 b (decide_eq_true hb)
    have ge : G'.get? e = none := g2 e (by simp)
    have old : ∀ b o, hp.get? b = some o → G'.get? b = some o := fun b o q => (gk b (Nat.ne_of_lt (Nat.lt_of_lt_of_le (Heap.lt_size q) M.new))).trans (M.keep b o q)
    have ob : ObjOk X.prog X.w (upd H1 d (.xd [(fld, v)])) G' d (.xd [(fld, v)]) :=
      ⟨_, hns.at (fun o q => (gk d M.dne).trans q), fun f => relO_one rv f⟩
    have J : Inv X pins σ (upd H1 d (.xd [(fld, v)])) ⟨G', g, dr, tk', os⟩ := I1.laid (t' := tk') old M.dbig ob
    refine ⟨e, _, _, ⟨G', g, dr, tk', os⟩, _, .ref C, some d, rfl, J, fun b o q => ?_, ge, hoe, ⟨rfl, rfl⟩, rfl, rfl, ?_, rfl, I1.bare, raises_own T.exC T.tyC, q1 d (I1.hok.fresh M.dbig)⟩
    · by_cases hb : b = e
      · have q' : G'.get? b = some o := q
        rw [hb, ge] at q'; cases q'
      · exact (gk b hb).symm.trans q
    · rw [upd_ne (Ne.symm M.dne)]
      exact I1.hok.fresh M.new
/-- raise C(e) -/
def tRaiseX (C : Addr) (fld : Str) (W : WX) (ta : TA) : TS := fun _ σ H => tMkX C fld ta σ H fun cls d H' => W cls d σ H'
theorem ps_raiseX {a : Expr} {ta : TA} {W : WX} {p pos pos2 : Pos} {k : Nat} (hc : X.calm = true) (T : Xn X.K X.mg x fld C) (hr : Room k X.A) (tk : Takes X W) (ha : PA X [a] ta) (hg : Gl X x) (hdb : (x == ("__debug__" : Str)) = false := by decide)
    (he : starEach (a :: []) X.env = (false, eval a X.env) :: starEach [] X.env := by rfl) (hpl : (backTo pos (starEach [] X.env)).any (·.1) = false := by rfl) :
    PS X (.Raise (some (.Call (.Name x p) [a] [] pos)) none pos2) (tRaiseX C fld W ta) := ps_raise hc tk (pmk_x T hr ha hg hdb he hpl)
/-- C(e), a value -/
def tNewX (C : Addr) (fld : Str) (ta : TA) : TE := fun σ H Q => ta σ H fun vs H1 => ∃ v, vs = [v] ∧ ∀ d e, H1 d = none → H1 e = none → e ≠ d → Q (.ref e) (upd (upd H1 d (.xd [(fld, v)])) e (ExH C d e))
theorem pe_newX {a : Expr} {ta : TA} {p pos : Pos} {k : Nat} (T : Xn X.K X.mg x fld C) (hr : Room k X.A) (ha : PA X [a] ta) (hg : Gl X x) (hdb : (x == ("__debug__" : Str)) = false := by decide)
    (he : starEach (a :: []) X.env = (false, eval a X.env) :: starEach [] X.env := by rfl) (hpl : (backTo pos (starEach [] X.env)).any (·.1) = false := by rfl) :
    PE X (.Call (.Name x p) [a] [] pos) (tNewX C fld ta) := by
  obtain ⟨gC, fI, st, qual, fd, T, S, F⟩ := T
  refine ⟨fun pins s σ H Q I h => ?_⟩
  refine wpAny_Call_Name_kw (ld_glob I hg gC ?_ hdb)
  refine PySem.W.callWith_K (h₀ := X.base) I.ok.mod.kin T.kC (thn (ha.run pos pins s σ H _ I h) fun us s1 hh => ?_) he hpl
  obtain ⟨vs, H1, I1, r1, v, ev, q1⟩ := hh
  subst ev
  refine ⟨I1.kIn, ?_⟩
  cases r1 with
  | cons rv rn =>
    rename_i v' us'
    cases rn
    show wpAny _ _ (call (.ref C) [v']) _ _ _
    have hlim := I1.nolimit
    obtain ⟨hp, g, dr, tk, os⟩ := s1
    refine wpAny_call (Xc.made T S F I1.kIn hlim (by have := hr.dp; omega) fun h' tk' e d M => ?_)
    obtain ⟨t1, hoe⟩ := M.obj
    have hns := M.ns
    obtain ⟨G', g1, g2⟩ := restrict h' fun b => decide (b ≠ e)
    have gk : ∀ b, b ≠ e → G'.get? b = h'.get? b := fun b hb => g1 b (decide_eq_true hb)
    have ge : G'.get? e = none := g2 e (by simp)
    have old : ∀ b o, hp.get? b = some o → G'.get? b = some o := fun b o q => (gk b (Nat.ne_of_lt (Nat.lt_of_lt_of_le (Heap.lt_size q) M.new))).trans (M.keep b o q)
    have ob : ObjOk X.prog X.w (upd H1 d (.xd [(fld, v)])) G' d (.xd [(fld, v)]) :=
      ⟨_, hns.at (fun o q => (gk d M.dne).trans q), fun f => relO_one rv f⟩
    have J : Inv X pins σ (upd H1 d (.xd [(fld, v)])) ⟨G', g, dr, tk', os⟩ := I1.laid (t' := tk') old M.dbig ob
    have hne : e ≠ d := Ne.symm M.dne
    have h1e : H1 e = none := I1.hok.fresh M.new
    have ke : ∀ b o, G'.get? b = some o → h'.get? b = some o := fun b o q => by
      by_cases hb : b = e
      · rw [hb, ge] at q
        cases q
      · exact (gk b hb).symm.trans q
    exact ⟨.ref e, _, J.laidN (h' := h') (a := e) (o := ExH C d e) (t' := tk') ke ge (by rw [upd_ne hne]; exact h1e) ⟨⟨t1, hoe⟩, ⟨_, hoe⟩, fun h1 h2 ⟨t, q⟩ kk => ⟨t, kk _ q⟩⟩, rfl, q1 d e (I1.hok.fresh M.dbig) h1e hne⟩
/-- e.f of one not raised -/
def rXat (K : PySem.W.Frag) (f : Str) : V → Hp → VK → Prop := fun x H1 Q => ∃ a C d fs v, x = .ref a ∧ H1 a = some (ExH C d a) ∧ XfC K C ∧ PySem.W.findIn K (.ref C) f = some none ∧ H1 d = some (.xd fs) ∧ fs.lookup f = some v ∧ Q v H1
def tXat (K : PySem.W.Frag) (f : Str) (te : TE) : TE := fun σ H Q => te σ H fun x H1 => rXat K f x H1 Q
theorem pe_xat {e : Expr} {te : TE} {pos : Pos} {n : Str} (he : PE X e te) (hb : attributeBase e n X.env (eval e X.env) = eval e X.env := by rfl) : PE X (.Attribute e n pos) (tXat X.K n te) := by
  refine ⟨fun pins s σ H Q I h => ?_⟩
  refine attr_of hb (thn (he.run pins s σ H _ I h) fun u s1 hh => ?_)
  obtain ⟨x, H1, I1, rx, a, C, d, fs, v, rfl, ea, T, hno, ed, l, q⟩ := hh
  obtain rfl : u = Value.ref a := rx
  obtain ⟨⟨t1, ha⟩, _, _⟩ := (show ObjOk X.prog X.w H1 s1.heap a (ExH C d a) from I1.hok a _ ea)
  have hx : ObjOk X.prog X.w H1 s1.heap d (.xd fs) := I1.hok d _ ed
  obtain ⟨mA, hns, hr⟩ := hx
  obtain ⟨od, ho, hl⟩ := lookIn_ns hns
  obtain ⟨u, hu, ru⟩ := RelO.some_of (v := v) (o := mA n) (by rw [← l]; exact hr n)
  have J : PySem.W.InstAt s1.heap a _ C (some od) := ⟨ha, rfl, rfl, ho⟩
  exact HandSPX.exc_get I1.kIn J T.ga T.gg T.exC (PySem.W.findObj_own T.hdC hno rfl (by rw [hl, hu])) (handed_of ru) ⟨v, H1, I1.tok _, ru, q⟩
/-- isinstance(e, c) of one not raised -/
def rIsX (K : PySem.W.Frag) : List V → Hp → VK → Prop := fun xs H Q => ∃ (a C d fI : Addr) (fld : Str) (fs : List (Str × V)) (c : V) (u : Value) (b : Bool), xs = [.ref a, c] ∧ H a = some (ExH C d a) ∧ H d = some (.xd fs) ∧ XcC K C fI fld ∧ ClsV c u ∧ PySem.W.kitOne K (.ref C) u = some b ∧ Q (.bl b) H
theorem call_isX : CallR X (.builtin "isinstance") (rIsX X.K) := by
  intro pins s σ H xs us Q I r h
  obtain ⟨a, C, d, fI, fld, fs, c, u, b, rfl, ea, ed, T, k, e, q⟩ := h
  obtain ⟨u1, u2, rfl, r1, r2⟩ := vals2 r
  cases (show u1 = Value.ref a from r1)
  have e2 := k.eq r2
  subst e2
  obtain ⟨⟨t1, ha⟩, _, _⟩ := (show ObjOk X.prog X.w H s.heap a (ExH C d a) from I.hok a _ ea)
  obtain ⟨mA, hns, hr⟩ := (show ObjOk X.prog X.w H s.heap d (.xd fs) from I.hok d _ ed)
  obtain ⟨od, ho, hl⟩ := lookIn_ns hns
  have J : PySem.W.InstAt s.heap a _ C (some od) := ⟨ha, rfl, rfl, ho⟩
  exact PySem.W.kia_one (PySem.W.kitx_exc (gt := none) T.cls T.ga T.gg T.exC T.cA T.sp T.tk T.mo) I.kIn J e (fun z => nomatch z) fun tk => ⟨.bl b, H, I.tok tk, rfl, q⟩
end
end Cw

set_option maxHeartbeats 4000000
/-! try with many clauses, some of which name what they caught -/
namespace Cw
open PySem PySem.Spec PyProof.Rows L2
abbrev Suite := Addr → Value → Option Addr → TS
/-- a suite that names what was caught in slot i -/
def asS (i : Nat) (ts : Suite) : Suite := fun a cls d D σ H => ts a cls d { nx := fun z G => D.nx (z.set i none) G, rt := D.rt, bk := fun z G => D.bk (z.set i none) G, ct := fun z G => D.ct (z.set i none) G } (σ.set i (some (.ref a))) H
/-- the rule of a suite: whatever object stands behind a -/
def SuOk (X : Cx) (suite : List Stmt) (ts : Suite) : Prop := ∀ (a : Addr) (oe : Obj) (cls : Value) (d : Option Addr) (pn : List (Addr × Obj)), Zc cls d oe → (∃ vs, oe.data = .fields vs) → PSs (X.suite a ((a, oe) :: pn)) suite (ts a cls d)
inductive HdsA (X : Cx) : List ExceptHandler → List (Value × Suite) → Prop
  | nil : HdsA X [] []
  | bare {x : Str} {c : Value} {ts : Suite} {b : Stmt} {suite : List Stmt} {p q : Pos} {hds : List ExceptHandler} {l : List (Value × Suite)} (hc : Names X x c) (su : SuOk X (b :: suite) ts) (r : HdsA X hds l) :
      HdsA X (.ExceptHandler (some (.Name x p)) none (b :: suite) q :: hds) ((c, ts) :: l)
  | as_ {x n : Str} {i : Nat} {c : Value} {ts : Suite} {b : Stmt} {suite : List Stmt} {p q : Pos} {hds : List ExceptHandler} {l : List (Value × Suite)} (hc : Names X x c) (hN : X.N.Nodup) (hi : X.N[i]? = some n) (hl : X.env.kindOf n = some .local) (su : SuOk X (b :: suite) ts) (r : HdsA X hds l) :
      HdsA X (.ExceptHandler (some (.Name x p)) (some n) (b :: suite) q :: hds) ((c, asS i ts) :: l)
section
variable {X : Cx} {pins : List (Addr × Obj)} {D : Ends} {Wout : WX} {a B : Addr}
/-- what stands when an exception has landed: the exception's object at a, the state without it -/
structure Landed (X : Cx) (pins : List (Addr × Obj)) (G : Heap) (a : Addr) (cls : Value) (d : Option Addr) (σ : L2.St) (H : Hp) (sI s' : Shared) (h : Heap) : Prop where
  inv : Inv X pins σ H sI
  nb : ∀ b o, sI.heap.get? b = some o → b ∉ frs X.stack → G.get? b = some o
  up : sI.heap.UpToSlots h
  fl : HandSPX.FlyingZ G (X.env :: X.outer) a (Zc cls d) h
  na : H a = none
  os : s'.os = sI.os
  ag : AllBare s'.gens
section
variable {G h : Heap} {cls : Value} {d : Option Addr} {σ : L2.St} {H : Hp} {sI s' : Shared}
theorem Landed.J (L : Landed X pins G a cls d σ H sI s' h) : Inv X pins σ H { s' with heap := h } := L.inv.landed L.nb L.fl.1 L.up L.os L.ag
theorem Landed.suite (L : Landed X pins G a cls d σ H sI s' h) (hf : X.env.frame = some X.env.locals) : ∃ oe vs, h.get? a = some oe ∧ Zc cls d oe ∧ oe.data = .fields vs ∧ Inv (X.suite a ((a, oe) :: (X.pn ++ pins))) [] σ H { s' with heap := h } := by
  obtain ⟨oe, vs, e, z, dt⟩ := L.fl.there
  have out : a ∉ frs (X.env :: X.outer) := fun m => by
    obtain ⟨_, o, q, nf⟩ := L.fl.2.2.1.mem m
    cases e.symm.trans q
    exact nf _ dt
  refine ⟨oe, vs, e, z, dt, L.J.suite e dt L.na (fun y => out (List.mem_filterMap.mpr ⟨X.env, List.mem_cons_self, by rw [hf, y]⟩)) fun m => ?_⟩
  obtain ⟨v, hv, q⟩ := List.mem_filterMap.mp m
  exact out (List.mem_filterMap.mpr ⟨v, List.mem_cons_of_mem _ hv, q⟩)
/-- the flight is set to none once more -/
theorem Landed.again {M : Model} {A : Around} {E : Value → Shared → Prop} {Q : Unit → Shared → Prop} (L : Landed X pins G a cls d σ H sI s' h) (k : ∀ h2, Landed X pins G a cls d σ H sI s' h2 → Q () { s' with heap := h2 }) :
    wpAny M A (setFlight (.ref a) none) Q E { s' with heap := h } := HandSPX.lands_againZ L.fl fun h2 f u => k h2 ⟨L.inv, L.nb, L.up.trans u, f, L.na, L.os, L.ag⟩
/-- no clause is left: it flies on -/
theorem Landed.on (L : Landed X pins G a cls d σ H sI s' h) (hs : X.stack = X.env :: X.outer) (hf : X.env.frame = some X.env.locals) (tk : Takes X Wout) (w : Wout cls d σ H) :
    wpAny (model X.prog X.w) X.A (handleBy (.ref a) X.env []) (SP X pins D) X.xe { s' with heap := h } := by
  refine wpAny_handleBy_nil ?_
  obtain ⟨_, _, _, oe, vs, T, _, _, he, _, hd, h1, _⟩ := id L.fl
  have fin : wpAny (model X.prog X.w) X.A (setFlight (.ref a) X.env.frame) (fun _ z => wpAny (model X.prog X.w) X.A (throw (.ref a) : Sem Flow) (SP X pins D) X.xe z) X.xe { s' with heap := h } := by
    rw [hf]
    refine HandSPX.setFlight_upZ L.fl fun h2 hh u => wpAny_throw (tk _ _ ⟨a, G, sI, pins, σ, H, cls, d, rfl, L.inv, L.nb, L.up.trans u, .inr (.inr ?_), L.na, L.os, L.ag, w⟩)
    rw [hs]
    exact hh
  unfold PySem.passOn
  refine wpAny_bind (wpAny_field he hd h1 ?_)
  rw [if_neg (by simp)]
  first
    | exact wpAny_bind (wpAny_pure (wpAny_bind fin))
    | exact wpAny_bind fin
/-- a clause's class is read and held against the exception's -/
theorem Landed.test {x : Str} {c : Value} {p : Pos} {b : Bool} {R : Bool → Shared → Prop} {E : Value → Shared → Prop} (L : Landed X pins G a cls d σ H sI s' h) (hf : X.env.frame = some X.env.locals) (hc : Names X x c) (hb : PySem.W.exmOne X.K cls c = some b) (q : R b { s' with heap := h }) :
    wpAny (model X.prog X.w) (X.A.mark (some (.ref a))) (eval (.Name x p) X.env) (fun u z => wpAny (model X.prog X.w) (X.A.mark (some (.ref a))) (excMatches (.ref a) u) R E z) E { s' with heap := h } := by
  obtain ⟨oe, vs, e, z, dt, S⟩ := L.suite hf
  have m : wpAny (model X.prog X.w) (X.A.mark (some (.ref a))) (excMatches (.ref a) c) R E { s' with heap := h } :=
    (PySem.W.exm_one (M := model X.prog X.w) L.J.kIn (fun A Q E s k q => wpAny_typeOf_ref (k _ _ e) (by rw [z.1]; exact q)) hb).here q
  obtain ⟨hg, hdb, hm | ⟨hm, hv, hn⟩⟩ := hc
  · exact ld_glob (X := X.suite a ((a, oe) :: (X.pn ++ pins))) S hg hm m hdb
  · exact ld_blt (X := X.suite a ((a, oe) :: (X.pn ++ pins))) S hg hm hv m hn hdb
/-- the clauses, one behind another -/
theorem Landed.run {hds : List ExceptHandler} {l : List (Value × Suite)} (hh : HdsA X hds l) (L : Landed X pins G a cls d σ H sI s' h) (hs : X.stack = X.env :: X.outer) (hf : X.env.frame = some X.env.locals) (tk : Takes X Wout) (w : wMany X.K Wout D l cls d σ H) :
    wpAny (model X.prog X.w) X.A (handleBy (.ref a) X.env hds) (SP X pins D) X.xe { s' with heap := h } := by
  induction hh with
  | nil => exact L.on hs hf tk w
  | bare hc su r ih =>
    obtain ⟨b, hb, yes, no⟩ := w
    refine wpAny_handleBy_cons (codeAny_handlers_test ?_) (by nofun)
    refine L.test hf hc hb ?_
    cases b with
    | false => exact ih (no rfl)
    | true =>
      refine codeAny_handlers_suite (L.again fun h2 L2 => ?_)
      obtain ⟨oe, vs, e, z, dt, S⟩ := L2.suite hf
      refine wpAny_mono ((su a oe cls d (X.pn ++ pins) z ⟨_, dt⟩).run [] _ _ H _ S (yes rfl a L.na)) (fun f s6 hq => ?_) (fun _ _ z => False.elim z)
      cases f with
      | ret u =>
        obtain ⟨v, σ6, H6, S6, r6, q6⟩ := hq
        exact ⟨v, σ6, H6, S6.unsuite L.inv.ok, r6, q6⟩
      | next | brk | cont =>
        obtain ⟨σ6, H6, S6, q6⟩ := hq
        exact ⟨σ6, H6, S6.unsuite L.inv.ok, q6⟩
  | @as_ x n i c ts b₀ suite p q hds l hc hN hi hl su r ih =>
    obtain ⟨b, hb, yes, no⟩ := w
    refine wpAny_handleBy_cons (codeAny_handlers_test ?_) (by nofun)
    refine L.test hf hc hb ?_
    cases b with
    | false => exact ih (no rfl)
    | true =>
      refine codeAny_handlers_suite_as (L.again fun h2 L2 => ?_)
      obtain ⟨oe, vs, e, z, dt, S⟩ := L2.suite hf
      refine store_ok (X := X.suite a ((a, oe) :: (X.pn ++ pins))) (v := .ref a) S hN hi (.inl hl) rfl (fun s5 S5 => ?_) (.inr hl)
      refine wpAny_mono ((su a oe cls d (X.pn ++ pins) z ⟨_, dt⟩).run [] s5 _ H _ S5 (yes rfl a L.na)) (fun f s6 hq => ?_) (fun _ _ z => False.elim z)
      cases f with
      | ret u =>
        obtain ⟨v, σ6, H6, S6, r6, q6⟩ := hq
        exact gone_ok (S6.unsuite L.inv.ok) hN hi hl fun s7 J7 => ⟨v, _, H6, J7, r6, q6⟩
      | next | brk | cont =>
        obtain ⟨σ6, H6, S6, q6⟩ := hq
        exact gone_ok (S6.unsuite L.inv.ok) hN hi hl fun s7 J7 => ⟨_, H6, J7, q6⟩
end
theorem ps_tryA {body : List Stmt} {h₀ : ExceptHandler} {hds : List ExceptHandler} {l : List (Value × Suite)} {pos : Pos} {tb : WX → TS} (hs : X.stack = X.env :: X.outer) (hf : X.env.frame = some X.env.locals) (tk : Takes X Wout)
    (hb : ∀ (W : WX) (pn : List (Addr × Obj)) (xe : Value → Shared → Prop), Takes (X.tr pn xe) W → PassesOwn (model X.prog X.w) X.A X.env xe → PSs (X.tr pn xe) body (tb W)) (hh : HdsA X (h₀ :: hds) l) :
    PS X (.Try body (h₀ :: hds) [] [] pos) (fun D σ H => tb (wMany X.K Wout D l) D σ H) := by
  refine ⟨fun pins s σ H D I h => ?_⟩
  have ok := I.ok
  refine wpAny_Try_except (wpAny_mono ((hb (wMany X.K Wout D l) (X.pn ++ pins) (fun e s₁ => wpAny (model X.prog X.w) X.A (noteFrame e X.env) (fun _ s₂ => wpAny (model X.prog X.w) X.A (setFlight e none) (fun _ s₃ =>
    wpAny (model X.prog X.w) X.A (handleBy e X.env (h₀ :: hds)) (SP X pins D) X.xe s₃) X.xe s₂) X.xe s₁) (fun u s' xx => ?_) PassesOwn.looking).run [] s σ H D (I.toTry _) h) (fun f s1 hq => ?_) (fun e s1 he => he))
  · obtain ⟨a, G, sI, pins', σ', H', cls, d, rfl, J', nb, up, sky, na, os, ag, w⟩ := xx
    have sky' : Sky G (X.env :: X.outer) a (Zc cls d) X.env.locals s'.heap := by
      rw [← hs]
      exact sky
    exact Sky.land Zc.steady (by rw [ok.frames, hs]) hf sky' fun h3 fl3 up3 => Landed.run hh ⟨J'.ofTry ok, nb, up.trans up3, fl3, na, os, ag⟩ hs hf tk w
  · cases f with
    | next =>
      obtain ⟨σ', H', J', q⟩ := hq
      exact wpAny_execs_nil ⟨σ', H', J'.ofTry ok, q⟩
    | ret u =>
      obtain ⟨v, σ', H', J', r, q⟩ := hq
      exact ⟨v, σ', H', J'.ofTry ok, r, q⟩
    | brk | cont =>
      obtain ⟨σ', H', J', q⟩ := hq
      exact ⟨σ', H', J'.ofTry ok, q⟩
end
end Cw

set_option maxHeartbeats 4000000
namespace Cw
open PySem PySem.Spec PyProof.Rows L2
/-- all but the object at b stands -/
def Mut (b : Addr) (H H' : Hp) : Prop := ∀ a o, a ≠ b → H a = some o → H' a = some o
theorem Mut.refl (b : Addr) (H : Hp) : Mut b H H := fun _ _ _ h => h
theorem Mut.trans {b : Addr} {H H1 H2 : Hp} (x : Mut b H H1) (y : Mut b H1 H2) : Mut b H H2 := fun a o z h => y a o z (x a o z h)
theorem Mut.of {b : Addr} {H H1 : Hp} (x : Ex H H1) : Mut b H H1 := fun a o _ h => x a o h
theorem Mut.upd {b : Addr} {H H1 : Hp} {o : HO} (x : Mut b H H1) : Mut b H (L2.upd H1 b o) := fun a u z h => by
  rw [upd_ne z]
  exact x a u z h
theorem Mut.new {b p : Addr} {H H1 : Hp} {o : HO} (x : Mut b H H1) (h : H1 p = none) : Mut b H (L2.upd H1 p o) := x.trans (Mut.of (Ex.new h))
theorem Mut.acc {b D : Addr} {H H1 : Hp} {o : HO} (x : Mut b H H1) (h : H D = none) : Mut b H (L2.upd H1 D o) := fun a u z q => by
  rw [upd_ne (ne_of_none q h)]
  exact x a u z q
theorem Ex.mu {b : Addr} {G H H1 : Hp} (e : Ex G H) (g : G b = none) (m : Mut b H H1) : Ex G H1 := fun a o h => m a o (fun z => by
  subst z
  rw [g] at h
  cases h) (e a o h)
section
variable {K : PySem.W.Frag} {σ : L2.St} {G H : Hp} {Q : VK} {ta tb : TE} {x y v : V} {i j n : Int}
theorem q_yes {Q : Bool → Hp → Prop} (h : Q true H) : tYes σ H Q := h
theorem line_lt {n : Nat} (h : n < 1000001) : n < sizeLine := Nat.lt_of_lt_of_le h (by decide)
theorem line_lt2 {n : Nat} (h : Nat.ble (n + 1) 100000 = true) : n < sizeLine := Nat.lt_of_lt_of_le (Nat.le_of_ble_eq_true h) (by decide)
theorem q_chain {tc : TE} {r r' : R2} (h : ta σ H fun x H1 => tb σ H1 fun y H2 => r x y H2 fun z H3 => ∃ k, z = .bl k ∧ (if k = true then tc σ H3 fun w' H4 => r' y w' H4 Q else Q (.bl false) H3)) : tChain r r' ta tb tc σ H Q := h
theorem q_m1 {r : V → List V → Hp → VK → Prop} (h : ta σ H fun x H1 => (∃ a, x = .str a) ∧ tb σ H1 fun y H2 => r x [y] H2 Q) : tM1 r ta tb σ H Q := h
theorem q_ixS {z : Str} (hz : z.length ≤ sizeLine) (h0 : 0 ≤ i) (h1 : i < (z.length : Nat)) (q : ∀ c : Nat, Q (.str ⟨#[c]⟩) H) : rIx K (.str z) (.int i) H Q := by
  obtain ⟨k, rfl⟩ := Int.eq_ofNat_of_zero_le h0
  have hk : k < z.cps.toList.length := by
    have e : z.cps.toList.length = z.length := by rw [Array.length_toList] <;> rfl
    omega
  exact .inr (.inr ⟨z, k, _, rfl, rfl, hz, atI_nat (List.getElem?_eq_getElem hk), q _⟩)
theorem q_ixLn {a : Addr} {xs : List V} (h : SqL K H a xs) (h0 : 0 ≤ i) (h1 : i < (xs.length : Nat)) (q : ∀ v, v ∈ xs → Q v H) : rIx K (.ref a) (.int i) H Q := by
  obtain ⟨k, rfl⟩ := Int.eq_ofNat_of_zero_le h0
  have hk : k < xs.length := by omega
  exact q_ixL h (atI_nat (List.getElem?_eq_getElem hk)) (q _ (List.getElem_mem hk))
theorem q_join {a : Addr} {s : Str} {ys : List Str} (h : SqL K H a (ys.map V.str)) (hl : (ys.map (·.length)).sum + ys.length * s.length ≤ 16777216) (q : Q (.str (Txt.join s ys)) H) : rJoinA K (.str s) [.ref a] H Q := ⟨s, a, ys, rfl, rfl, .inl h, hl, q⟩
end
/-! what stands in a heap that grew -/
theorem upd_old {H : Hp} {a p : Addr} {o u : HO} (h : H a = some u) (hp : H p = none) : L2.upd H p o a = some u := by
  rw [upd_ne (ne_of_none h hp)]
  exact h
theorem upd_mu {H : Hp} {a b : Addr} {o u : HO} (h : H a = some u) (ne : a ≠ b) : L2.upd H b o a = some u := by
  rw [upd_ne ne]
  exact h
theorem Ex.ap {H H' : Hp} {a : Addr} {o : HO} (e : Ex H H') (h : H a = some o) : H' a = some o := e a o h
section
variable {K : PySem.W.Frag} {H : Hp} {Q : VK} {a b : Addr} {xs ys : List V} {v : V}
theorem q_cat (h1 : H a = some (.lst xs)) (h2 : H b = some (.lst ys)) (hl : xs.length + ys.length ≤ sizeLine) (q : ∀ p, H p = none → Q (.ref p) (L2.upd H p (.lst (xs ++ ys)))) : rAddA K (.ref a) (.ref b) H Q := .inr (.inl ⟨a, b, xs, ys, rfl, rfl, h1, h2, hl, q⟩)
theorem q_append (h : H a = some (.lst xs)) (hl : xs.length < sizeLine) (q : Q .non (L2.upd H a (.lst (xs ++ [v])))) : rAppend (.ref a) [v] H Q := ⟨a, xs, v, rfl, rfl, h, hl, q⟩
theorem q_bm {T : String} {r : V → List V → Hp → VK → Prop} {to : TE} {t : TA} {σ : L2.St} (h : to σ H fun x H1 => tyV K T x H1 ∧ t σ H1 fun xs H2 => r x xs H2 Q) : tBM K T r to t σ H Q := h
theorem q_bm0 {T : String} {r : V → List V → Hp → VK → Prop} {to : TE} {σ : L2.St} (h : to σ H fun x H1 => tyV K T x H1 ∧ r x [] H1 Q) : tBM0 K T r to σ H Q := h
theorem q_tyL {R : Prop} (h : H a = some (.lst xs)) (r : R) : tyV K "list" (.ref a) H ∧ R := ⟨.inl ⟨rfl, xs, .inl (.inl h)⟩, r⟩
end
/-! the rules, the module's facts named -/
section
variable {X : Cx} {K : PySem.W.Frag} {e : Expr} {ta tb : TE}
theorem op_addK (h : X.K = K) : OpR X (binaryOp .Add) (rAddA K) := h ▸ op_addA
theorem op_mulK (h : X.K = K) : OpR X (binaryOp .Mult) (rMulA K) := h ▸ op_mulA
theorem op_eqK (h : X.K = K) (u : X.A.units + 64 < cLine) : OpR X (compareOp .Eq) (rEqA K) := h ▸ op_eqA u
theorem op_neK (h : X.K = K) (u : X.A.units + 64 < cLine) : OpR X (compareOp .NotEq) (rNeA K) := h ▸ op_neA u
theorem op_inK (h : X.K = K) (u : X.A.units + 65 < cLine) : OpR X (compareOp .In) (rInA K) := h ▸ op_inA u
theorem op_niK (h : X.K = K) (u : X.A.units + 65 < cLine) : OpR X (compareOp .NotIn) (rNiA K) := h ▸ op_niA u
theorem ix_seqK (h : X.K = K) : IxR X (rIx K) := h ▸ ix_seq
theorem sl_anyK (h : X.K = K) : SlR X (rSlAny K) := h ▸ sl_anyA
theorem call_lenK (h : X.K = K) : CallR X (.builtin "len") (rLenA K) := h ▸ call_lenA
theorem call_listK (h : X.K = K) : CallR X (.type "list") (rListA K) := h ▸ call_listA
theorem call_tupK (h : X.K = K) : CallR X (.type "tuple") (rTupA K) := h ▸ call_tupA
theorem call_isiQ (h : X.K = K) : CallR X (.builtin "isinstance") (rIsi K) := h ▸ call_isi
theorem call_isiTQ (h : X.K = K) : CallR X (.builtin "isinstance") (rIsiT K) := h ▸ call_isiT
theorem call_isXK (h : X.K = K) : CallR X (.builtin "isinstance") (rIsX K) := h ▸ call_isX
theorem pe_joinK {o : Expr} {to : TE} {apos pos : Pos} (h : X.K = K) (ho : PE X o to) (he : PE X e ta) (hs : starEach [e] X.env = [(false, eval e X.env)] := by rfl) (hbase : attributeBase o "join" X.env (eval o X.env) = eval o X.env := by rfl) (hline : (apos.endLine == pos.line) = true := by rfl) :
    PE X (.Call (.Attribute o "join" apos) [e] [] pos) (tM1 (rJoinA K) to ta) := h ▸ pe_joinA ho he hs hbase hline
theorem pe_bmK {T id : String} {name : Str} {r : V → List V → Hp → VK → Prop} {o : Expr} {es : List Expr} {to : TE} {t : TA} {apos cpos : Pos} (h : X.K = K) (pa : PlainAttrs T) (slot : Slot T name id) (hty : typeOf (.builtin id) = pure (.type "method_descriptor")) (hm : MtR X id r) (ho : PE X o to) (ha : PA X (e :: es) t)
    (hbase : attributeBase o name X.env (eval o X.env) = eval o X.env := by rfl)
    (hfew : ((backTo cpos (starEach (e :: es) X.env)).all (fun x => !x.1) && (backToKw cpos (keywordEach [] X.env)).all (fun x => x.1.isSome)
      && decide ((e :: es).length + ([] : List Keyword).length + (if ([] : List Keyword).isEmpty then 0 else 1) < 30)) = true := by rfl)
    (hline : (apos.endLine == cpos.line) = true := by rfl) (hs : starEach (e :: es) X.env = (false, eval e X.env) :: starEach es X.env := by rfl) (hplain : (backTo cpos (starEach es X.env)).any (·.1) = false := by rfl) : PE X (.Call (.Attribute o name apos) (e :: es) [] cpos) (tBM K T r to t) :=
  h ▸ pe_bm pa slot hty hm ho ha hbase hfew hline hs hplain
theorem pe_bm0K {T id : String} {name : Str} {r : V → List V → Hp → VK → Prop} {o : Expr} {to : TE} {apos cpos : Pos} (h : X.K = K) (pa : PlainAttrs T) (slot : Slot T name id) (hty : typeOf (.builtin id) = pure (.type "method_descriptor")) (hm : MtR X id r) (ho : PE X o to)
    (hbase : attributeBase o name X.env (eval o X.env) = eval o X.env := by rfl) (hline : (apos.endLine == cpos.line) = true := by rfl) : PE X (.Call (.Attribute o name apos) [] [] cpos) (tBM0 K T r to) := h ▸ pe_bm0 pa slot hty hm ho hbase hline
theorem pi_seqK {tg : Expr} (h : X.K = K) (he : PE X e ta) : PI X tg e (iSeqA K ta) := h ▸ pi_seqA he
theorem pe_xatK {pos : Pos} {n : Str} (h : X.K = K) (he : PE X e ta) (hb : attributeBase e n X.env (eval e X.env) = eval e X.env := by rfl) : PE X (.Attribute e n pos) (tXat K n ta) := h ▸ pe_xat he hb
end
/-! exceptions, read -/
section
variable {X : Cx} {K : PySem.W.Frag} {mg : Str → Option Value} {σ : L2.St} {H : Hp} {Q : VK} {D : Ends} {ta : TE} {ts : TA} {x fld f : Str} {C a : Addr} {cls c : Value} {d : Option Addr} {v : V} {Wout W : WX} {su : Suite} {l : List (Value × Suite)} {i : Nat}
theorem Xn.xf (T : Xn K mg x fld C) : XfC K C ∧ PySem.W.findIn K (.ref C) fld = some none := by
  obtain ⟨_, fI, st, qual, fd, T, _, _⟩ := T
  exact ⟨T.xf, T.no⟩
def tTryA (K : PySem.W.Frag) (Wout : WX) (tb : WX → TS) (l : List (Value × Suite)) : TS := fun D σ H => tb (wMany K Wout D l) D σ H
theorem ps_tryK {body : List Stmt} {h₀ : ExceptHandler} {hds : List ExceptHandler} {pos : Pos} {tb : WX → TS} (h : X.K = K) (hs : X.stack = X.env :: X.outer) (hf : X.env.frame = some X.env.locals) (tk : Takes X Wout)
    (hb : ∀ (W : WX) (pn : List (Addr × Obj)) (xe : Value → Shared → Prop), Takes (X.tr pn xe) W → PassesOwn (model X.prog X.w) X.A X.env xe → PSs (X.tr pn xe) body (tb W)) (hh : HdsA X (h₀ :: hds) l) : PS X (.Try body (h₀ :: hds) [] [] pos) (tTryA K Wout tb l) := h ▸ ps_tryA hs hf tk hb hh
theorem q_tryA {tb : WX → TS} (h : tb (wMany K Wout D l) D σ H) : tTryA K Wout tb l D σ H := h
theorem q_callS {sp : Sp} {E : L2.St → XK} (h : ts σ H fun vs H1 => sp vs H1 Q (E σ)) : tCallS sp E ts σ H Q := h
theorem q_wY (hb : PySem.W.exmOne K cls c = some true) (h : ∀ a, H a = none → su a cls d D σ H) : wMany K Wout D ((c, su) :: l) cls d σ H := ⟨true, hb, fun _ => h, fun z => nomatch z⟩
theorem q_wN (hb : PySem.W.exmOne K cls c = some false) (h : wMany K Wout D l cls d σ H) : wMany K Wout D ((c, su) :: l) cls d σ H := ⟨false, hb, (fun z => nomatch z), fun _ => h⟩
theorem q_as {t : Suite} (h : t a cls d { nx := fun z G => D.nx (z.set i none) G, rt := D.rt, bk := fun z G => D.bk (z.set i none) G, ct := fun z G => D.ct (z.set i none) G } (σ.set i (some (.ref a))) H) : asS i t a cls d D σ H := h
theorem q_xfV {dd : Addr} {fs : List (Str × V)} {k : Nat} (h : σ[k]? = some (some (.ref a))) (hd : H dd = some (.xd fs)) (hl : fs.lookup f = some v) (q : Q v H) : tXf a (.ref C) (some dd) C f (tVar k) σ H Q := ⟨.ref a, h, rfl, rfl, dd, fs, v, rfl, hd, hl, q⟩
theorem q_xat (h : ta σ H fun x H1 => rXat K f x H1 Q) : tXat K f ta σ H Q := h
theorem lk1 : List.lookup f [(f, v)] = some v := by simp [List.lookup]
theorem q_xatE {d' : Addr} (T : Xn K mg x f C) (ha : H a = some (ExH C d' a)) (hd : H d' = some (.xd [(f, v)])) (q : Q v H) :
    rXat K f (.ref a) H Q := ⟨a, C, d', _, v, rfl, ha, T.xf.1, T.xf.2, hd, lk1, q⟩
theorem q_xatF {d' : Addr} (ha : H a = some (ExH C d' a)) (hd : H d' = some (.xd [(f, v)])) (T : Xn K mg x f C) (q : Q v H) : rXat K f (.ref a) H Q := q_xatE T ha hd q
theorem q_isXe {d' : Addr} {u : V} {b : Bool} {H0 : Hp} (T : Xn K mg x f C) (ha : H0 a = some (ExH C d' a)) (hd : H0 d' = some (.xd [(f, v)])) (e : Ex H0 H) {w : Value} (hc : ClsV u w) (hk : PySem.W.kitOne K (.ref C) w = some b) (q : Q (.bl b) H) : rIsX K [.ref a, u] H Q := by
  obtain ⟨_, fI, st, qual, fd, T, _, _⟩ := T
  exact ⟨a, C, d', fI, f, _, u, w, b, rfl, e _ _ ha, e _ _ hd, T, hc, hk, q⟩
theorem q_isX {d' : Addr} {u : V} {b : Bool} (T : Xn K mg x f C) (ha : H a = some (ExH C d' a)) (hd : H d' = some (.xd [(f, v)])) {w : Value} (hc : ClsV u w) (hk : PySem.W.kitOne K (.ref C) w = some b) (q : Q (.bl b) H) : rIsX K [.ref a, u] H Q := by
  obtain ⟨_, fI, st, qual, fd, T, _, _⟩ := T
  exact ⟨a, C, d', fI, f, _, u, w, b, rfl, ha, hd, T, hc, hk, q⟩
theorem q_raise (h : ts σ H fun vs H1 => ∃ v, vs = [v] ∧ ∀ d, H1 d = none → W (.ref C) (some d) σ (upd H1 d (.xd [(fld, v)]))) : tRaiseX C fld W ts D σ H := h
theorem q_mkOne {R : V → Prop} (h : R v) : ∃ u, [v] = [u] ∧ R u := ⟨v, rfl, h⟩
theorem q_new (h : ts σ H fun vs H1 => ∃ v, vs = [v] ∧ ∀ d e, H1 d = none → H1 e = none → e ≠ d → Q (.ref e) (upd (upd H1 d (.xd [(fld, v)])) e (ExH C d e))) : tNewX C fld ts σ H Q := h
theorem q_newE (h : ts σ H fun vs H1 => ∃ v, vs = [v] ∧ ∀ d e H2, Ex H1 H2 → H2 d = some (.xd [(fld, v)]) → H2 e = some (ExH C d e) → Q (.ref e) H2) (mono : ∀ R R' : List V → Hp → Prop, (∀ vs G, R vs G → R' vs G) → ts σ H R → ts σ H R') : tNewX C fld ts σ H Q := by
  refine mono _ _ (fun vs H1 ⟨v, e1, k⟩ => ⟨v, e1, fun d e hd he ne => ?_⟩) h
  have h2 : upd H1 d (.xd [(fld, v)]) e = none := by
    rw [upd_ne ne]
    exact he
  exact k d e _ ((Ex.new hd).trans (Ex.new h2)) (by rw [upd_ne (Ne.symm ne)]; exact upd_same) upd_same
/-- .. of one value that is read by a variable -/
theorem q_newV {j : Nat} (hj : σ[j]? = some (some v)) (h : ∀ d e H2, Ex H H2 → H2 d = some (.xd [(fld, v)]) → H2 e = some (ExH C d e) → Q (.ref e) H2) : tNewX C fld (tCons (tVar j) tNil) σ H Q :=
  q_newE ⟨v, hj, v, rfl, h⟩ fun R R' k ⟨u, hu, r⟩ => ⟨u, hu, k _ _ r⟩
theorem pe_callX0 {k : Nat} {ps : List Str} {sp : Sp} {e : Expr} {es : List Expr} {p pos : Pos} (C : CalX X.prog X.w X.K X.mg X.base k x ps sp) (hr : Room k X.A) (hg : Gl X x) (ha : PA X (e :: es) ts)
    (hdb : (x == ("__debug__" : Str)) = false := by decide) (he : starEach (e :: es) X.env = (false, eval e X.env) :: starEach es X.env := by rfl) (hpl : (backTo pos (starEach es X.env)).any (·.1) = false := by rfl) :
    PE X (.Call (.Name x p) (e :: es) [] pos) (tCallS sp (fun _ => E0) ts) := pe_callXC C hr hg (fun σ pins H s e s' _ c => by
  obtain ⟨_, _, _, _, _, _, _, _, _, _, _, _, z⟩ := c
  exact z.elim) ha hdb he hpl
end
/-- a def's promise, as the end wants it -/
theorem fnok_of {P : Program} {w : World} {K : PySem.W.Frag} {mg : Str → Option Value} {base : Heap} {x : Str} {st : Stmt} {f : Addr} {fd : FuncData} {N ps : List Str} {k : Nat} {sp : Sp} (F : FnP K x st f fd) (S : FnScope N ps (defScope st)) (len : ∀ vs H Q E, sp vs H Q E → vs.length = ps.length)
    (body : ∀ (cdv : Value) (A : Around) (outer : List Env) (s : Shared) (H : Hp) (vs : List V) (Q : VK) (E : XK), Room k (A.deeper (envOfC x (defScope st) s.heap.objs.size f cdv)) → sp vs H Q E →
      ∃ t σ, PSs (cxOf CX0 P w K mg base N x (defScope st) f cdv A outer s H E).nox (defBody st) t ∧ start N vs = σ ∧ t { nx := fun _ H' => Q .non H', rt := Q } σ H) : FnOk P w K mg base CX0 (k + 1) f fd ps sp :=
  FunD.ok F S len (fun cdv A outer s H vs Q E hr h => by
    obtain ⟨t, σ, h1, rfl, h2⟩ := body cdv A outer s H vs Q E hr h
    exact ⟨t, PSs.nox h1, h2⟩)
theorem sum_ones : ∀ {ys : List Str}, (∀ y ∈ ys, y.length = 1) → (ys.map (·.length)).sum = ys.length
  | [], _ => rfl
  | y :: ys, h => by
    rw [List.map_cons, List.sum_cons, h y (List.mem_cons_self ..), sum_ones (ys := ys) (fun z hz => h z (List.mem_cons_of_mem _ hz)), List.length_cons, Nat.add_comm]
end Cw

set_option maxHeartbeats 4000000
/-! plain data: what the program's tests tell of it -/
namespace Cw
open PySem PySem.Spec PyProof.Rows L2
/-- data of at most n levels of lists and tuples, none too long -/
def okD : Nat → PyData → Bool
  | _, .none => true
  | _, .bool _ => true
  | _, .int _ => true
  | _, .str z => PyData.strOk z && decide (z.length ≤ 100000)
  | n + 1, .list ds => decide (ds.length ≤ 100000) && ds.all (okD n)
  | n + 1, .tuple ds => decide (ds.length ≤ 100000) && ds.all (okD n)
  | 0, .list _ => false
  | 0, .tuple _ => false
  | _, .dict _ => false
theorem okD_up : ∀ {n : Nat} {d : PyData}, okD n d = true → okD (n + 1) d = true
  | _, .none, _ => by rw [okD]
  | _, .bool _, _ => by rw [okD]
  | _, .int _, _ => by rw [okD]
  | n, .str z, h => by
    rw [okD] at h ⊢
    exact h
  | n + 1, .list ds, h => by
    rw [okD] at h ⊢
    obtain ⟨h1, h2⟩ := bA h
    rw [h1, Bool.true_and, List.all_eq_true]
    exact fun d m => okD_up (List.all_eq_true.mp h2 d m)
  | n + 1, .tuple ds, h => by
    rw [okD] at h ⊢
    obtain ⟨h1, h2⟩ := bA h
    rw [h1, Bool.true_and, List.all_eq_true]
    exact fun d m => okD_up (List.all_eq_true.mp h2 d m)
  | 0, .list _, h => by
    rw [okD] at h
    cases h
  | 0, .tuple _, h => by
    rw [okD] at h
    cases h
  | 0, .dict _, h => by
    rw [okD] at h
    cases h
  | _ + 1, .dict _, h => by
    rw [okD] at h
    cases h
theorem okD_le {n m : Nat} {d : PyData} (h : okD n d = true) (e : n ≤ m) : okD m d = true := by
  induction e with
  | refl => exact h
  | step _ ih => exact okD_up ih
theorem canAll_of : ∀ {ds : List PyData}, (∀ d ∈ ds, PyData.canLay0 d = true) → PyData.canLayAll0 ds = true
  | [], _ => by rw [PyData.canLayAll0]
  | e :: ds, h => by
    rw [PyData.canLayAll0, h e (List.mem_cons_self ..), canAll_of (fun d m => h d (List.mem_cons_of_mem _ m))] <;> rfl
theorem depAll_of {n : Nat} : ∀ {ds : List PyData}, (∀ d ∈ ds, d.depth ≤ n) → PyData.depthAll ds ≤ n
  | [], _ => by
    rw [PyData.depthAll]
    exact Nat.zero_le n
  | e :: ds, h => by
    rw [PyData.depthAll]
    exact Nat.max_le.mpr ⟨h e (List.mem_cons_self ..), depAll_of (fun d m => h d (List.mem_cons_of_mem _ m))⟩
theorem okD_lay : ∀ {n : Nat} {d : PyData}, okD n d = true → PyData.canLay0 d = true ∧ d.depth ≤ n
  | _, .none, _ => by rw [PyData.canLay0, PyData.depth]; exact ⟨rfl, Nat.zero_le _⟩
  | _, .bool _, _ => by rw [PyData.canLay0, PyData.depth]; exact ⟨rfl, Nat.zero_le _⟩
  | _, .int _, _ => by rw [PyData.canLay0, PyData.depth]; exact ⟨rfl, Nat.zero_le _⟩
  | n, .str z, h => by
    rw [okD] at h
    rw [PyData.canLay0, PyData.depth]
    exact ⟨(bA h).1, Nat.zero_le _⟩
  | n + 1, .list ds, h => by
    rw [okD] at h
    have h2 := List.all_eq_true.mp (bA h).2
    rw [PyData.canLay0, PyData.depth]
    exact ⟨canAll_of fun d m => (okD_lay (h2 d m)).1, Nat.succ_le_succ (depAll_of fun d m => (okD_lay (h2 d m)).2)⟩
  | n + 1, .tuple ds, h => by
    rw [okD] at h
    have h2 := List.all_eq_true.mp (bA h).2
    rw [PyData.canLay0, PyData.depth]
    exact ⟨canAll_of fun d m => (okD_lay (h2 d m)).1, Nat.succ_le_succ (depAll_of fun d m => (okD_lay (h2 d m)).2)⟩
  | 0, .list _, h => by
    rw [okD] at h
    cases h
  | 0, .tuple _, h => by
    rw [okD] at h
    cases h
  | 0, .dict _, h => by
    rw [okD] at h
    cases h
  | _ + 1, .dict _, h => by
    rw [okD] at h
    cases h
theorem okD_sm : ∀ {n : Nat} {d : PyData}, okD n d = true → Sm (n + 1) d
  | _, .none, _ => True.intro
  | _, .bool _, _ => True.intro
  | _, .int _, _ => True.intro
  | _, .str _, _ => True.intro
  | n + 1, .list ds, h => by
    rw [okD] at h
    obtain ⟨h1, h2⟩ := bA h
    exact ⟨Nat.le_trans (of_decide_eq_true h1) (by decide), fun d m => okD_sm (List.all_eq_true.mp h2 d m)⟩
  | n + 1, .tuple ds, h => by
    rw [okD] at h
    obtain ⟨h1, h2⟩ := bA h
    exact ⟨Nat.le_trans (of_decide_eq_true h1) (by decide), fun d m => okD_sm (List.all_eq_true.mp h2 d m)⟩
  | 0, .list _, h => by
    rw [okD] at h
    cases h
  | 0, .tuple _, h => by
    rw [okD] at h
    cases h
  | 0, .dict _, h => by
    rw [okD] at h
    cases h
  | _ + 1, .dict _, h => by
    rw [okD] at h
    cases h
/-- data that may be handed about -/
def Shp (d : PyData) : Prop := okD 60 d = true
theorem Shp.shaped {d : PyData} (h : Shp d) : SeqAt.shaped d = true := by
  obtain ⟨h1, h2⟩ := okD_lay h
  unfold SeqAt.shaped
  rw [h1, decide_eq_true (Nat.le_trans h2 (by decide))] <;> rfl
theorem shp_int (i : Int) : Shp (.int i) := by unfold Shp; rw [okD]
theorem shp_none : Shp .none := by unfold Shp; rw [okD]
theorem shp_bool (b : Bool) : Shp (.bool b) := by unfold Shp; rw [okD]
theorem shp_str {z : Str} (h : Shp (.str z)) : z.length ≤ 100000 := by
  unfold Shp at h
  rw [okD] at h
  exact of_decide_eq_true (bA h).2
theorem shp_mem {d : PyData} {ds : List PyData} (e : d = .list ds ∨ d = .tuple ds) (h : Shp d) : ∀ x ∈ ds, Shp x := fun x m => by
  unfold Shp at h ⊢
  rcases e with rfl | rfl
  · rw [okD] at h
    exact okD_up (List.all_eq_true.mp (bA h).2 x m)
  · rw [okD] at h
    exact okD_up (List.all_eq_true.mp (bA h).2 x m)
theorem shp_len {d : PyData} {ds : List PyData} (e : d = .list ds ∨ d = .tuple ds) (h : Shp d) : ds.length ≤ 100000 := by
  unfold Shp at h
  rcases e with rfl | rfl
  · rw [okD] at h
    exact of_decide_eq_true (bA h).1
  · rw [okD] at h
    exact of_decide_eq_true (bA h).1
/-! readings -/
def items : PyData → Option (List PyData)
  | .list ds => some ds
  | .tuple ds => some ds
  | _ => none
def isNum : PyData → Bool
  | .int i => decide (0 ≤ i)
  | _ => false
def isBelow (n : Int) : PyData → Bool
  | .int i => decide (0 ≤ i) && decide (i < n)
  | _ => false
def isRow (n : Int) (d : PyData) : Bool := match items d with
  | some ds => decide ((ds.length : Int) = n)
  | none => false
theorem isRow_ex {n : Int} {d : PyData} (h : isRow n d = true) : ∃ ds, (d = .list ds ∨ d = .tuple ds) ∧ (ds.length : Int) = n := by
  cases d with
  | list ds => exact ⟨ds, .inl rfl, of_decide_eq_true h⟩
  | tuple ds => exact ⟨ds, .inr rfl, of_decide_eq_true h⟩
  | _ => cases h
/-! promises of tests -/
def sp1 (K : PySem.W.Frag) (t : PyData → Bool) : Sp := fun vs H Q _ => ∃ (G : Hp) (v : V) (d : PyData), vs = [v] ∧ Ex G H ∧ Rp K G v d ∧ Shp d ∧ ∀ H', Ex H H' → Q (.bl (t d)) H'
def sp2 (K : PySem.W.Frag) (t : Int → PyData → Bool) : Sp := fun vs H Q _ => ∃ (G : Hp) (v : V) (n : Int) (d : PyData), vs = [v, .int n] ∧ Ex G H ∧ Rp K G v d ∧ Shp d ∧ ∀ H', Ex H H' → Q (.bl (t n d)) H'
section
variable {K : PySem.W.Frag} {G H : Hp} {Q : VK} {v u : V} {d e : PyData} {ds : List PyData} {i : Int}
theorem q_bt' {b c : Bool} (h : c = b) (q : Q (.bl c) H) : Q (.bl b) H := h ▸ q
/-- == of data -/
theorem q_eqR (hv : Rp K G v d) (hu : Rp K G u e) (x : Ex G H) (hd : Shp d) (he : Shp e) (q : Q (.bl (PyData.eqv d e)) H) : rEqA K v u H Q := .inr ⟨d, e, (Rp.mono x hv).dp, (Rp.mono x hu).dp, hd.shaped, he.shaped, q⟩
theorem q_neR (hv : Rp K G v d) (hu : Rp K G u e) (x : Ex G H) (hd : Shp d) (he : Shp e) (q : Q (.bl (!PyData.eqv d e)) H) : rNeA K v u H Q := .inr ⟨d, e, (Rp.mono x hv).dp, (Rp.mono x hu).dp, hd.shaped, he.shaped, q⟩
/-- an item of a list or a tuple -/
theorem q_ixRS (h : Rp K G v d) (hs : d = .list ds ∨ d = .tuple ds) (x : Ex G H) (hd : atI ds i = some e) (q : ∀ u, Rp K G u e → Q u H) : rIx K v (.int i) H Q := by
  rcases hs with rfl | rfl
  · exact q_ixRL h x hd q
  · exact q_ixRT h x hd q
theorem q_lenRS (h : Rp K G v d) (hs : d = .list ds ∨ d = .tuple ds) (x : Ex G H) (q : Q (.int (ds.length : Nat)) H) : rLenA K [v] H Q := by
  rcases hs with rfl | rfl
  · exact q_lenRL h x q
  · exact q_lenRT h x q
end
/-! in, of any data -/
def rInDT (K : PySem.W.Frag) : R2 := fun x y H Q => ∃ d ds, Dp K H x d ∧ Dp K H y (.tuple ds) ∧ SeqAt.shaped d = true ∧ SeqAt.shaped (.tuple ds) = true ∧ Q (.bl (ds.any fun z => PyData.eqv z d)) H
def rNiDT (K : PySem.W.Frag) : R2 := fun x y H Q => ∃ d ds, Dp K H x d ∧ Dp K H y (.tuple ds) ∧ SeqAt.shaped d = true ∧ SeqAt.shaped (.tuple ds) = true ∧ Q (.bl (!ds.any fun z => PyData.eqv z d)) H
section
variable {X : Cx}
theorem op_inDT (u : X.A.units + 65 < cLine) : OpR X (compareOp .In) (rInDT X.K) := by
  rintro pins s σ H x y v z Q I rx ry ⟨d, ds, hd, he, sd, se, q⟩
  obtain ⟨_, r1⟩ := Dp.reads I d x v hd rx
  obtain ⟨_, r2⟩ := Dp.reads I (.tuple ds) y z he ry
  exact SeqAt.in_tuple_reads r2 r1 (SeqAt.canLay_of_shaped se) (SeqAt.canLay_of_shaped sd) (room_in_shaped sd u) ⟨.bl _, H, I, rfl, q⟩
theorem op_niDT (u : X.A.units + 65 < cLine) : OpR X (compareOp .NotIn) (rNiDT X.K) := by
  rintro pins s σ H x y v z Q I rx ry ⟨d, ds, hd, he, sd, se, q⟩
  obtain ⟨_, r1⟩ := Dp.reads I d x v hd rx
  obtain ⟨_, r2⟩ := Dp.reads I (.tuple ds) y z he ry
  exact SeqAt.notIn_tuple_reads r2 r1 (SeqAt.canLay_of_shaped se) (SeqAt.canLay_of_shaped sd) (room_in_shaped sd u) ⟨.bl _, H, I, rfl, q⟩
end
def rInB (K : PySem.W.Frag) : R2 := fun x y H Q => rInA K x y H Q ∨ rInDT K x y H Q
def rNiB (K : PySem.W.Frag) : R2 := fun x y H Q => rNiA K x y H Q ∨ rNiDT K x y H Q
theorem op_inB {X : Cx} {K : PySem.W.Frag} (h : X.K = K) (u : X.A.units + 65 < cLine) : OpR X (compareOp .In) (rInB K) := h ▸ OpR.or (op_inA u) (op_inDT u)
theorem op_niB {X : Cx} {K : PySem.W.Frag} (h : X.K = K) (u : X.A.units + 65 < cLine) : OpR X (compareOp .NotIn) (rNiB K) := h ▸ OpR.or (op_niA u) (op_niDT u)
section
variable {K : PySem.W.Frag} {G H : Hp} {Q : VK} {v u : V} {d : PyData} {ds : List PyData}
theorem q_inS {c : Nat} {z : Str} (q : Q (.bl (decide (c ∈ z.cps.toList))) H) : rInB K (.str ⟨#[c]⟩) (.str z) H Q := .inl (.inr (.inr ⟨c, z, rfl, rfl, q⟩))
theorem q_inT (hv : Rp K G v d) (hu : Rp K G u (.tuple ds)) (x : Ex G H) (hd : Shp d) (he : Shp (.tuple ds)) (q : Q (.bl (ds.any fun z => PyData.eqv z d)) H) : rInB K v u H Q := .inr ⟨d, ds, (Rp.mono x hv).dp, (Rp.mono x hu).dp, hd.shaped, he.shaped, q⟩
theorem q_inL (hv : Rp K G v d) (hu : Rp K G u (.list ds)) (x : Ex G H) (hd : Shp d) (he : Shp (.list ds)) (q : Q (.bl (ds.any fun z => PyData.eqv z d)) H) : rInB K v u H Q := .inl (.inr (.inl ⟨d, ds, (Rp.mono x hv).dp, (Rp.mono x hu).dp, hd.shaped, he.shaped, q⟩))
theorem q_niT (hv : Rp K G v d) (hu : Rp K G u (.tuple ds)) (x : Ex G H) (hd : Shp d) (he : Shp (.tuple ds)) (q : Q (.bl (!ds.any fun z => PyData.eqv z d)) H) : rNiB K v u H Q := .inr ⟨d, ds, (Rp.mono x hv).dp, (Rp.mono x hu).dp, hd.shaped, he.shaped, q⟩
theorem q_niL (hv : Rp K G v d) (hu : Rp K G u (.list ds)) (x : Ex G H) (hd : Shp d) (he : Shp (.list ds)) (q : Q (.bl (!ds.any fun z => PyData.eqv z d)) H) : rNiB K v u H Q := .inl (.inr (.inl ⟨d, ds, (Rp.mono x hv).dp, (Rp.mono x hu).dp, hd.shaped, he.shaped, q⟩))
end
end Cw

set_option maxHeartbeats 4000000
/-! len(set(texts)), any texts of a list: how many different ones -/
namespace Cw
open PySem PySem.Spec PyProof.Rows L2
theorem snoc_ind {P : List Str → Prop} (h0 : P []) (h1 : ∀ xs v, P xs → P (xs ++ [v])) (xs : List Str) : P xs := by
  have key : ∀ ys : List Str, P ys.reverse := by
    intro ys
    induction ys with
    | nil => exact h0
    | cons v r ih =>
      rw [List.reverse_cons]
      exact h1 _ _ ih
  have := key xs.reverse
  rw [List.reverse_reverse] at this
  exact this
def ddStep (σ : List Str) (v : Str) : List Str := if σ.any (· == v) then σ else σ ++ [v]
def dd (xs : List Str) : List Str := xs.foldl ddStep []
theorem dd_snoc (xs : List Str) (v : Str) : dd (xs ++ [v]) = ddStep (dd xs) v := by
  unfold dd
  rw [List.foldl_append] <;> rfl
theorem dd_take {xs : List Str} {i : Nat} (h : i < xs.length) : dd (xs.take (i + 1)) = ddStep (dd (xs.take i)) (xs.getD i Str.empty) := by
  have e : xs.take (i + 1) = xs.take i ++ [xs.getD i Str.empty] := by
    rw [List.take_add_one, List.getD_eq_getElem?_getD, List.getElem?_eq_getElem h] <;> rfl
  rw [e, dd_snoc]
theorem ddStep_any (σ : List Str) (v k : Str) : (ddStep σ v).any (· == k) = (σ.any (· == k) || decide (k = v)) := by
  unfold ddStep
  by_cases h : σ.any (· == v) = true
  · rw [if_pos h]
    by_cases e : k = v
    · rw [e, h] <;> simp
    · simp [e]
  · rw [if_neg h, List.any_append]
    by_cases e : k = v
    · simp [e]
    · have hb : (v == k) = false := by simpa using fun y : v = k => e y.symm
      simp [hb, e]
theorem ddStep_len (σ : List Str) (v : Str) : (ddStep σ v).length = if σ.any (· == v) then σ.length else σ.length + 1 := by
  unfold ddStep
  split <;> simp
theorem dd_le : ∀ xs : List Str, (dd xs).length ≤ xs.length := by
  refine snoc_ind (Nat.le_refl _) fun xs v ih => ?_
  · rw [dd_snoc, ddStep_len, List.length_append]
    split <;> simp <;> omega
theorem dd_any (k : Str) : ∀ xs : List Str, (dd xs).any (· == k) = xs.any (· == k) := by
  refine snoc_ind rfl fun xs v ih => ?_
  · rw [dd_snoc, ddStep_any, ih, List.any_append]
    by_cases e : k = v
    · simp [e]
    · have hb : (v == k) = false := by simpa using fun y : v = k => e y.symm
      simp [hb, e]
/-- none twice, just if none is lost -/
theorem dd_nodup : ∀ xs : List Str, (dd xs).length = xs.length ↔ xs.Nodup := by
  refine snoc_ind (by simp [dd]) fun xs v ih => ?_
  · have h0 := dd_le xs
    rw [dd_snoc, ddStep_len, dd_any, List.length_append, List.nodup_append]
    by_cases h : xs.any (· == v) = true
    · rw [if_pos h]
      obtain ⟨y, hy, e⟩ := List.any_eq_true.mp h
      have e2 : y = v := eq_of_beq e
      subst e2
      constructor
      · intro z
        simp at z
        omega
      · rintro ⟨_, _, z⟩
        exact absurd rfl (z y hy y (List.mem_singleton.mpr rfl))
    · rw [if_neg h]
      constructor
      · intro z
        refine ⟨ih.mp (by simpa using z), by simp, fun a ha b hb e => ?_⟩
        rw [List.mem_singleton] at hb
        refine h (List.any_eq_true.mpr ⟨a, ha, ?_⟩)
        rw [e, hb]
        simp
      · rintro ⟨z, _, _⟩
        rw [ih.mpr z] <;> simp
section
variable {prog : Program} {w : World} {A : Around} {R : Result → Shared → Prop} {I : Addr} {fp wr : List Addr} {G : Array GenState → Array GenState → Prop} {n : Nat} {P : Nat → Value → Prop} {St : Nat → Shared → Prop}
abbrev SetD (prog : Program) (w : World) (h : Heap) (S : Addr) (xs : List Str) : Prop := h.SetOf (PySem.strKind prog w) S (fun k => (dd xs).any (· == k)) (dd xs).length
theorem setD_at {h h' : Heap} {S : Addr} {xs : List Str} (k : ∀ o, h.get? S = some o → h'.get? S = some o) (x : SetD prog w h S xs) : SetD prog w h' S xs := by
  obtain ⟨o, es, ep, t, ho, rest⟩ := x
  exact ⟨o, es, ep, t, k o ho, rest⟩
/-- the loop that fills the set, from the i-th on -/
theorem set_fill (W : WalksS prog w A.in1 I fp wr G n P St) {S : Addr} (hS : S ∉ fp) {xs : List Str} (hn : xs.length = n) (hb : n + 1 < scanBound) (hv : ∀ i v, P i v → ∃ t, v = .str (xs.getD i Str.empty) t) :
    ∀ (k i : Nat) (s : Shared), n - i = k → i ≤ n → St i s → SetD prog w s.heap S (xs.take i) → (∀ s', Moved (S :: wr) G s s' → SetD prog w s'.heap S xs → R (.ok (.ret .none)) s') →
      codeAny (model prog w) A (.builtin "set.update.loop" ⟨[.ref S, .ref I], []⟩) R s := by
  have nw : S ∉ wr := fun h => hS (W.sub _ h)
  have up : ∀ b ∈ wr, b ∈ S :: wr := fun b h => List.mem_cons_of_mem _ h
  intro k
  induction k with
  | zero =>
    intro i s hk hi st x r
    obtain rfl : i = n := by omega
    refine codeAny_builtin PyProof.Rows.F.entry_set_update_loop ?_
    rw [Around.under_plainId PyProof.Rows.F.plain_set_update_loop _]
    refine wpAny_bind (m := pyNext (.ref I)) (W.done s _ _ st fun s' hm => ?_)
    refine wpAny_pure (r s' (hm.mono up) ?_)
    rw [← hn, List.take_length] at x
    exact setD_at (fun o e => hm.heap S o nw e) x
  | succ k ih =>
    intro i s hk hi st x r
    have lt : i < n := by omega
    refine codeAny_builtin PyProof.Rows.F.entry_set_update_loop ?_
    rw [Around.under_plainId PyProof.Rows.F.plain_set_update_loop _]
    refine wpAny_bind (m := pyNext (.ref I)) (W.item i s _ _ lt st fun v s' hP st' hm => ?_)
    obtain ⟨t, rfl⟩ := hv i v hP
    have x' := setD_at (fun o e => hm.heap S o nw e) x
    refine wpAny_bind (m := holding [Value.str (xs.getD i Str.empty) t] (setAdd S (.str (xs.getD i Str.empty) t))) (wpAny_holding ?_)
    unfold setAdd
    refine wpAny_holding (wpAny_bind ((PySem.strKind prog w).pyHash (k := xs.getD i Str.empty) (strKind_is _ _ _ _) ?_))
    have room : (dd (xs.take i)).length + 1 < scanBound := by
      have h1 := dd_le (xs.take i)
      have h2 : (xs.take i).length ≤ i := by
        rw [List.length_take]
        omega
      omega
    refine wpAny_setAddHashed_of (knd := PySem.strKind prog w) (s := { s' with toks := s'.toks + 1 }) (strKind_is _ _ _ _) rfl x' room fun h' hs x2 => ?_
    have x3 : SetD prog w h' S (xs.take (i + 1)) := PyProof.Rows.SetOf_congr x2 (fun k' => by rw [dd_take (by omega), ddStep_any]) (by rw [dd_take (by omega), ddStep_len])
    refine wpAny_pure ⟨plainId_quiet PyProof.Rows.F.plain_set_update_loop _, ih (i + 1) _ (by omega) lt (W.frame _ s' _ _ st' (Nat.le_succ _) fun b hb' o e => ?_) x3 fun s2 m2 y => ?_⟩
    · rw [hs.2 b fun h : b = S => hS (by rw [← h]; exact hb')]
      exact e
    · refine r s2 (Moved.trans W.gtrans ((hm.mono up).then_heap (Nat.le_succ _) fun b o hb' e => ?_) m2) y
      rw [hs.2 b fun h : b = S => hb' (by rw [h]; exact List.mem_cons_self)]
      exact e
end
section
variable {prog : Program} {w : World} {A : Around} {E : Value → Shared → Prop} {s : Shared}
abbrev emptySet (led : Bool) : Obj := { cls := .type "set", dict := none, data := .set #[] 0 (.fresh 0 0 led) }
set_option maxHeartbeats 8000000 in
/-- set(l), l a list of texts -/
theorem set_of_list {l : Addr} {items : Array Value} {xs : List Str} {Q : Value → Shared → Prop} (hh : A.handled = none) (hl : s.heap.IsList l items) (hi : StrsAre items.toList xs) (hb : xs.length + 1 < scanBound)
    (h : ∀ (h' : Heap) (tk : Nat), SetD prog w h' s.heap.objs.size xs → (∀ b o, b < s.heap.objs.size → s.heap.get? b = some o → h'.get? b = some o) → Q (.ref s.heap.objs.size) { s with heap := h', toks := tk }) :
    wpAny (model prog w) A (call (.type "set") [.ref l]) Q E s := by
  obtain ⟨c, tl, hmro⟩ := PySem.F.called_set.mro
  have hmade := PySem.F.called_set.made
  have hsub := PySem.F.called_set.sub
  refine wpAny_call (codeAny_of_tree ?_)
  show wpAny _ _ (callAny (.type "set") _) _ _ _
  refine wpAny_pure ⟨Code.quiet_builtin _ (by decide +kernel), codeAny_builtin PySem.F.entry_type_call ?_⟩
  rw [Around.under_plain (weight_type_call_type "set" [.ref l] []) rfl]
  have k1 := PySem.F.called_set.notType
  have k2 := PySem.F.called_set.canCreate
  have k3 := PySem.F.typeCall_set_1 (.ref l)
  repeat (any_goals (first | assumption | wp_step))
  refine codeAny_mono (code_set_new_1 (.ref l) (E := E) (Q₁ := fun obj s₁ => ∃ led, obj = .ref s.heap.objs.size ∧ s₁ = { s with heap := s.heap.push (emptySet led) }) fun led => ⟨led, rfl, rfl⟩) fun r s₁ hr => ?_
  cases r with
  | error e => exact hr
  | ok fl =>
   cases fl with
   | next => exact hr.elim
   | brk => exact hr.elim
   | cont => exact hr.elim
   | ret obj =>
    obtain ⟨led, rfl, rfl⟩ := hr
    have there : (s.heap.push (emptySet led)).get? s.heap.objs.size = some (emptySet led) := Heap.get?_push_size _ rfl
    have hT : Shared.TypeIs { s with heap := s.heap.push (emptySet led) } (.ref s.heap.objs.size) "set" := ⟨_, there, rfl⟩
    have k4 := PySem.F.called_set.init.lookup
    have k5 := PySem.F.called_set.init.bind (.ref s.heap.objs.size)
    repeat (any_goals (first | assumption | wp_step))
    refine codeAny_mono (codeAny_call_builtin (R := wants (fun r s₂ => r = .none ∧ ∃ h' tk, s₂ = { s with heap := h', toks := tk } ∧ SetD prog w h' s.heap.objs.size xs ∧
        (∀ b o, b < s.heap.objs.size → s.heap.get? b = some o → h'.get? b = some o)) E) PySem.F.called_set.init.plain PySem.F.entry_set_init (check_set_init_1 hT ?_)) fun r₂ s₂ hr₂ => ?_
    · obtain ⟨⟨oc, od, dt, sl⟩, hol, hcl, nl, hdl⟩ := hl
      simp only at hcl hdl
      subst hcl
      subst hdl
      have hl1 : (s.heap.push (emptySet led)).IsList l items := ⟨_, Heap.get?_push_of_some _ hol, rfl, nl, rfl⟩
      have hlS : l < s.heap.objs.size := Heap.lt_size hol
      have hol' := Heap.get?_push_of_some (emptySet led) hol
      have k6 := PySem.F.sub_list_set
      have k7 := PySem.F.sub_list_frozenset
      have k8 : (Value.type "list" == Value.type "dict") = false := by decide
      unfold Builtin.«set.__init__» noKeywords Builtin.Frozenset.updateFrom
      generalize hPI : pyIter = PI
      wp_walk
      subst hPI
      refine wpAny_pyIter_list hl1 (wpAny_bind (wpAny_runValue ?_))
      have h3 : A.in1.in1.in1.handled = none := by simp [hh]
      have ne1 : l ≠ (s.heap.push (emptySet led)).objs.size := by
        rw [Heap.size_push]
        exact Nat.ne_of_lt (Nat.lt_succ_of_lt hlS)
      have ne2 : s.heap.objs.size ∉ [(s.heap.push (emptySet led)).objs.size, l] := by
        rw [Heap.size_push]
        intro z
        rcases List.mem_cons.mp z with z | z
        · exact Nat.ne_of_lt (Nat.lt_succ_self _) z
        · exact Nat.ne_of_gt hlS (List.mem_singleton.mp z)
      have len : items.size = xs.length := by
        rw [← Array.length_toList]
        exact hi.length
      refine set_fill ((Walks.list h3 _ l ne1 items).toS) ne2 len.symm (by omega) (fun i v hv => SS.strs_at hi i v (by rw [Array.getElem?_toList]; exact hv)) (items.size - 0) 0 _ (by omega) (Nat.zero_le _) ⟨⟨_, Heap.get?_push_size _ rfl, rfl, rfl⟩, (hl1.push _)⟩ ?_ ?_
      · have got : ((s.heap.push (emptySet led)).push { cls := .type "list_iterator", data := .fields #[.ref l, .int 0 0] }).get? s.heap.objs.size = some (emptySet led) := Heap.get?_push_of_some _ there
        exact PyProof.Rows.SetOf_congr ((PyProof.Rows.setObjOf_fresh (knd := PySem.strKind prog w) led).setOf got (by unfold scanBound; omega)) (fun _ => rfl) rfl
      · intro s' hm x
        obtain ⟨h', g', d', tk', os'⟩ := s'
        obtain rfl : g' = s.gens := hm.gens
        obtain rfl : d' = s.drawn := hm.drawn
        obtain rfl : os' = s.os := hm.os
        refine wpAny_pure (wpAny_pure (Q := fun r z => _) ⟨rfl, h', tk', rfl, x, fun b o hb e => ?_⟩)
        refine hm.heap b o ?_ (Heap.get?_push_of_some _ (Heap.get?_push_of_some _ e))
        intro z
        rcases List.mem_cons.mp z with z | z
        · exact Nat.ne_of_lt hb z
        · rw [List.mem_singleton.mp z, Heap.size_push] at hb
          exact absurd hb (Nat.not_lt.mpr (Nat.le_succ _))
    · cases r₂ with
      | error e => exact hr₂
      | ok fl₂ =>
       cases fl₂ with
       | next => exact hr₂.elim
       | brk => exact hr₂.elim
       | cont => exact hr₂.elim
       | ret r =>
        obtain ⟨rfl, h', tk, rfl, x, k⟩ := hr₂
        repeat (any_goals (first | assumption | wp_step))
        exact h _ _ x k
end
def tLenSetA (K : PySem.W.Frag) (ta : TE) : TE := fun σ H Q => ta σ H fun x H1 => ∃ (l : Addr) (xs : List Str), x = .ref l ∧ SqL K H1 l (xs.map V.str) ∧ xs.length ≤ 4000 ∧ Q (.int ((dd xs).length : Nat)) H1
theorem pe_lenSetA {X : Cx} {K : PySem.W.Frag} {a : Expr} {ta : TE} {p p2 q pos : Pos} (hK : X.K = K) (hc : X.calm = true) (hg : Gl X "len") (hm : X.mg "len" = none) (hg2 : Gl X "set") (hm2 : X.mg "set" = none) (ha : PE X a ta)
    (na : starEach [a] X.env = (false, eval a X.env) :: starEach [] X.env := by rfl) : PE X (.Call (.Name "len" p) [.Call (.Name "set" p2) [a] [] q] [] pos) (tLenSetA K ta) := by
  subst hK
  refine ⟨fun pins s σ H Q I h => ?_⟩
  refine Call_ (ld_blt I hg hm boot_len (PyProof.Rows.callWith_builtin1 (PyProof.Rows.args_cons (Call_ (ld_blt I hg2 hm2 boot_set ?_)) rfl) rfl rfl))
  refine PyProof.Rows.callWith_type1 (PyProof.Rows.args_cons (thn (ha.run pins s σ H _ I h) fun v s1 ⟨x, H1, I1, r1, q1⟩ => PyProof.Rows.args_nil ?_) na) na rfl
  obtain ⟨l, xs, rfl, hq, hl, q1⟩ := q1
  cases r1
  obtain ⟨its, r, pl, hz⟩ := I1.list hq
  refine set_of_list (I1.ok.hd hc) pl.isList (by simpa using strsAre_of r) (by unfold scanBound; omega) fun h' tk x k => PyProof.Rows.args_nil ?_
  have hd := dd_le xs
  obtain ⟨o, es, ep, t, ho, hex, hdt, _, _, _, hf, hn⟩ := x
  have I2 : Inv X pins σ H1 { s1 with heap := h', toks := tk } := I1.kept fun b o e => k b o (Heap.lt_size e) e
  exact call_len_set ho hex hdt hf (by rw [hn]; omega) ⟨.int ((dd xs).length : Nat), H1, I2.tok _, ⟨_, by rw [hn]⟩, q1⟩
theorem q_lenSet {K : PySem.W.Frag} {ta : TE} {σ : L2.St} {H : Hp} {Q : VK} (h : ta σ H fun x H1 => ∃ (l : Addr) (xs : List Str), x = .ref l ∧ SqL K H1 l (xs.map V.str) ∧ xs.length ≤ 4000 ∧ Q (.int ((dd xs).length : Nat)) H1) : tLenSetA K ta σ H Q := h
end Cw

set_option maxHeartbeats 4000000
/-! instances: made, their fields read; the constants of a module -/
namespace Cw
open PySem PySem.Spec PyProof.Rows L2
def rFld (K : PySem.W.Frag) (f : Str) : V → Hp → VK → Prop := fun x H1 Q => ∃ a C dx fs v, x = .ref a ∧ H1 a = some (.ins C dx fs) ∧ Cls K C ∧ NoAttr K C f ∧ fs.lookup f = some v ∧ Q v H1
def tFldA (K : PySem.W.Frag) (f : Str) (ta : TE) : TE := fun σ H Q => ta σ H fun x H1 => rFld K f x H1 Q
/-- a class that can be made by name, and what its __init__ promises -/
def Mkx (P : Program) (w : World) (K : PySem.W.Frag) (mg : Str → Option Value) (base : Heap) (k : Nat) (x : Str) (C : Addr) (ps : List Str) (sp : Sp) : Prop :=
  ∃ f fd, L2.Mk K C f ∧ FnOk P w K mg base (L2.CX P w) k f fd ps sp ∧ mg x = some (.ref C) ∧ Binds K fd ps []
def tMakeS (C : Addr) (sp : Sp) (E : L2.St → XK) (t : TA) : TE := fun σ H Q => t σ H fun vs H1 => ∀ x dx, H1 x = none → H1 dx = none → dx ≠ x → sp (.ref x :: vs) (upd (upd H1 dx (.own x)) x (.ins C dx [])) (fun v H2 => v = .non ∧ Q (.ref x) H2) (E σ)
section
variable {X : Cx} {K : PySem.W.Frag} {e : Expr} {es : List Expr} {ta : TE} {t : TA} {pos p : Pos} {f : Str}
theorem pe_fldK (h : X.K = K) (he : PE X e ta) (hb : attributeBase e f X.env (eval e X.env) = eval e X.env := by rfl) : PE X (.Attribute e f pos) (tFldA K f ta) := h ▸ pe_fld he hb
def sFldA (K : PySem.W.Frag) (f : Str) (ta tv : TE) : TS := fun D σ H => tv σ H fun y H1 => ta σ H1 fun x H2 => ∃ a C dx fs, x = .ref a ∧ H2 a = some (.ins C dx fs) ∧ Cls K C ∧ NoAttr K C f ∧ fs.length < 1000 ∧ D.nx σ (upd H2 a (.ins C dx (putF f y fs)))
theorem ps_fldK {o value : Expr} {pos' : Pos} {tv : TE} (h : X.K = K) (ha : PE X o ta) (hv : PE X value tv) (hs : swapsWith value (some (.Attribute o f pos')) pos.line X.env = pure false) : PS X (.Assign [.Attribute o f pos'] value pos) (sFldA K f ta tv) := h ▸ ps_fld ha hv hs
theorem run_makeS {k : Nat} {C g : Addr} {fd : FuncData} {ps : List Str} {sp : Sp} {E : XK} {pins : List (Addr × Obj)} {σ : L2.St} {H : Hp} {s : Shared} {Q : VK} {us : List Value} {vs : List V} (M : L2.Mk X.K C g) (F : FnOk X.prog X.w X.K X.mg X.base (L2.CX X.prog X.w) k g fd ps sp) (hr : Room (k + 1) X.A) (hb : Binds X.K fd ps [])
    (hx : PassesAt (L2.CX X.prog X.w) X σ E) (I : Inv X pins σ H s) (r : Vals vs us) (h : ∀ x dx, H x = none → H dx = none → dx ≠ x → sp (.ref x :: vs) (upd (upd H dx (.own x)) x (.ins C dx [])) (fun v H2 => v = .non ∧ Q (.ref x) H2) E) :
    wpAny (model X.prog X.w) X.A (call (.ref C) us) (EP X pins σ Q) X.xe s := by
  have q := h (s.heap.objs.size + 1) s.heap.objs.size (I.hok.fresh (Nat.le_succ _)) (I.hok.fresh (Nat.le_refl _)) (Nat.ne_of_lt (Nat.lt_succ_self _))
  have J := Inv.made (C := C) I
  have r2 : Vals (V.ref (s.heap.objs.size + 1) :: vs) (Value.ref (s.heap.objs.size + 1) :: us) := .cons rfl r
  have len : (Value.ref (s.heap.objs.size + 1) :: us).length = ps.length := r2.length.symm.trans (F.len _ _ _ _ q)
  have bnd := hb _ (Value.ref (s.heap.objs.size + 1) :: us) J.kIn (by rw [List.append_nil]; exact len)
  rw [List.append_nil] at bnd
  refine wpAny_call (make_map (f := g) I.kIn M.makes M.init (beq_iff_eq.mp M.fn) (codeAny_mono (F.run _ X.stack _ _ ⟨Value.ref (s.heap.objs.size + 1) :: us, []⟩ _ _ _ E (hr.make C us []) (J.env0.make C us []) bnd r2 q) fun z s' y => ?_))
  cases z with
  | error e => exact hx pins _ _ e s' J y
  | ok fl =>
    cases fl with
    | ret u =>
      obtain ⟨v, H', J3, rv, ev, q3⟩ := J.after y
      subst ev
      exact ⟨rv, ⟨V.ref (s.heap.objs.size + 1), H', J3, rfl, q3⟩⟩
    | next | brk | cont => exact False.elim y
theorem pe_mkS {k : Nat} {x : Str} {C : Addr} {ps : List Str} {sp : Sp} {E : L2.St → XK} (M : Mkx X.prog X.w X.K X.mg X.base k x C ps sp) (hr : Room (k + 1) X.A) (hg : Gl X x) (hx : ∀ σ, PassesAt (L2.CX X.prog X.w) X σ (E σ)) (ha : PA X (e :: es) t)
    (hdb : (x == ("__debug__" : Str)) = false := by decide) (he : starEach (e :: es) X.env = (false, eval e X.env) :: starEach es X.env := by rfl) (hpl : (backTo pos (starEach es X.env)).any (·.1) = false := by rfl) : PE X (.Call (.Name x p) (e :: es) [] pos) (tMakeS C sp E t) := by
  obtain ⟨g, fd, M, F, hm, hb⟩ := M
  refine ⟨fun pins s σ H Q I h => ?_⟩
  refine wpAny_Call_Name_kw (ld_glob I hg hm ?_ hdb)
  exact PySem.W.callWith_K (h₀ := X.base) I.ok.mod.kin M.kp (thn (ha.run pos pins s σ H _ I h) fun us s1 ⟨vs, H1, I1, r, q⟩ => ⟨I1.kIn, run_makeS M F hr hb (hx σ) I1 r q⟩) he hpl
theorem pe_mkS0 {k : Nat} {x : Str} {C : Addr} {ps : List Str} {sp : Sp} (M : Mkx X.prog X.w X.K X.mg X.base k x C ps sp) (hr : Room (k + 1) X.A) (hg : Gl X x) (ha : PA X (e :: es) t)
    (hdb : (x == ("__debug__" : Str)) = false := by decide) (he : starEach (e :: es) X.env = (false, eval e X.env) :: starEach es X.env := by rfl) (hpl : (backTo pos (starEach es X.env)).any (·.1) = false := by rfl) : PE X (.Call (.Name x p) (e :: es) [] pos) (tMakeS C sp (fun _ => E0) t) :=
  pe_mkS M hr hg (fun σ pins H s e s' _ c => by
    obtain ⟨_, _, _, _, _, _, _, _, _, _, _, _, z⟩ := c
    exact z.elim) ha hdb he hpl
end
/-! the three fields of a net -/
structure NetD where
  p : List PyData
  c : List PyData
  r : List PyData
/-- the class Net as it stands in the module -/
structure NtC (K : PySem.W.Frag) (mg : Str → Option Value) (C : Addr) : Prop where
  g : mg "Net" = some (.ref C)
  c : Cls K C
  n1 : NoAttr K C "processes"
  n2 : NoAttr K C "channels"
  n3 : NoAttr K C "rules"
def NetAt (K : PySem.W.Frag) (C : Addr) (G : Hp) (a : Addr) (N : NetD) : Prop := ∃ dx v1 v2 v3, G a = some (.ins C dx [("processes", v1), ("channels", v2), ("rules", v3)]) ∧ Rp K G v1 (.tuple N.p) ∧ Rp K G v2 (.tuple N.c) ∧ Rp K G v3 (.tuple N.r)
theorem NetAt.mono {K : PySem.W.Frag} {C : Addr} {G G' : Hp} {a : Addr} {N : NetD} (e : Ex G G') (h : NetAt K C G a N) : NetAt K C G' a N := by
  obtain ⟨dx, v1, v2, v3, h, r1, r2, r3⟩ := h
  exact ⟨dx, v1, v2, v3, e _ _ h, r1.mono e, r2.mono e, r3.mono e⟩
section
variable {K : PySem.W.Frag} {mg : Str → Option Value} {σ : L2.St} {G H : Hp} {Q : VK} {D : Ends} {ta tv : TE} {t : TA} {C a : Addr} {N : NetD} {f : Str} {v : V}
theorem q_fld (h : ta σ H fun x H1 => rFld K f x H1 Q) : tFldA K f ta σ H Q := h
theorem q_fldP (nt : NtC K mg C) (h : NetAt K C G a N) (x : Ex G H) (q : ∀ v, Rp K G v (.tuple N.p) → Q v H) : rFld K "processes" (.ref a) H Q := by
  obtain ⟨dx, v1, v2, v3, h, r1, r2, r3⟩ := h
  exact ⟨a, C, dx, _, v1, rfl, x _ _ h, nt.c, nt.n1, rfl, q v1 r1⟩
theorem q_fldC (nt : NtC K mg C) (h : NetAt K C G a N) (x : Ex G H) (q : ∀ v, Rp K G v (.tuple N.c) → Q v H) : rFld K "channels" (.ref a) H Q := by
  obtain ⟨dx, v1, v2, v3, h, r1, r2, r3⟩ := h
  exact ⟨a, C, dx, _, v2, rfl, x _ _ h, nt.c, nt.n2, rfl, q v2 r2⟩
theorem q_fldR (nt : NtC K mg C) (h : NetAt K C G a N) (x : Ex G H) (q : ∀ v, Rp K G v (.tuple N.r) → Q v H) : rFld K "rules" (.ref a) H Q := by
  obtain ⟨dx, v1, v2, v3, h, r1, r2, r3⟩ := h
  exact ⟨a, C, dx, _, v3, rfl, x _ _ h, nt.c, nt.n3, rfl, q v3 r3⟩
theorem q_sfld (h : tv σ H fun y H1 => ta σ H1 fun x H2 => ∃ a C dx fs, x = .ref a ∧ H2 a = some (.ins C dx fs) ∧ Cls K C ∧ NoAttr K C f ∧ fs.length < 1000 ∧ D.nx σ (upd H2 a (.ins C dx (putF f y fs)))) : sFldA K f ta tv D σ H := h
theorem q_mkS {sp : Sp} {E : L2.St → XK} (h : t σ H fun vs H1 => ∀ x dx, H1 x = none → H1 dx = none → dx ≠ x → sp (.ref x :: vs) (upd (upd H1 dx (.own x)) x (.ins C dx [])) (fun v H2 => v = .non ∧ Q (.ref x) H2) (E σ)) : tMakeS C sp E t σ H Q := h
end
theorem mkx_of {P : Program} {w : World} {K : PySem.W.Frag} {mg : Str → Option Value} {base : Heap} {x q : Str} {st : Stmt} {C f : Addr} {fd : FuncData} {N ps : List Str} {k : Nat} {sp : Sp} (F : FunD K "__init__" q (defArgs st) (defBody st) (defScope st) [] [] f fd) (M : L2.Mk K C f) (hm : mg x = some (.ref C)) (S : FnScope N ps (defScope st))
    (hb : ∀ (dV kV doc pm : Value) (an : Option Addr) (cdv ct : Value) (us : List Value), us.length = ps.length → bindArgs (PySem.W.fnOf "__init__" q (defArgs st) (defBody st) (defScope st) .none kV doc pm an cdv ct) ⟨us, []⟩ = pure (ps.zip us)) (len : ∀ vs H Q E, sp vs H Q E → vs.length = ps.length)
    (body : ∀ (cdv : Value) (A : Around) (outer : List Env) (s : Shared) (H : Hp) (vs : List V) (Q : VK) (E : XK), Room k (A.deeper (envOfC q (defScope st) s.heap.objs.size f cdv)) → sp vs H Q E →
      ∃ t σ, PSs (cxOf (L2.CX P w) P w K mg base N q (defScope st) f cdv A outer s H E) (defBody st) t ∧ start N vs = σ ∧ t { nx := fun _ H' => Q .non H', rt := Q } σ H) : Mkx P w K mg base (k + 1) x C ps sp := by
  refine ⟨f, fd, M, FunD.ok F S len (fun cdv A outer s H vs Q E hr h => ?_), hm, ?_⟩
  · obtain ⟨t, σ, h1, rfl, h2⟩ := body cdv A outer s H vs Q E hr h
    exact ⟨t, h1, h2⟩
  · obtain ⟨oc, od, dV, kV, doc, pm, an, cdv, ct, osl, rfl, lk, hcd, hd, hk⟩ := F.ex
    rcases hd with ⟨_, rfl⟩ | ⟨z, _⟩
    · exact .all fun us hu => hb .none kV doc pm an cdv ct us hu
    · exact absurd rfl z
end Cw

set_option maxHeartbeats 4000000
/-! nets as plain data: what is_name, is_process, .. tell -/
namespace Cw
open PySem PySem.Spec PyProof.Rows L2
def atD (d : PyData) (i : Nat) : PyData := match items d with
  | some ds => ds.getD i .none
  | none => .none
theorem row1 {d : PyData} (h : isRow 1 d = true) : ∃ a, d = .list [a] ∨ d = .tuple [a] := by
  obtain ⟨ds, e, l⟩ := isRow_ex h
  match ds, l with
  | [a], _ => exact ⟨a, e⟩
  | [], l => simp at l
  | _ :: _ :: _, l => simp at l; omega
theorem row2 {d : PyData} (h : isRow 2 d = true) : ∃ a b, d = .list [a, b] ∨ d = .tuple [a, b] := by
  obtain ⟨ds, e, l⟩ := isRow_ex h
  match ds, l with
  | [a, b], _ => exact ⟨a, b, e⟩
  | [], l => simp at l
  | [_], l => simp at l
  | _ :: _ :: _ :: _, l => simp at l; omega
theorem row3 {d : PyData} (h : isRow 3 d = true) : ∃ a b c, d = .list [a, b, c] ∨ d = .tuple [a, b, c] := by
  obtain ⟨ds, e, l⟩ := isRow_ex h
  match ds, l with
  | [a, b, c], _ => exact ⟨a, b, c, e⟩
  | [], l => simp at l
  | [_], l => simp at l
  | [_, _], l => simp at l
  | _ :: _ :: _ :: _ :: _, l => simp at l; omega
theorem row4 {d : PyData} (h : isRow 4 d = true) : ∃ a b c e, d = .list [a, b, c, e] ∨ d = .tuple [a, b, c, e] := by
  obtain ⟨ds, e, l⟩ := isRow_ex h
  match ds, l with
  | [a, b, c, x], _ => exact ⟨a, b, c, x, e⟩
  | [], l => simp at l
  | [_], l => simp at l
  | [_, _], l => simp at l
  | [_, _, _], l => simp at l
  | _ :: _ :: _ :: _ :: _ :: _, l => simp at l; omega
abbrev Seq (d : PyData) (ds : List PyData) : Prop := d = .list ds ∨ d = .tuple ds
theorem Seq.items {d : PyData} {ds : List PyData} (e : Seq d ds) : items d = some ds := by rcases e with rfl | rfl <;> rfl
theorem Seq.at {d : PyData} {ds : List PyData} (e : Seq d ds) (i : Nat) : atD d i = ds.getD i .none := by
  unfold atD
  rw [e.items]
theorem Seq.isRow {d : PyData} {ds : List PyData} (e : Seq d ds) (n : Int) : isRow n d = decide ((ds.length : Int) = n) := by
  unfold Cw.isRow
  rw [e.items]
def lettersS : Str := "abcdefghijklmnopqrstuvwxyz"
def isLetter (c : Nat) : Bool := decide (c ∈ lettersS.cps.toList)
def isName : PyData → Bool
  | .str z => decide (1 ≤ z.length) && decide (z.length ≤ 6) && z.cps.toList.all isLetter
  | _ => false
def posD : PyData → Bool
  | .int i => decide (0 < i)
  | _ => false
def isProcess (d : PyData) : Bool := isRow 2 d && (isName (atD d 0) && (isBelow 9 (atD d 1) && posD (atD d 1)))
def strOf : PyData → Str
  | .str z => z
  | _ => Str.empty
def unlike (ds : List PyData) : Bool := decide ((ds.map fun d => strOf (atD d 0)).Nodup)
def areProcs (d : PyData) : Bool := match items d with
  | some ds => decide (1 ≤ ds.length) && decide (ds.length ≤ 5) && (ds.all isProcess && unlike ds)
  | none => false
def kindsD : List PyData := [.str "order", .str "loose", .str "order lossy", .str "loose lossy"]
def isChan (n : Nat) (d : PyData) : Bool := isRow 4 d && (isName (atD d 0) && (isBelow n (atD d 1) && (isBelow n (atD d 2) && (!PyData.eqv (atD d 1) (atD d 2) && kindsD.any fun k => PyData.eqv k (atD d 3)))))
def areChans (n : Nat) (d : PyData) : Bool := match items d with
  | some ds => decide (ds.length ≤ 8) && (ds.all (isChan n) && unlike ds)
  | none => false
def natD : PyData → Nat
  | .int i => i.toNat
  | _ => 0
/-- an act of the process p, the channels being cs -/
def isAct (cs : List PyData) (p : PyData) (d : PyData) : Bool :=
  if isRow 1 d then PyData.eqv (atD d 0) (.str "do")
  else if !isRow 3 d || !isBelow cs.length (atD d 1) || !isBelow 10 (atD d 2) then false
  else PyData.eqv (atD d 0) (.str "send") && PyData.eqv p (atD (cs.getD (natD (atD d 1)) .none) 1) || PyData.eqv (atD d 0) (.str "take") && PyData.eqv p (atD (cs.getD (natD (atD d 1)) .none) 2)
def isRule (ps cs : List PyData) (d : PyData) : Bool :=
  if !isRow 4 d || !isBelow ps.length (atD d 0) then false
  else match atD (ps.getD (natD (atD d 0)) .none) 1 with
    | .int s => isBelow s (atD d 1) && (isAct cs (atD d 0) (atD d 2) && isBelow s (atD d 3))
    | _ => false
def areRules (ps cs : List PyData) (d : PyData) : Bool := match items d with
  | some ds => decide (ds.length ≤ 40) && ds.all (isRule ps cs)
  | none => false
theorem below_int {n : Int} {d : PyData} (h : isBelow n d = true) : ∃ i : Int, d = .int i ∧ 0 ≤ i ∧ i < n := by
  cases d with
  | int i => exact ⟨i, rfl, of_decide_eq_true (bA h).1, of_decide_eq_true (bA h).2⟩
  | _ => cases h
theorem below_of {n i : Int} (h0 : 0 ≤ i) (h1 : i < n) : isBelow n (.int i) = true := by
  show (decide (0 ≤ i) && decide (i < n)) = true
  rw [decide_eq_true h0, decide_eq_true h1] <;> rfl
theorem name_str {d : PyData} (h : isName d = true) : ∃ z, d = .str z := by
  cases d with
  | str z => exact ⟨z, rfl⟩
  | _ => cases h
theorem isProcess_eq {d a b : PyData} (hs : Seq d [a, b]) : isProcess d = (isName a && (isBelow 9 b && posD b)) := by
  rcases hs with rfl | rfl <;> rfl
theorem isChan_eq {n : Nat} {d a b c e : PyData} (hs : Seq d [a, b, c, e]) : isChan n d = (isName a && (isBelow n b && (isBelow n c && (!PyData.eqv b c && kindsD.any fun k => PyData.eqv k e)))) := by
  rcases hs with rfl | rfl <;> rfl
theorem seq_of {d : PyData} (h : dSeq d = true) : ∃ ds, Seq d ds := by
  cases d with
  | list ds => exact ⟨ds, .inl rfl⟩
  | tuple ds => exact ⟨ds, .inr rfl⟩
  | _ => cases h
theorem seq_no {d : PyData} (h : dSeq d = false) : items d = none := by
  cases d with
  | list ds => cases h
  | tuple ds => cases h
  | _ => rfl
theorem isRow_no {n : Int} {d : PyData} (h : isRow n d = false) {ds : List PyData} (hs : Seq d ds) : (ds.length : Int) ≠ n := by
  rw [hs.isRow] at h
  exact of_decide_eq_false h
end Cw

set_option maxHeartbeats 4000000
/-! comprehensions over data, a value for each item -/
namespace Cw
open PySem PySem.Spec PyProof.Rows L2
section
variable {K : PySem.W.Frag} {σ : L2.St} {G H : Hp} {Q : VK} {ta : TE} {g : TG} {tt : TT} {te : TE} {ws : List Nat} {v : V} {d : PyData} {ds : List PyData}
/-- what one turn asks: C takes each value that keeps R -/
abbrev LcBody (g : TG) (tt : TT) (te : TE) (ws : List Nat) (σ : L2.St) (R : V → Hp → Prop) (u : V) (G' H' : Hp) : Prop :=
  ∀ (C : V → Hp → Prop) (N : Hp → Prop), (∀ y G2 H2, Gro none G' H' G2 H2 → R y G2 → C y H2) → g u (wipe σ ws) H' fun σ2 H2 => wipe σ2 ws = wipe σ ws ∧ tt σ2 H2 fun b H3 => if b = true then te σ2 H3 C else N H3
/-- what is left behind the last turn -/
abbrev LcDone (n : Nat) (R : Nat → V → Hp → Prop) (G H : Hp) (Q : VK) : Prop :=
  ∀ D ys G' H', Gro none G H G' H' → H' D = some (.lst ys) → G' D = none → H D = none → ys.length = n → (∀ i, i < n → ∃ y, ys[i]? = some y ∧ R i y G') → Q (.ref D) H'
/-- between two turns -/
def LcIn (R : Nat → V → Hp → Prop) (G H : Hp) (D : Addr) (i : Nat) (H' : Hp) : Prop :=
  ∃ G' acc, Gro none G H G' H' ∧ G' D = none ∧ H' D = some (.lst acc) ∧ acc.length = i ∧ ∀ j, j < i → ∃ y, acc[j]? = some y ∧ R j y G'
theorem LcIn.first {R : Nat → V → Hp → Prop} (x : Ex G H) {D : Addr} (hD : H D = none) : LcIn R G H D 0 (L2.upd H D (.lst [])) :=
  ⟨G, [], ⟨Ex.refl G, x.trans (Ex.new hD), fun a o _ h => Ex.new hD a o h, fun _ _ h => h⟩, x.back hD, upd_same, rfl, fun j h => by omega⟩
theorem LcIn.next {R : Nat → V → Hp → Prop} (mono : ∀ i y G1 G2, Ex G1 G2 → R i y G1 → R i y G2) {D : Addr} {i : Nat} {G' H' G2 H4 : Hp} {acc : List V} {y : V} (hD : H D = none) (gr : Gro none G H G' H') (gD : G' D = none) (hacc : H' D = some (.lst acc)) (hl : acc.length = i)
    (old : ∀ j, j < i → ∃ y, acc[j]? = some y ∧ R j y G') (g2 : Gro none G' H' G2 H4) (r : R i y G2) : LcIn R G H D (i + 1) (L2.upd H4 D (.lst (acc ++ [y]))) := by
  have gD2 : G2 D = none := g2.n D (by rw [hacc]; exact fun z => nomatch z) gD
  have t := gr.trans0 g2
  refine ⟨G2, acc ++ [y], ⟨t.g, Ex.mut t.w gD2, fun a o z h => ?_, t.n⟩, gD2, upd_same, by simp [hl], fun j hj => ?_⟩
  · rw [upd_ne (ne_of_none h hD)]
    exact t.k a o z h
  · by_cases e : j = i
    · subst e
      exact ⟨y, by simp [← hl], r⟩
    · obtain ⟨z, h1, h2⟩ := old j (by omega)
      refine ⟨z, ?_, mono _ _ _ _ g2.g h2⟩
      rw [List.getElem?_append_left (by omega)]
      exact h1
theorem LcIn.turn {R : Nat → V → Hp → Prop} (mono : ∀ i y G1 G2, Ex G1 G2 → R i y G1 → R i y G2) {D : Addr} {i n : Nat} {u : V} {H' : Hp} (hD : H D = none) (hi : i < n) (hn : n ≤ 1000000) (hI : LcIn R G H D i H')
    (body : ∀ G', Gro none G H G' H' → LcBody g tt te ws σ (R i) u G' H') : g u (wipe σ ws) H' fun σ2 H2 => wipe σ2 ws = wipe σ ws ∧ tt σ2 H2 fun b H3 => if b = true then te σ2 H3 fun y H4 => ∃ acc, H4 D = some (.lst acc) ∧ acc.length < sizeLine ∧ LcIn R G H D (i + 1) (L2.upd H4 D (.lst (acc ++ [y]))) else LcIn R G H D (i + 1) H3 := by
  obtain ⟨G', acc, gr, gD, hacc, hl, old⟩ := hI
  exact body G' gr _ _ fun y G2 H4 g2 r => ⟨acc, g2.ex _ _ hacc, line_lt (by omega), LcIn.next mono hD gr gD hacc hl old g2 r⟩
theorem q_lcDL {R : Nat → V → Hp → Prop} (hv : Rp K G v (.list ds)) (x : Ex G H) (hn : ds.length ≤ 1000000) (mono : ∀ i y G1 G2, Ex G1 G2 → R i y G1 → R i y G2)
    (body : ∀ i (hi : i < ds.length) u G' H', Gro none G H G' H' → Rp K G' u ds[i] → LcBody g tt te ws σ (R i) u G' H') (done : LcDone ds.length R G H Q) : kcLst K g tt te ws σ Q v H := by
  obtain ⟨a, vs, rfl, hS, hr⟩ := rp_lst hv
  refine q_lst_lc (.inl (.inl (x _ _ hS))) (fun D hD => ⟨LcIn R G H D, LcIn.first x hD, ?_, ?_, ?_⟩)
  · rintro i H' hi ⟨G', acc, gr, _⟩
    exact .inl (.inl (gr.w _ _ (gr.g _ _ hS)))
  · intro i u H' hu hI
    have hi : i < ds.length := by
      rw [← hr.len]
      exact (List.getElem?_eq_some_iff.mp hu).1
    obtain ⟨d', hd', ru⟩ := hr.at hu
    rw [List.getElem?_eq_getElem hi] at hd'
    cases hd'
    exact LcIn.turn mono hD hi hn hI fun G' gr => body i hi u G' H' gr (ru.mono gr.g)
  · rintro H' ⟨G', acc, gr, gD, hacc, hl, old⟩
    rw [hr.len] at hl old
    exact done D acc G' H' gr hacc gD hD hl old
theorem q_lcDT {R : Nat → V → Hp → Prop} (hv : Rp K G v (.tuple ds)) (x : Ex G H) (hn : ds.length ≤ 1000000) (mono : ∀ i y G1 G2, Ex G1 G2 → R i y G1 → R i y G2)
    (body : ∀ i (hi : i < ds.length) u G' H', Gro none G H G' H' → Rp K G' u ds[i] → LcBody g tt te ws σ (R i) u G' H') (done : LcDone ds.length R G H Q) : kcTup K g tt te ws σ Q v H := by
  obtain ⟨a, vs, rfl, hS, hr⟩ := rp_tup hv
  have hT := x.st hS
  refine ⟨a, rfl, ⟨vs, hT⟩, fun D hD => ?_⟩
  refine lc_it (walk_tup (K := K) (a := a) (xs := vs)) (LcIn R G H D) (LcIn.first x hD) ?_ ?_ ?_
  · rintro i H' hi ⟨G', acc, gr, _⟩
    exact gr.w.st (gr.g.st hS)
  · rintro i u H1 H' hi hI ⟨rfl, hu⟩
    have hi' : i < ds.length := by
      rw [← hr.len]
      exact hi
    obtain ⟨d', hd', ru⟩ := hr.at hu
    rw [List.getElem?_eq_getElem hi'] at hd'
    cases hd'
    exact LcIn.turn mono hD hi' hn hI fun G' gr => body i hi' u G' _ gr (ru.mono gr.g)
  · rintro H' ⟨G', acc, gr, gD, hacc, hl, old⟩
    rw [hr.len] at hl old
    exact done D acc G' H' gr hacc gD hD hl old
/-- .. over what a variable holds, a list or a tuple -/
theorem q_lcV {R : Nat → V → Hp → Prop} {k : Nat} (hk : σ[k]? = some (some v)) (hv : Rp K G v d) (hs : Seq d ds) (x : Ex G H) (hn : ds.length ≤ 1000000) (mono : ∀ i y G1 G2, Ex G1 G2 → R i y G1 → R i y G2)
    (body : ∀ i (hi : i < ds.length) u G' H', Gro none G H G' H' → Rp K G' u ds[i] → LcBody g tt te ws σ (R i) u G' H') (done : LcDone ds.length R G H Q) : tLc (iSeqA K (tVar k)) g tt te ws σ H Q := by
  rcases hs with rfl | rfl
  · exact q_lcL ⟨v, hk, q_lcDL hv x hn mono body done⟩
  · exact q_lcT ⟨v, hk, q_lcDT hv x hn mono body done⟩
/-- .. over the signs of a text -/
theorem q_lcS {R : Nat → V → Hp → Prop} {k : Nat} {z : Str} (hk : σ[k]? = some (some (.str z))) (x : Ex G H) (hn : z.length ≤ 1000000) (mono : ∀ i y G1 G2, Ex G1 G2 → R i y G1 → R i y G2)
    (body : ∀ i c G' H', z.cps[i]? = some c → Gro none G H G' H' → LcBody g tt te ws σ (R i) (.str ⟨#[c]⟩) G' H') (done : LcDone z.length R G H Q) : tLc (iSeqA K (tVar k)) g tt te ws σ H Q := by
  refine .inr (.inr ⟨.str z, hk, z, rfl, fun D hD => ?_⟩)
  refine lc_it (walk_str (z := z)) (LcIn R G H D) (LcIn.first x hD) (fun _ _ _ _ => True.intro) ?_ ?_
  · rintro i u H1 H' hi hI ⟨rfl, c, hc, rfl⟩
    exact LcIn.turn mono hD hi hn hI fun G' gr => body i c G' _ hc gr
  · rintro H' ⟨G', acc, gr, gD, hacc, hl, old⟩
    exact done D acc G' H' gr hacc gD hD hl old
/-! a list of truths -/
def optB {α : Type} (p : α → Bool) : Option α → Bool
  | some a => p a
  | none => false
def optS {α : Type} (f : α → Str) : Option α → Str
  | some a => f a
  | none => Str.empty

theorem bls_of {n : Nat} {ys : List V} {G' : Hp} {p : Nat → Bool} (hl : ys.length = n) (h : ∀ i, i < n → ∃ y, ys[i]? = some y ∧ (fun i y (_ : Hp) => y = V.bl (p i)) i y G') : ys = ((List.range n).map p).map V.bl := by
  apply List.ext_getElem?
  intro i
  by_cases hi : i < n
  · obtain ⟨y, h1, rfl⟩ := h i hi
    rw [h1]
    simp [hi]
  · rw [List.getElem?_eq_none (by omega), List.getElem?_eq_none (by simp; omega)]
theorem strs_of {α : Type} {ds : List α} {f : α → Str} {ys : List V} {G' : Hp} (hl : ys.length = ds.length) (h : ∀ i, i < ds.length → ∃ y, ys[i]? = some y ∧ (fun i y (_ : Hp) => y = V.str (optS f ds[i]?)) i y G') : ys = (ds.map f).map V.str := by
  apply List.ext_getElem?
  intro i
  by_cases hi : i < ds.length
  · obtain ⟨y, h1, h2⟩ := h i hi
    have e : y = V.str (optS f ds[i]?) := h2
    rw [List.getElem?_eq_getElem hi] at e
    rw [h1, e]
    simp [hi, optS]
  · rw [List.getElem?_eq_none (by omega), List.getElem?_eq_none (by simp; omega)]
theorem q_all {H : Hp} {bs : List Bool} {a : Addr} (h : H a = some (.lst (bs.map V.bl))) (q : Q (.bl (bs.all id)) H) : rAll K [.ref a] H Q := ⟨a, bs, rfl, .inl (.inl h), q⟩
theorem range_all {α : Type} (p : α → Bool) : ∀ ds : List α, (((List.range ds.length).map fun i => optB p ds[i]?).all id) = ds.all p := by
  intro ds
  rw [Bool.eq_iff_iff, List.all_eq_true, List.all_eq_true]
  constructor
  · intro h d hd
    obtain ⟨i, hi, e⟩ := List.getElem_of_mem hd
    have := h (p d) (List.mem_map.mpr ⟨i, List.mem_range.mpr hi, by rw [List.getElem?_eq_getElem hi, e] <;> rfl⟩)
    exact this
  · intro h b hb
    obtain ⟨i, hi, e⟩ := List.mem_map.mp hb
    have hi' := List.mem_range.mp hi
    rw [List.getElem?_eq_getElem hi'] at e
    rw [← e]
    exact h _ (List.getElem_mem hi')
end
end Cw

set_option maxHeartbeats 4000000
/-! unpacking and slices of rows -/
namespace Cw
open PySem PySem.Spec PyProof.Rows L2
section
variable {X : Cx} {K : PySem.W.Frag} {e : Expr} {t1 t2 : TG}
theorem pg_or (h1 : PG X e t1) (h2 : PG X e t2) : PG X e (fun v σ H Q => t1 v σ H Q ∨ t2 v σ H Q) := ⟨fun pins s σ H v u Q I r h => by
  rcases h with h | h
  · exact h1.run pins s σ H v u Q I r h
  · exact h2.run pins s σ H v u Q I r h⟩
def gSeqA (K : PySem.W.Frag) (n : Nat) (t : TGs) : TG := fun v σ H Q => gTup K n t v σ H Q ∨ gLst K n t v σ H Q
theorem pg_seqK {es : List Expr} {k : Nat} {t : TGs} {n : Nat} {pos : Pos} (h : X.K = K) (hc : X.calm = true) (hp : PGs X es t) (hn : (assignEach es X.env).length = n := by rfl) (hst : (assignEach es X.env).findIdx? (·.1) = none := by rfl) : PG X (.Tuple es k pos) (gSeqA K n t) :=
  h ▸ pg_or (pg_tup hc hp hn hst) (pg_lst hc hp hn hst)
end
section
variable {K : PySem.W.Frag} {σ : L2.St} {G H : Hp} {Q : VK} {v : V} {d : PyData} {ds : List PyData} {n : Nat} {t : TGs} {R : L2.St → Hp → Prop}
theorem q_intI {i : Int} {R : Int → Prop} (h : R i) : ∃ k, V.int i = .int k ∧ R k := ⟨i, rfl, h⟩
theorem rps_nil {vs : List V} (h : Rps K G vs []) : vs = [] := by
  cases h
  rfl
theorem rps_cons {vs : List V} (h : Rps K G vs (d :: ds)) : ∃ u us, vs = u :: us ∧ Rp K G u d ∧ Rps K G us ds := by
  cases h with
  | cons r1 r2 => exact ⟨_, _, rfl, r1, r2⟩
theorem rps4 {a b c e : PyData} {vs : List V} (h : Rps K G vs [a, b, c, e]) : ∃ v1 v2 v3 v4, vs = [v1, v2, v3, v4] ∧ Rp K G v1 a ∧ Rp K G v2 b ∧ Rp K G v3 c ∧ Rp K G v4 e := by
  obtain ⟨v1, _, rfl, r1, h⟩ := rps_cons h
  obtain ⟨v2, _, rfl, r2, h⟩ := rps_cons h
  obtain ⟨v3, _, rfl, r3, h⟩ := rps_cons h
  obtain ⟨v4, _, rfl, r4, h⟩ := rps_cons h
  obtain rfl := rps_nil h
  exact ⟨_, _, _, _, rfl, r1, r2, r3, r4⟩
theorem q_gSeq (hv : Rp K G v d) (hs : Seq d ds) (x : Ex G H) (hn : ds.length = n) (q : ∀ us, Rps K G us ds → t us σ H R) : gSeqA K n t v σ H R := by
  rcases hs with rfl | rfl
  · obtain ⟨a, vs, rfl, hS, hr⟩ := rp_lst hv
    exact .inr ⟨a, vs, rfl, .inl (.inl (x _ _ hS)), hr.len.trans hn, q vs hr⟩
  · obtain ⟨a, vs, rfl, hS, hr⟩ := rp_tup hv
    exact .inl ⟨a, vs, rfl, x.st hS, hr.len.trans hn, q vs hr⟩
theorem q_gcons {g : TG} {vs : List V} (h : g v σ H fun σ' H' => t vs σ' H' R) : gCons g t (v :: vs) σ H R := ⟨v, vs, rfl, h⟩
theorem q_gnil (h : R σ H) : gNil [] σ H R := ⟨rfl, h⟩
/-- row[1:3] of four -/
theorem q_sl13 {a b c e : PyData} (hv : Rp K G v d) (hs : Seq d [a, b, c, e]) (x : Ex G H) (q : ∀ G2 H2 p d2, Gro none G H G2 H2 → Rp K G2 (.ref p) d2 → Seq d2 [b, c] → Q (.ref p) H2) : rSlAny K v (some 1) (some 3) H Q := by
  rcases hs with rfl | rfl
  · obtain ⟨l, vs, rfl, hS, hr⟩ := rp_lst hv
    obtain ⟨v1, v2, v3, v4, rfl, r1, r2, r3, r4⟩ := rps4 hr
    refine .inl ⟨l, _, rfl, .inl (.inl (x _ _ hS)), fun p hp => ?_⟩
    exact q (L2.upd G p (.lst _)) _ p (.list [b, c]) (Gro.new x hp) (.lst upd_same (.cons (r2.mono (Ex.new (x.back hp))) (.cons (r3.mono (Ex.new (x.back hp))) .nil))) (.inl rfl)
  · obtain ⟨l, vs, rfl, hS, hr⟩ := rp_tup hv
    obtain ⟨v1, v2, v3, v4, rfl, r1, r2, r3, r4⟩ := rps4 hr
    refine .inr (.inl ⟨l, _, rfl, x.st hS, fun z => absurd z (by show ¬ ((1 : Nat) = 0 ∧ (3 : Nat) = 4); decide), fun _ p hp => ?_⟩)
    exact q (L2.upd G p (.tup _)) _ p (.tuple [b, c]) (Gro.new x hp) (.tup (.inl (.inl upd_same)) (.cons (r2.mono (Ex.new (x.back hp))) (.cons (r3.mono (Ex.new (x.back hp))) .nil))) (.inr rfl)
/-- tuple(row) -/
theorem q_tupRS (hv : Rp K G v d) (hs : Seq d ds) (x : Ex G H) (q : ∀ G2 H2 p, Gro none G H G2 H2 → Rp K G2 (.ref p) (.tuple ds) → Q (.ref p) H2) : rTupA K [v] H Q := by
  rcases hs with rfl | rfl
  · obtain ⟨l, vs, rfl, hS, hr⟩ := rp_lst hv
    exact ⟨l, vs, rfl, .inl ⟨.inl (.inl (x _ _ hS)), fun p hp => q (L2.upd G p (.tup vs)) _ p (Gro.new x hp) (.tup (.inl (.inl upd_same)) (hr.mono (Ex.new (x.back hp))))⟩⟩
  · obtain ⟨l, vs, rfl, hS, hr⟩ := rp_tup hv
    exact ⟨l, vs, rfl, .inr ⟨x.st hS, q G H l (Gro.refl x) (.tup hS hr)⟩⟩
/-- list(row) -/
theorem q_lstRS (hv : Rp K G v d) (hs : Seq d ds) (x : Ex G H) (q : ∀ vs p, Rps K G vs ds → H p = none → Q (.ref p) (L2.upd H p (.lst vs))) : rListA K [v] H Q := by
  rcases hs with rfl | rfl
  · obtain ⟨l, vs, rfl, hS, hr⟩ := rp_lst hv
    exact ⟨l, vs, rfl, .inl (.inl (.inl (x _ _ hS))), fun p hp => q vs p hr hp⟩
  · obtain ⟨l, vs, rfl, hS, hr⟩ := rp_tup hv
    exact ⟨l, vs, rfl, .inr (x.st hS), fun p hp => q vs p hr hp⟩
end
end Cw

set_option maxHeartbeats 4000000
/-! what the top leaves of classes of errors, beside the facts by names -/
namespace Cw
open PySem PySem.Spec PyProof.Rows L2
inductive Xf where
  | xc (x fld : Str)
  | exm (x y : Str) (b : Bool)
  | kit (x y : Str) (b : Bool)
  | kitT (x : Str) (T : String) (b : Bool)
  | tup (x : Str) (zs : List Str)
def Xf.ok (K : PySem.W.Frag) : Xf → Bool
  | .xc x f => xcB K (He.ga K x) (He.ma K (He.ga K x) "__init__") f
  | .exm x y b => decide (PySem.W.exmOne K (.ref (He.ga K x)) (.ref (He.ga K y)) = some b)
  | .kit x y b => decide (PySem.W.kitOne K (.ref (He.ga K x)) (.ref (He.ga K y)) = some b)
  | .kitT x T b => decide (PySem.W.kitOne K (.ref (He.ga K x)) (.type T) = some b)
  | .tup x zs => He.tupB K x (zs.map He.Dv.str)
abbrev AlX : Type := He.AlD × Bool
def obsX (fa : List He.Fa) (fn : List He.DefD) (xs : List Xf) (K : PySem.W.Frag) : AlX := (He.obsD fa fn K, xs.all fun x => x.ok K)
def obsXG (n : Nat) (fa : List He.Fa) (fn : List He.DefD) (xs : List Xf) (g : Addr → Option Obj) : AlX := obsX fa fn xs (He.frG g (He.asD g n))
def SaysX (fa : List He.Fa) (fn : List He.DefD) (xs : List Xf) (K : PySem.W.Frag) : Prop := obsX fa fn xs K = (He.valD fn, true)
def hookX (n : Nat) (fa : List He.Fa) (fn : List He.DefD) (xs : List Xf) : PySem.W.Hook where
  α := AlX
  obs := fun s => obsXG n fa fn xs s.heap.get?
  val := fun _ => (He.valD fn, true)
  says := fun _ h => ∃ K : PySem.W.Frag, K.In h ∧ SaysX fa fn xs K
  of := fun _ _ e => ⟨_, He.frG_in, e⟩
  keeps := fun _ _ _ ⟨K, hK, c⟩ k => ⟨K, PySem.W.Frag.In.keeps hK k, c⟩
theorem obsXG_eq {n : Nat} {fa : List He.Fa} {fn : List He.DefD} {xs : List Xf} {g : Addr → Option Obj} {s : Shared} (h : ∀ a, g a = s.heap.get? a) : obsXG n fa fn xs g = (hookX n fa fn xs).obs s := by
  have e : g = s.heap.get? := funext h
  rw [e] <;> rfl
section
variable {fa : List He.Fa} {fn : List He.DefD} {xs : List Xf} {K : PySem.W.Frag}
theorem SaysX.d (c : SaysX fa fn xs K) : He.SaysD fa fn K := congrArg (fun z : AlX => z.1) c
theorem SaysX.x (c : SaysX fa fn xs K) {x : Xf} (h : x ∈ xs) : x.ok K = true := List.all_eq_true.mp (congrArg (fun z : AlX => z.2) c) x h
theorem SaysX.f (c : SaysX fa fn xs K) {x : He.Fa} (h : x ∈ fa) : x.ok K = true := by
  obtain ⟨i, h1, h2⟩ := List.getElem_of_mem h
  exact c.d.fact i (by rw [List.getElem?_eq_getElem h1, h2])
end
/-- the first statement of a class's body -/
def clsInit (st : Stmt) (i : Nat) : Stmt := match st with
  | .ClassDef _ _ _ body _ _ _ _ _ _ _ => body.getD i (.Pass ⟨0, 0, 0, 0⟩)
  | _ => .Pass ⟨0, 0, 0, 0⟩
/-- the built-in names that are asked free -/
def bltNames : List Str := ["len", "range", "int", "str", "bool", "list", "tuple", "set", "dict", "isinstance", "all", "any", "enumerate", "zip", "min", "max", "sum", "sorted", "reversed", "Exception", "ValueError"]
theorem blt_of {mg : Str → Option Value} (h : ∀ x ∈ bltNames, mg x = none) : Blt mg := by
  constructor
  all_goals
    apply h
    decide
end Cw

set_option maxHeartbeats 4000000
/-! a net made of data -/
namespace Cw
open PySem PySem.Spec PyProof.Rows L2
def itemsD (d : PyData) : List PyData := (items d).getD []
/-- a row as a tuple -/
def rowT (d : PyData) : PyData := .tuple (itemsD d)
def ruleT (d : PyData) : PyData := .tuple [atD d 0, atD d 1, rowT (atD d 2), atD d 3]
theorem Seq.it {d : PyData} {ds : List PyData} (e : Seq d ds) : itemsD d = ds := by
  unfold itemsD
  rw [e.items] <;> rfl
def netOf (d1 d2 d3 : PyData) : NetD := ⟨(itemsD d1).map rowT, (itemsD d2).map rowT, (itemsD d3).map ruleT⟩
/-- the first of the three arguments that is wrong -/
def netBad (d1 d2 d3 : PyData) : Option Nat :=
  if areProcs d1 = false then some 0 else if areChans (itemsD d1).length d2 = false then some 1 else if areRules (itemsD d1) (itemsD d2) d3 = false then some 2 else none
theorem procs_seq {d : PyData} (h : areProcs d = true) : ∃ ds, Seq d ds ∧ ds.length ≤ 5 ∧ ds.all isProcess = true := by
  unfold areProcs at h
  cases e : items d with
  | none =>
    rw [e] at h
    cases h
  | some ds =>
    rw [e] at h
    obtain ⟨h1, h2⟩ := bA h
    refine ⟨ds, ?_, of_decide_eq_true (bA h1).2, (bA h2).1⟩
    cases d with
    | list xs => exact .inl (by cases e; rfl)
    | tuple xs => exact .inr (by cases e; rfl)
    | _ => cases e
theorem chans_seq {n : Nat} {d : PyData} (h : areChans n d = true) : ∃ ds, Seq d ds ∧ ds.length ≤ 8 ∧ ds.all (isChan n) = true := by
  unfold areChans at h
  cases e : items d with
  | none =>
    rw [e] at h
    cases h
  | some ds =>
    rw [e] at h
    obtain ⟨h1, h2⟩ := bA h
    refine ⟨ds, ?_, of_decide_eq_true h1, (bA h2).1⟩
    cases d with
    | list xs => exact .inl (by cases e; rfl)
    | tuple xs => exact .inr (by cases e; rfl)
    | _ => cases e
theorem rules_seq {ps cs : List PyData} {d : PyData} (h : areRules ps cs d = true) : ∃ ds, Seq d ds ∧ ds.length ≤ 40 ∧ ds.all (isRule ps cs) = true := by
  unfold areRules at h
  cases e : items d with
  | none =>
    rw [e] at h
    cases h
  | some ds =>
    rw [e] at h
    obtain ⟨h1, h2⟩ := bA h
    refine ⟨ds, ?_, of_decide_eq_true h1, h2⟩
    cases d with
    | list xs => exact .inl (by cases e; rfl)
    | tuple xs => exact .inr (by cases e; rfl)
    | _ => cases e
theorem rule_parts {ps cs : List PyData} {d : PyData} (h : isRule ps cs d = true) : isRow 4 d = true ∧ ∃ as, Seq (atD d 2) as := by
  unfold isRule at h
  by_cases z : (!isRow 4 d || !isBelow (ps.length) (atD d 0)) = true
  · rw [if_pos z] at h
    cases h
  · rw [if_neg z] at h
    have r4 : isRow 4 d = true := by
      cases y : isRow 4 d with
      | true => rfl
      | false => simp [y] at z
    refine ⟨r4, ?_⟩
    split at h
    · have h2 := (bA (bA h).2).1
      unfold isAct at h2
      by_cases y : isRow 1 (atD d 2) = true
      · obtain ⟨as, e, _⟩ := isRow_ex y
        exact ⟨as, e⟩
      · rw [if_neg y] at h2
        by_cases x : isRow 3 (atD d 2) = true
        · obtain ⟨as, e, _⟩ := isRow_ex x
          exact ⟨as, e⟩
        · have x' : isRow 3 (atD d 2) = false := by simpa using x
          rw [x'] at h2
          simp at h2
    · cases h
section
variable {K : PySem.W.Frag} {σ : L2.St} {G H : Hp} {Q : VK} {v : V} {d : PyData} {ds : List PyData}
def optD {α : Type} (f : α → PyData) : Option α → PyData
  | some a => f a
  | none => .none
theorem rps_of {α : Type} {f : α → PyData} : ∀ {xs : List α} {ys : List V}, ys.length = xs.length → (∀ i, i < xs.length → ∃ y, ys[i]? = some y ∧ Rp K G y (optD f xs[i]?)) → Rps K G ys (xs.map f)
  | [], [], _, _ => .nil
  | [], _ :: _, h, _ => by simp at h
  | _ :: _, [], h, _ => by simp at h
  | x :: xs, y :: ys, h, k => by
    obtain ⟨y', h1, h2⟩ := k 0 (by simp)
    cases (show some y = some y' from h1)
    refine .cons h2 (rps_of (by simpa using h) fun i hi => ?_)
    obtain ⟨z, h3, h4⟩ := k (i + 1) (by simpa using hi)
    exact ⟨z, by simpa using h3, by simpa using h4⟩
theorem q_tupNew {D : Addr} {ys : List V} {es : List PyData} (hD : H D = some (.lst ys)) (x : Ex G H) (hr : Rps K G ys es) (q : ∀ G2 H2 p, Gro none G H G2 H2 → Rp K G2 (.ref p) (.tuple es) → Q (.ref p) H2) : rTupA K [.ref D] H Q :=
  ⟨D, ys, rfl, .inl ⟨.inl (.inl hD), fun p hp => q (L2.upd G p (.tup ys)) _ p (Gro.new x hp) (.tup (.inl (.inl upd_same)) (hr.mono (Ex.new (x.back hp))))⟩⟩
end
theorem Gro.put {a : Addr} {G H G' H' : Hp} {o : HO} (g : Gro (some a) G H G' H') (n : G' a = none) : Gro (some a) G H G' (L2.upd H' a o) :=
  ⟨g.g, Ex.mut g.w n, fun b u z h => by
    rw [upd_ne (fun e => z (by rw [e]))]
    exact g.k b u z h, g.n⟩
theorem Gro.then_ {a : Addr} {G H G1 H1 G2 H2 : Hp} (x : Gro (some a) G H G1 H1) (y : Gro none G1 H1 G2 H2) (h : H1 a ≠ none) : Gro (some a) G H G2 H2 := x.trans y.mono fun b e _ => by
  cases e
  exact h
theorem Gro.start {a : Addr} {G H H1 : Hp} (e : Ex G H) (k : Ex H H1) : Gro (some a) G H G H1 := (Gro.up e k).mono
/-- what a made net is -/
theorem net_at {K : PySem.W.Frag} {C a dx : Addr} {G' : Hp} {u1 u2 u3 : V} {N : NetD} (na : G' a = none) (r1 : Rp K G' u1 (.tuple N.p)) (r2 : Rp K G' u2 (.tuple N.c)) (r3 : Rp K G' u3 (.tuple N.r)) :
    NetAt K C (L2.upd G' a (.ins C dx [("processes", u1), ("channels", u2), ("rules", u3)])) a N :=
  ⟨dx, u1, u2, u3, upd_same, r1.mono (Ex.new na), r2.mono (Ex.new na), r3.mono (Ex.new na)⟩
/-- __init__ of a net -/
def sp_net (K : PySem.W.Frag) (C CB : Addr) : Sp := fun vs H Q E => ∃ (G : Hp) (a dx : Addr) (v1 v2 v3 : V) (d1 d2 d3 : PyData), vs = [.ref a, v1, v2, v3] ∧ Ex G H ∧ G a = none ∧ H a = some (.ins C dx []) ∧ Rp K G v1 d1 ∧ Shp d1 ∧ Rp K G v2 d2 ∧ Shp d2 ∧ Rp K G v3 d3 ∧ Shp d3 ∧
  (∀ (k : Nat) (H1 : Hp) (d : Addr), netBad d1 d2 d3 = some k → Ex H H1 → H1 d = none → E (.ref CB) (some d) (L2.upd H1 d (.xd [("at", .int k)]))) ∧
  (netBad d1 d2 d3 = none → ∀ G' H' u1 u2 u3, Gro (some a) G H G' H' → H' a = some (.ins C dx [("processes", u1), ("channels", u2), ("rules", u3)]) → Rp K G' u1 (.tuple (netOf d1 d2 d3).p) → Rp K G' u2 (.tuple (netOf d1 d2 d3).c) → Rp K G' u3 (.tuple (netOf d1 d2 d3).r) → Q .non H')
/-- Net(..) of three right ones -/
theorem q_net {K : PySem.W.Frag} {C CB : Addr} {G H : Hp} {Q : VK} {E : XK} {v1 v2 v3 : V} {d1 d2 d3 : PyData} (e : Ex G H) (h1 : Rp K G v1 d1) (s1 : Shp d1) (h2 : Rp K G v2 d2) (s2 : Shp d2) (h3 : Rp K G v3 d3) (s3 : Shp d3) (good : netBad d1 d2 d3 = none)
    (q : ∀ G' H' x, Gro none G H G' H' → NetAt K C G' x (netOf d1 d2 d3) → Q (.ref x) H') :
    ∀ x dx, H x = none → H dx = none → dx ≠ x → sp_net K C CB [.ref x, v1, v2, v3] (upd (upd H dx (.own x)) x (.ins C dx [])) (fun v H2 => v = .non ∧ Q (.ref x) H2) E := by
  intro x dx hx hdx ne
  have hx2 : upd H dx (.own x) x = none := by
    rw [upd_ne (Ne.symm ne)]
    exact hx
  have gx : G x = none := e.back hx
  refine ⟨G, x, dx, v1, v2, v3, d1, d2, d3, rfl, e.trans ((Ex.new hdx).trans (Ex.new hx2)), gx, upd_same, h1, s1, h2, s2, h3, s3, fun k H1 d z => ?_, fun _ G' H' u1 u2 u3 gr ha r1 r2 r3 => ⟨rfl, ?_⟩⟩
  · rw [good] at z
    cases z
  · have na : G' x = none := gr.n x (by rw [upd_same]; exact fun z => nomatch z) gx
    refine q (upd G' x (.ins C dx [("processes", u1), ("channels", u2), ("rules", u3)])) H' x ⟨gr.g.trans (Ex.new na), Ex.add gr.w ha, fun b o _ h => ?_, fun b hb gb => ?_⟩ (net_at na r1 r2 r3)
    · exact gr.k b o (fun z => by
        cases z
        rw [hx] at h
        cases h) (upd_old (upd_old h hdx) hx2)
    · have nb : b ≠ x := fun z => by
        rw [z] at hb
        exact hb hx
      rw [upd_ne nb]
      refine gr.n b (fun z => ?_) gb
      rw [upd_ne nb] at z
      cases y : H b with
      | none => exact hb y
      | some o =>
        rw [upd_old y hdx] at z
        cases z
end Cw

set_option maxHeartbeats 4000000
/-! tuple * 1, tuple * 0 -/
namespace Cw
open PySem PySem.Spec PyProof.Rows L2
theorem mul_one (l : Addr) (items : Array Value) (n : Nat) (dd : Option Addr) (sl : Array (Option Value)) (u : Tok) :
    Meets (Builtin.«tuple.__mul__» ⟨[.ref l, .int 1 u], []⟩) (fun _ R s => s.heap.get? l = some { cls := .type "tuple", dict := dd, data := .seq items n, slots := sl } ∧ R (.ok (.ret (Value.ref l))) s) :=
  .of_wp fun prog w A R s h => by
    obtain ⟨hp, g, d, tk, os⟩ := s
    obtain ⟨hl, h⟩ := h
    have f1 := AutoSeq1.idx_int
    wp_walk using wpAny_loadPart' hl
    exact ⟨_, rfl, h⟩
theorem mul_zero (l : Addr) (items : Array Value) (n : Nat) (dd : Option Addr) (sl : Array (Option Value)) (u : Tok) (c1 : items.isEmpty = false) :
    Meets (Builtin.«tuple.__mul__» ⟨[.ref l, .int 0 u], []⟩) (fun _ R s => s.heap.get? l = some { cls := .type "tuple", dict := dd, data := .seq items n, slots := sl } ∧
      R (.ok (.ret (Value.ref s.heap.objs.size))) { s with heap := s.heap.push { cls := Value.type "tuple", data := Data.seq #[] }, toks := s.toks }) :=
  .of_wp fun prog w A R s h => by
    obtain ⟨hp, g, d, tk, os⟩ := s
    obtain ⟨hl, h⟩ := h
    have f1 := AutoSeq1.idx_int
    have c2 : (items.isEmpty || (0 : Int) == 1) = false := by
      rw [c1] <;> rfl
    wp_walk using wpAny_loadPart' hl
    repeat (first
      | (refine wpAny_ite_false (decide_eq_false (by rw [c2]; exact Bool.false_ne_true)) ?_; wp_walk using wpAny_loadPart' hl)
      | (refine wpAny_ite_false (by rw [c1]; exact Bool.false_ne_true) ?_; wp_walk using wpAny_loadPart' hl))
    exact ⟨_, rfl, h⟩
/-- a tuple times 0 or 1 -/
def rRep01 (K : PySem.W.Frag) : R2 := fun x y H Q => ∃ l xs, x = .ref l ∧ SqT K H l xs ∧ xs ≠ [] ∧ ((y = .int 1 ∧ Q (.ref l) H) ∨ (y = .int 0 ∧ ∀ p, H p = none → Q (.ref p) (upd H p (.tup []))))
theorem op_rep01 {X : Cx} : OpR X (binaryOp .Mult) (rRep01 X.K) := by
  rintro pins s σ H x y v u Q I rx ry ⟨l, xs, rfl, hT, hne, h⟩
  cases rx
  obtain ⟨its, r, ⟨⟨cls, dd, data, sl⟩, ho, hc, n, hd⟩, hs⟩ := I.tuple hT
  simp only at hc hd
  subst hc hd
  have hi : its.toArray.isEmpty = false := by
    cases r with
    | nil => exact absurd rfl hne
    | cons _ _ => rfl
  rcases h with ⟨rfl, q⟩ | ⟨rfl, q⟩
  · obtain ⟨t, rfl⟩ := ry
    refine wpAny_binaryOp_repeat_ref (T := "tuple") (U := "int") (by decide) ⟨_, ho, rfl⟩ (fun s' => typeIs_int s' 1 t) noFill_tuple_mul F.fills_int_mul F.slot_int_rmul repeat_tuple F.slot_int_index.lookup
      (call_meets F.slot_int_rmul (typeIs_int s 1 t) F.entry_int_rmul (F.args_int_rmul_2 _ _) (int_rmul_tuple 1 t l its.toArray n dd sl)
        ⟨ho, rfl, ⟨_, ho, rfl⟩, call_meets F.slot_tuple_mul ⟨_, ho, rfl⟩ F.entry_tuple_mul (F.args_tuple_mul_2 _ _) (mul_one l its.toArray n dd sl t) ⟨ho, ?_⟩⟩)
    exact ⟨.ref l, H, I, rfl, q⟩
  · obtain ⟨t, rfl⟩ := ry
    refine wpAny_binaryOp_repeat_ref (T := "tuple") (U := "int") (by decide) ⟨_, ho, rfl⟩ (fun s' => typeIs_int s' 0 t) noFill_tuple_mul F.fills_int_mul F.slot_int_rmul repeat_tuple F.slot_int_index.lookup
      (call_meets F.slot_int_rmul (typeIs_int s 0 t) F.entry_int_rmul (F.args_int_rmul_2 _ _) (int_rmul_tuple 0 t l its.toArray n dd sl)
        ⟨ho, rfl, ⟨_, ho, rfl⟩, call_meets F.slot_tuple_mul ⟨_, ho, rfl⟩ F.entry_tuple_mul (F.args_tuple_mul_2 _ _) (mul_zero l its.toArray n dd sl t hi) ⟨ho, ?_⟩⟩)
    exact ⟨.ref s.heap.objs.size, _, I.laid (t' := s.toks) (o := .tup []) (fun b ob q => Heap.get?_push_of_some _ q) (Nat.le_refl _) ⟨Nat.zero_le _, [], .nil, IsTup.new _ _⟩, rfl, q _ (I.hok.fresh (Nat.le_refl _))⟩
def rMulB (K : PySem.W.Frag) : R2 := fun x y H Q => rMulA K x y H Q ∨ rRep01 K x y H Q
theorem op_mulB {X : Cx} {K : PySem.W.Frag} (h : X.K = K) : OpR X (binaryOp .Mult) (rMulB K) := h ▸ OpR.or op_mulA op_rep01
section
variable {K : PySem.W.Frag} {G H : Hp} {Q : VK} {i j : Int} {l : Addr} {d : PyData} {m : Nat}
theorem q_mulI (h : (-(2 ^ 64) < i ∧ i < 2 ^ 64) ∨ (-(2 ^ 64) < j ∧ j < 2 ^ 64)) (q : Q (.int (i * j)) H) : rMulB K (.int i) (.int j) H Q := .inl (q_mul h q)
/-- (d,) * m -/
theorem q_rep1 (hv : Rp K G (.ref l) (.tuple [d])) (x : Ex G H) (hm : m ≤ 1000) (q : ∀ G2 H2 p, Gro none G H G2 H2 → Rp K G2 (.ref p) (.tuple (List.replicate m d)) → Q (.ref p) H2) : rMulB K (.ref l) (.int (m : Nat)) H Q := by
  obtain ⟨a, vs, e, hS, hr⟩ := rp_tup hv
  cases e
  obtain ⟨v, _, rfl, r1, hr⟩ := rps_cons hr
  obtain rfl := rps_nil hr
  have hT := x.st hS
  match m, hm, q with
  | 0, _, q => exact .inr ⟨l, _, rfl, hT, by simp, .inr ⟨rfl, fun p hp => q (L2.upd G p (.tup [])) _ p (Gro.new x hp) (.tup (.inl (.inl upd_same)) .nil)⟩⟩
  | 1, _, q => exact .inr ⟨l, _, rfl, hT, by simp, .inl ⟨rfl, q G H l (Gro.refl x) hv⟩⟩
  | n + 2, hm, q =>
    refine .inl (.inr (.inr ⟨l, _, _, rfl, rfl, hT, by simp, by omega, by omega, by simp, fun p hp => ?_⟩))
    have e : (List.replicate (((n + 2 : Nat) : Int)).toNat [v]).flatten = List.replicate (n + 2) v := by
      rw [Int.toNat_natCast]
      generalize n + 2 = k
      induction k with
      | zero => rfl
      | succ k ih => rw [List.replicate_succ, List.flatten_cons, ih] <;> rfl
    rw [e]
    exact q (L2.upd G p (.tup (List.replicate (n + 2) v))) _ p (Gro.new x hp) (.tup (.inl (.inl upd_same)) (Rps.rep (r1.mono (Ex.new (x.back hp))) _))
end
/-! calls with keywords alone -/
/-- the keywords' values in the order of the parameters -/
def perm {α : Type} (p : List Nat) (l : List α) : List α := p.filterMap fun i => l[i]?
theorem vals_perm {zs : List V} {ws : List Value} (r : Vals zs ws) : ∀ p : List Nat, Vals (perm p zs) (perm p ws)
  | [] => .nil
  | i :: p => by
    have ih := vals_perm r p
    have hl := r.length
    unfold perm at ih ⊢
    by_cases hi : i < zs.length
    · have h1 : zs[i]? = some zs[i] := List.getElem?_eq_getElem hi
      obtain ⟨w, h2, h3⟩ := r.get h1
      rw [List.filterMap_cons, List.filterMap_cons, h1, h2]
      exact .cons h3 ih
    · rw [List.filterMap_cons, List.filterMap_cons, List.getElem?_eq_none (by omega), List.getElem?_eq_none (by omega)]
      exact ih
/-- a def that can be called with the keywords ks -/
def CalXK (P : Program) (w : World) (K : PySem.W.Frag) (mg : Str → Option Value) (base : Heap) (CX : CXT) (k : Nat) (x : Str) (ps ks : List Str) (p : List Nat) (sp : Sp) : Prop :=
  ∃ f fd, FnOk P w K mg base CX k f fd ps sp ∧ mg x = some (.ref f) ∧ PySem.W.keepIn K (.ref f) = true ∧ ∀ (s : Shared) (ws : List Value), ws.length = ks.length → BindsTo s fd ⟨[], ks.zip ws⟩ (ps.zip (perm p ws))
def tCallKw (n : Nat) (sp : Sp) (p : List Nat) (E : L2.St → XK) (tk : TA) : TE := fun σ H Q => tk σ H fun zs H1 => zs.length = n ∧ sp (perm p zs) H1 Q (E σ)
section
variable {P : Program} {w : World} {K : PySem.W.Frag} {mg : Str → Option Value} {base : Heap} {CX : CXT}
theorem cal_fn {x : Str} {st : Stmt} {f : Addr} {fd : FuncData} {ps : List Str} {k : Nat} {sp : Sp} (F : FnP K x st f fd) (hm : mg x = some (.ref f)) (ok : FnOk P w K mg base CX0 k f fd ps sp)
    (hb : ∀ (dV kV doc pm : Value) (an : Option Addr) (cdv ct : Value) (us : List Value), us.length = ps.length → bindArgs (PySem.W.fnOf x x (defArgs st) (defBody st) (defScope st) .none kV doc pm an cdv ct) ⟨us, []⟩ = pure (ps.zip us)) : Cal P w K mg base k x ps sp := by
  refine ⟨f, fd, ok, hm, F.kp, ?_⟩
  obtain ⟨oc, od, dV, kV, doc, pm, an, cdv, ct, osl, rfl, lk, hcd, hd, hk⟩ := F.ex
  rcases hd with ⟨_, rfl⟩ | ⟨z, _⟩
  · exact .all fun us hu => hb .none kV doc pm an cdv ct us hu
  · exact absurd rfl z
theorem calX_fn {x : Str} {st : Stmt} {f : Addr} {fd : FuncData} {ps : List Str} {k : Nat} {sp : Sp} (F : FnP K x st f fd) (hm : mg x = some (.ref f)) (ok : FnOk P w K mg base (L2.CX P w) k f fd ps sp)
    (hb : ∀ (dV kV doc pm : Value) (an : Option Addr) (cdv ct : Value) (us : List Value), us.length = ps.length → bindArgs (PySem.W.fnOf x x (defArgs st) (defBody st) (defScope st) .none kV doc pm an cdv ct) ⟨us, []⟩ = pure (ps.zip us)) : CalX P w K mg base k x ps sp := by
  refine ⟨f, fd, ok, hm, F.kp, ?_⟩
  obtain ⟨oc, od, dV, kV, doc, pm, an, cdv, ct, osl, rfl, lk, hcd, hd, hk⟩ := F.ex
  rcases hd with ⟨_, rfl⟩ | ⟨z, _⟩
  · exact .all fun us hu => hb .none kV doc pm an cdv ct us hu
  · exact absurd rfl z
theorem calK_fn {x : Str} {st : Stmt} {f : Addr} {fd : FuncData} {ps ks : List Str} {p : List Nat} {k : Nat} {sp : Sp} (F : FnP K x st f fd) (hm : mg x = some (.ref f)) (ok : FnOk P w K mg base CX k f fd ps sp)
    (hb : ∀ (dV kV doc pm : Value) (an : Option Addr) (cdv ct : Value) (ws : List Value), ws.length = ks.length → bindArgs (PySem.W.fnOf x x (defArgs st) (defBody st) (defScope st) .none kV doc pm an cdv ct) ⟨[], ks.zip ws⟩ = pure (ps.zip (perm p ws))) : CalXK P w K mg base CX k x ps ks p sp := by
  refine ⟨f, fd, ok, hm, F.kp, ?_⟩
  obtain ⟨oc, od, dV, kV, doc, pm, an, cdv, ct, osl, rfl, lk, hcd, hd, hk⟩ := F.ex
  rcases hd with ⟨_, rfl⟩ | ⟨z, _⟩
  · exact fun s ws hw => .of_eq (hb .none kV doc pm an cdv ct ws hw)
  · exact absurd rfl z
theorem fnokX_of {x : Str} {st : Stmt} {f : Addr} {fd : FuncData} {N ps : List Str} {k : Nat} {sp : Sp} (F : FnP K x st f fd) (S : FnScope N ps (defScope st)) (len : ∀ vs H Q E, sp vs H Q E → vs.length = ps.length)
    (body : ∀ (cdv : Value) (A : Around) (outer : List Env) (s : Shared) (H : Hp) (vs : List V) (Q : VK) (E : XK), Room k (A.deeper (envOfC x (defScope st) s.heap.objs.size f cdv)) → sp vs H Q E →
      ∃ t σ, PSs (cxOf (L2.CX P w) P w K mg base N x (defScope st) f cdv A outer s H E) (defBody st) t ∧ start N vs = σ ∧ t { nx := fun _ H' => Q .non H', rt := Q } σ H) : FnOk P w K mg base (L2.CX P w) (k + 1) f fd ps sp :=
  FunD.ok F S len (fun cdv A outer s H vs Q E hr h => by
    obtain ⟨t, σ, h1, rfl, h2⟩ := body cdv A outer s H vs Q E hr h
    exact ⟨t, h1, h2⟩)
end
section
variable {X : Cx} {k : Nat} {x : Str} {ps ks : List Str} {pm : List Nat} {sp : Sp} {kws : List Keyword} {tk : TA} {p pos : Pos} {CX : CXT}
theorem pe_kwS {E : L2.St → XK} (C : CalXK X.prog X.w X.K X.mg X.base CX k x ps ks pm sp) (hr : Room k X.A) (hg : Gl X x) (hx : ∀ σ, PassesAt CX X σ (E σ)) (hkw : PK X kws tk) (hall : (backToKw pos (keywordEach kws X.env)).all (·.1.isSome) = true := by rfl) (hks : (backToKw pos (keywordEach kws X.env)).filterMap (·.1) = ks := by rfl)
    (hdb : (x == ("__debug__" : Str)) = false := by decide) (hpl : ((backTo pos (starEach [] X.env)).any (·.1) || (backToKw pos (keywordEach kws X.env)).any (·.1.isNone)) = false := by rfl) : PE X (.Call (.Name x p) [] kws pos) (tCallKw ks.length sp pm E tk) := by
  obtain ⟨f, fd, F, hm, hk, hb⟩ := C
  refine ⟨fun pins s σ H Q I h => ?_⟩
  refine wpAny_Call_Name_kw (ld_glob I hg hm ?_ hdb)
  refine PySem.W.callWith_KW0 (h₀ := X.base) I.ok.mod.kin hk hall (thn (hkw.run pos pins s σ H _ I h) fun ws s1 ⟨zs, H1, I1, r, hl, q⟩ => ⟨I1.kIn, ?_⟩) hpl
  rw [hks]
  refine wpAny_call (codeAny_mono (F.run X.A X.stack s1 H1 ⟨[], ks.zip ws⟩ _ _ Q (E σ) hr I1.env0 (hb s1 ws (r.length.symm.trans hl)) (vals_perm r pm) q) fun z s' y => ?_)
  cases z with
  | error e => exact hx σ pins H1 s1 e s' I1 y
  | ok fl =>
    cases fl with
    | ret u => exact I1.after y
    | next | brk | cont => exact False.elim y
theorem q_kw {n : Nat} {E : L2.St → XK} {σ : L2.St} {H : Hp} {Q : VK} (h : tk σ H fun zs H1 => zs.length = n ∧ sp (perm pm zs) H1 Q (E σ)) : tCallKw n sp pm E tk σ H Q := h
end
theorem px0 {X : Cx} : ∀ σ, PassesAt CX0 X σ ((fun _ => E0) σ) := fun σ pins H s e s' _ c => (show False from c).elim
theorem pxL {X : Cx} : ∀ σ, PassesAt (L2.CX X.prog X.w) X σ ((fun _ => E0) σ) := fun σ pins H s e s' _ c => by
  obtain ⟨_, _, _, _, _, _, _, _, _, _, _, _, z⟩ := c
  exact z.elim
/-! what a net's start is, whose a deed is -/
def startD (N : NetD) : PyData := .tuple [.tuple (List.replicate N.p.length (.int 0)), .tuple (List.replicate N.c.length (.int 0)), .tuple (List.replicate N.c.length (.tuple []))]
/-- rows as a made net keeps them -/
structure NOk (N : NetD) : Prop where
  r : ∀ x ∈ N.r, ∃ (p s : Int) (wd : Str) (as : List PyData) (t : Int), x = .tuple [.int p, .int s, .tuple (.str wd :: as), .int t]
  c : ∀ x ∈ N.c, ∃ (z : Str) (g t : Int) (k : Str), x = .tuple [.str z, .int g, .int t, .str k]
  lp : N.p.length ≤ 5
  lc : N.c.length ≤ 8
  lr : N.r.length ≤ 40
  sp : Shp (.tuple N.p)
  sc : Shp (.tuple N.c)
  sr : Shp (.tuple N.r)
def ruleAt (N : NetD) (i : Int) : PyData := N.r.getD i.toNat .none
def chanAt (N : NetD) (i : Int) : PyData := N.c.getD i.toNat .none
def wordD (N : NetD) (d : PyData) : PyData := if isBelow N.r.length d then atD (atD (ruleAt N (natD d)) 2) 0 else .none
def isDeedD (N : NetD) (d : PyData) : Bool :=
  if isRow 2 d then PyData.eqv (atD d 0) (.str "act") && [PyData.str "do", .str "send"].any fun k => PyData.eqv k (wordD N (atD d 1))
  else if !isRow 3 d || !isNum (atD d 2) then false
  else if PyData.eqv (atD d 0) (.str "take") then PyData.eqv (wordD N (atD d 1)) (.str "take")
  else PyData.eqv (atD d 0) (.str "lose") && (isBelow N.c.length (atD d 1) && [PyData.str "order lossy", .str "loose lossy"].any fun k => PyData.eqv k (atD (chanAt N (natD (atD d 1))) 3))
def ownerD (N : NetD) (d : PyData) : PyData := if PyData.eqv (atD d 0) (.str "lose") then atD (chanAt N (natD (atD d 1))) 2 else atD (ruleAt N (natD (atD d 1))) 0
end Cw

set_option maxHeartbeats 4000000
/-! deeds, whose they are -/
namespace Cw
open PySem PySem.Spec PyProof.Rows L2
theorem eqv_str {x : PyData} {z : Str} (h : PyData.eqv x (.str z) = true) : x = .str z := by
  cases x with
  | str y =>
    rw [PyData.eqv] at h
    rw [eq_of_beq h]
  | _ => rw [PyData.eqv] at h; cases h
theorem str_eqv (z : Str) : PyData.eqv (.str z) (.str z) = true := by
  rw [PyData.eqv]
  exact beq_self_eq_true z
theorem eqv_strs {y z : Str} : PyData.eqv (.str y) (.str z) = (y == z) := by rw [PyData.eqv]
theorem eqv_none {z : Str} : PyData.eqv (.str z) .none = false := by rw [PyData.eqv]
theorem word_below {N : NetD} {d : PyData} {z : Str} (h : wordD N d = .str z) : isBelow N.r.length d = true := by
  unfold wordD at h
  by_cases y : isBelow N.r.length d = true
  · exact y
  · rw [if_neg y] at h
    cases h
/-- what a deed is -/
theorem deed_is {N : NetD} {d : PyData} (h : isDeedD N d = true) :
    (∃ (x0 : PyData) (k : Nat) (r : List PyData), k < N.r.length ∧ Seq d (x0 :: .int k :: r) ∧ PyData.eqv x0 (.str "lose") = false) ∨ (∃ (x0 : PyData) (k : Nat) (r : List PyData), k < N.c.length ∧ Seq d (x0 :: .int k :: r) ∧ PyData.eqv x0 (.str "lose") = true) := by
  unfold isDeedD at h
  have fin : ∀ {x1 : PyData} {n : Nat}, isBelow n x1 = true → ∃ k : Nat, k < n ∧ x1 = .int k := fun {x1 n} hb => by
    obtain ⟨i, rfl, i0, i1⟩ := below_int hb
    obtain ⟨k, rfl⟩ := Int.eq_ofNat_of_zero_le i0
    exact ⟨k, by omega, rfl⟩
  by_cases r2 : isRow 2 d = true
  · rw [if_pos r2] at h
    obtain ⟨x0, x1, hs⟩ := row2 r2
    rw [show atD d 0 = x0 from Seq.at hs 0, show atD d 1 = x1 from Seq.at hs 1] at h
    obtain ⟨h1, h2⟩ := bA h
    obtain rfl := eqv_str h1
    have hb : isBelow N.r.length x1 = true := by
      cases y : isBelow N.r.length x1 with
      | true => rfl
      | false =>
        rw [wordD, y, if_neg Bool.false_ne_true] at h2
        simp [eqv_none] at h2
    obtain ⟨k, hk, rfl⟩ := fin hb
    exact .inl ⟨_, k, [], hk, hs, by decide +kernel⟩
  · rw [if_neg r2] at h
    by_cases z : (!isRow 3 d || !isNum (atD d 2)) = true
    · rw [if_pos z] at h
      cases h
    · rw [if_neg z] at h
      have r3 : isRow 3 d = true := by
        cases y : isRow 3 d with
        | true => rfl
        | false => simp [y] at z
      obtain ⟨x0, x1, x2, hs⟩ := row3 r3
      rw [show atD d 0 = x0 from Seq.at hs 0, show atD d 1 = x1 from Seq.at hs 1] at h
      by_cases t : PyData.eqv x0 (.str "take") = true
      · rw [if_pos t] at h
        obtain rfl := eqv_str t
        obtain ⟨k, hk, rfl⟩ := fin (word_below (eqv_str h))
        exact .inl ⟨_, k, [x2], hk, hs, by decide +kernel⟩
      · rw [if_neg t] at h
        obtain ⟨h1, h2⟩ := bA h
        obtain ⟨k, hk, rfl⟩ := fin (bA h2).1
        exact .inr ⟨x0, k, [x2], hk, hs, h1⟩
theorem erase_perm {α : Type} : ∀ {xs : List α} {k : Nat} {y : α}, xs[k]? = some y → List.Perm xs (y :: xs.eraseIdx k)
  | [], k, y, h => by simp at h
  | x :: xs, 0, y, h => by
    cases (show some x = some y from h)
    exact List.Perm.refl _
  | x :: xs, k + 1, y, h => by
    have ih := erase_perm (xs := xs) (k := k) (y := y) (by simpa using h)
    exact (List.Perm.cons x ih).trans (List.Perm.swap y x _)
theorem erase_map {α β : Type} (f : α → β) : ∀ (xs : List α) (k : Nat), (xs.map f).eraseIdx k = (xs.eraseIdx k).map f
  | [], k => by simp
  | x :: xs, 0 => rfl
  | x :: xs, k + 1 => by
    show f x :: (xs.map f).eraseIdx k = f x :: (xs.eraseIdx k).map f
    rw [erase_map f xs k]
theorem seqIx_nat {k n : Nat} (h : k < n) : seqIndex? (k : Int) n = some k := by
  unfold seqIndex?
  rw [if_neg (show ¬ ((k : Int) < 0) by omega)]
  show (if (decide (0 ≤ (k : Int)) && decide ((k : Int) < n)) = true then some (k : Int).toNat else none) = some k
  rw [decide_eq_true (by omega), decide_eq_true (by omega)] <;> rfl
theorem q_popAt {H : Hp} {Q : VK} {l : Addr} {xs : List V} {k : Nat} {y : V} (h : H l = some (.lst xs)) (hn : xs.length ≤ 1000000) (hk : xs[k]? = some y) (q : Q y (L2.upd H l (.lst (xs.eraseIdx k)))) : rPopA (.ref l) [.int (k : Nat)] H Q := by
  have hl := (List.getElem?_eq_some_iff.mp hk).1
  exact .inr ⟨l, xs, k, k, y, rfl, rfl, h, by omega, by omega, seqIx_nat hl, hk, q⟩
/-- [x, y][int(c)] -/
theorem q_ixIf {K : PySem.W.Frag} {H : Hp} {Q : VK} {p : Addr} {x y : V} {c : Bool} (h : H p = some (.lst [x, y])) (q : ∀ v, v = x ∨ v = y → Q v H) : rIx K (.ref p) (.int (if c = true then 1 else 0)) H Q := by
  cases c with
  | true => exact q_ixC h (v := y) rfl (q y (.inr rfl))
  | false => exact q_ixC h (v := x) rfl (q x (.inl rfl))
theorem mod_step {a m : Int} (h0 : 0 ≤ a) (h1 : a < 2 * m) : a % m = a ∨ a % m = a - m := by
  by_cases h : a < m
  · exact .inl (Int.emod_eq_of_lt h0 h)
  · refine .inr ?_
    rw [← Int.sub_emod_right]
    exact Int.emod_eq_of_lt (by omega) (by omega)
theorem Gro.mutb {b : Addr} {G H G' H1 H2 : Hp} (g : Gro (some b) G H G' H1) (m : Mut b H1 H2) (gb : G' b = none) : Gro (some b) G H G' H2 :=
  ⟨g.g, g.w.mu gb m, fun a o z h => m a o (fun e => z (by rw [e])) (g.k a o z h), g.n⟩
/-- a new object, known; H has changed at b since -/
theorem Gro.newb {b p : Addr} {G H G' H1 : Hp} {o : HO} (g : Gro (some b) G H G' H1) (hp : H1 p = none) (hHp : H p = none) : Gro (some b) G H (L2.upd G' p o) (L2.upd H1 p o) :=
  ⟨g.g.trans (Ex.new (g.w.back hp)), (Gro.new g.w hp).w, fun a u z h => upd_old (g.k a u z h) hp, fun a ha ga => by
    have na : a ≠ p := fun z => ha (by rw [z]; exact hHp)
    rw [upd_ne na]
    exact g.n a ha ga⟩
/-- what is new now was new at first: only b may have gone -/
theorem Gro.fresh {b p : Addr} {G H G' H1 : Hp} (g : Gro (some b) G H G' H1) (hp : H1 p = none) (nb : p ≠ b) : H p = none := by
  cases e : H p with
  | none => rfl
  | some o =>
    rw [g.k p o (fun z => nb (by cases z; rfl)) e] at hp
    cases hp
/-- a cell that is new since H and that G' does not know is changed -/
theorem Gro.cell {b l : Addr} {G H G' H1 : Hp} {o : HO} (g : Gro (some b) G H G' H1) (gl : G' l = none) (hl : H l = none) : Gro (some b) G H G' (L2.upd H1 l o) :=
  ⟨g.g, Ex.mut g.w gl, fun a u z h => upd_mu (g.k a u z h) (ne_of_none h hl), g.n⟩
/-- [c for c in range(n) if ..] -/
theorem q_lcRF {σ : L2.St} {G H : Hp} {Q : VK} {tt : TT} {ws : List Nat} {k : Nat} (n : Nat) (hn : n ≤ 1000000) (x : Ex G H) (R : Nat → Bool) (hw : ∀ v, wipe ((wipe σ ws).set k (some v)) ws = wipe σ ws) (hk : ∀ v, ((wipe σ ws).set k (some v))[k]? = some (some v))
    (body : ∀ i : Nat, i < n → ∀ G' H', Gro none G H G' H' → ∀ C : Bool → Hp → Prop, (∀ G2 H2, Gro none G' H' G2 H2 → C (R i) H2) → tt ((wipe σ ws).set k (some (.int (i : Nat)))) H' C)
    (done : ∀ D G' H', Gro none G H G' H' → G' D = none → H D = none → H' D = some (.lst (((List.range n).filter R).map fun i => V.int (i : Nat))) → Q (.ref D) H') : kcRng1 (gName k) tt (tVar k) ws σ Q [.int (n : Nat)] H := by
  refine q_rng_lc n hn (fun D hD => ⟨fun i H' => ∃ G', Gro none G H G' H' ∧ G' D = none ∧ H' D = some (.lst (((List.range i).filter R).map fun i => V.int (i : Nat))), ?_, ?_, ?_⟩)
  · exact ⟨G, ⟨Ex.refl G, x.trans (Ex.new hD), fun a o _ h => Ex.new hD a o h, fun _ _ h => h⟩, x.back hD, upd_same⟩
  · rintro i H' hi ⟨G', gr, gD, hl⟩
    refine ⟨hw _, ?_⟩
    refine body i hi G' H' gr _ fun G2 H2 g2 => ?_
    have gD2 : G2 D = none := g2.n D (by rw [hl]; exact fun z => nomatch z) gD
    have hl2 := g2.ex _ _ hl
    have t := gr.trans0 g2
    have er : (List.range (i + 1)).filter R = (List.range i).filter R ++ if R i = true then [i] else [] := by
      rw [List.range_succ, List.filter_append]
      by_cases z : R i = true <;> simp [z]
    cases hR : R i with
    | true =>
      refine iteT ⟨_, hk _, _, hl2, line_lt ?_, G2, ⟨t.g, Ex.mut t.w gD2, fun a o z h => ?_, t.n⟩, gD2, ?_⟩
      · rw [List.length_map]
        have := List.length_filter_le R (List.range i)
        rw [List.length_range] at this
        omega
      · rw [upd_ne (ne_of_none h hD)]
        exact t.k a o z h
      · rw [er, hR, if_pos rfl, List.map_append]
        exact upd_same
    | false =>
      refine iteF ⟨G2, t, gD2, ?_⟩
      rw [er, hR, if_neg Bool.false_ne_true, List.append_nil]
      exact hl2
  · rintro H' ⟨G', gr, gD, hl⟩
    exact done D G' H' gr gD hD hl
theorem eqv_int (x y : Int) : PyData.eqv (.int x) (.int y) = decide (x = y) := by
  rw [PyData.eqv]
  by_cases z : x = y <;> simp [z]
/-- whether the channel i begins or ends at p -/
def meB (cs : List PyData) (p : Nat) (i : Nat) : Bool := [atD (cs.getD i .none) 1, atD (cs.getD i .none) 2].any fun z => PyData.eqv z (.int p)
/-- a cell that changes no more is known -/
theorem Gro.know {b l : Addr} {G H G' H1 : Hp} {o : HO} (g : Gro (some b) G H G' H1) (gl : G' l = none) (hl : H l = none) (h : H1 l = some o) : Gro (some b) G H (L2.upd G' l o) H1 :=
  ⟨g.g.trans (Ex.new gl), Ex.add g.w h, g.k, fun a ha ga => by
    have na : a ≠ l := fun z => ha (by rw [z]; exact hl)
    rw [upd_ne na]
    exact g.n a ha ga⟩
theorem Gro.thenB {b : Addr} {G H G1 H1 G2 H2 : Hp} (x : Gro (some b) G H G1 H1) (y : Gro (some b) G1 H1 G2 H2) (h : H1 b ≠ none) : Gro (some b) G H G2 H2 := x.trans y fun a e _ => by
  cases e
  exact h
end Cw

set_option maxHeartbeats 4000000
/-! what the laws draw: nets -/
namespace Cw
open PySem PySem.Spec PyProof.Rows L2
/-- a drawn channel, one of m processes -/
def ChOk (pool : List Str) (m : Nat) (d : PyData) : Prop := ∃ (z : Str) (g t : Nat) (k : Str), d = .tuple [.str z, .int g, .int t, .str k] ∧ z ∈ pool ∧ g < m ∧ t < m ∧ g ≠ t ∧ k ∈ (["order", "loose", "order lossy", "loose lossy"] : List Str)
def poolC : List Str := ["c", "d", "p", "cc", "abcdef", "x", "to", "q", "wire"]
/-- a drawn process: its name, its states -/
def PrOk (pool : List Str) (d : PyData) : Prop := ∃ (z : Str) (s : Nat), d = .tuple [.str z, .int s] ∧ z ∈ pool ∧ 1 ≤ s ∧ s ≤ 8
/-- a drawn rule -/
def RuOk (ps cs : List PyData) (d : PyData) : Prop := ∃ (p s t : Nat) (a : PyData) (z : Str) (st : Nat), d = .tuple [.int p, .int s, a, .int t] ∧ ps[p]? = some (.tuple [.str z, .int st]) ∧ s < st ∧ t < st ∧
  (a = .tuple [.str "do"] ∨ ∃ (c k : Nat) (y : Str) (g tk : Nat) (kd : Str), cs[c]? = some (.tuple [.str y, .int g, .int tk, .str kd]) ∧ k < 10 ∧ ((a = .tuple [.str "send", .int c, .int k] ∧ g = p) ∨ (a = .tuple [.str "take", .int c, .int k] ∧ tk = p)))
def poolP : List Str := ["p", "q", "c", "ab", "abcdef", "z", "pp"]
def poolPx : List Str := poolP ++ (["r"] : List Str)
def poolCx : List Str := poolC ++ (["e", "f"] : List Str)
theorem PrOk.up {d : PyData} (h : PrOk poolP d) : PrOk poolPx d := by
  obtain ⟨z, s, e, hz, h1, h8⟩ := h
  exact ⟨z, s, e, List.mem_append_left _ hz, h1, h8⟩
theorem ChOk.up {m : Nat} {d : PyData} (h : ChOk poolC m d) : ChOk poolCx m d := by
  obtain ⟨z, g, t, k, e, hz, r⟩ := h
  exact ⟨z, g, t, k, e, List.mem_append_left _ hz, r⟩
/-- a drawn net -/
structure LNet (ps cs rs : List PyData) : Prop where
  p1 : 1 ≤ ps.length
  p5 : ps.length ≤ 5
  pk : ∀ p ∈ ps, PrOk poolPx p
  pn : (ps.map fun c => strOf (atD c 0)).Nodup
  c8 : cs.length ≤ 8
  ck : ∀ c ∈ cs, ChOk poolCx ps.length c
  cn : (cs.map fun c => strOf (atD c 0)).Nodup
  r40 : rs.length ≤ 40
  rk : ∀ r ∈ rs, RuOk ps cs r

theorem items_tup (ds : List PyData) : items (.tuple ds) = some ds := rfl
theorem PrOk.is {d : PyData} (h : PrOk poolPx d) : isProcess d = true := by
  obtain ⟨z, s, rfl, hz, h1, h8⟩ := h
  rw [isProcess_eq (.inr rfl), (show ∀ z ∈ poolPx, isName (.str z) = true by decide +kernel) z hz, below_of (by omega) (by omega)]
  show (true && (true && decide (0 < (s : Int)))) = true
  rw [decide_eq_true (by omega)] <;> rfl
theorem ChOk.is {m : Nat} {d : PyData} (h : ChOk poolCx m d) : isChan m d = true := by
  obtain ⟨z, g, t, k, rfl, hz, hg, ht, hgt, hk⟩ := h
  rw [isChan_eq (.inr rfl), (show ∀ z ∈ poolCx, isName (.str z) = true by decide +kernel) z hz, below_of (by omega) (by omega), below_of (by omega) (by omega), eqv_int, decide_eq_false (by omega),
    (show ∀ k ∈ (["order", "loose", "order lossy", "loose lossy"] : List Str), (kindsD.any fun x => PyData.eqv x (.str k)) = true by decide +kernel) k hk] <;> rfl
theorem RuOk.is {ps cs : List PyData} {d : PyData} (h : RuOk ps cs d) : isRule ps cs d = true := by
  obtain ⟨p, s, t, a, z, st, rfl, hp, hs, ht, ha⟩ := h
  have hpl := (List.getElem?_eq_some_iff.mp hp).1
  have e1 : ps.getD p .none = .tuple [.str z, .int st] := by rw [List.getD_eq_getElem?_getD, hp] <;> rfl
  have e0 : isRule ps cs (.tuple [.int p, .int s, a, .int t]) = if (!isRow 4 (.tuple [.int p, .int s, a, .int t]) || !isBelow ps.length (.int p)) = true then false else match atD (ps.getD p .none) 1 with | .int s' => isBelow s' (.int s) && (isAct cs (.int p) a && isBelow s' (.int t)) | _ => false := rfl
  rw [e0, below_of (by omega) (by omega), if_neg (by rw [show isRow 4 (.tuple [.int p, .int s, a, .int t]) = true from rfl]; decide), e1]
  show (isBelow (st : Int) (.int s) && (isAct cs (.int p) a && isBelow (st : Int) (.int t))) = true
  rw [below_of (by omega) (by omega), below_of (by omega) (by omega), Bool.true_and, Bool.and_true]
  rcases ha with rfl | ⟨c, k, y, g, tk, kd, hc, hk, ha⟩
  · rw [isAct, if_pos (show isRow 1 (.tuple [.str "do"]) = true from rfl)]
    exact str_eqv _
  · have hcl := (List.getElem?_eq_some_iff.mp hc).1
    have e2 : cs.getD c .none = .tuple [.str y, .int g, .int tk, .str kd] := by rw [List.getD_eq_getElem?_getD, hc] <;> rfl
    rcases ha with ⟨rfl, rfl⟩ | ⟨rfl, rfl⟩
    · have e3 : isAct cs (.int g) (.tuple [.str "send", .int c, .int k]) = if (!isBelow cs.length (.int c) || !isBelow 10 (.int k)) = true then false else PyData.eqv (.str "send") (.str "send") && PyData.eqv (.int g) (atD (cs.getD c .none) 1) || PyData.eqv (.str "send") (.str "take") && PyData.eqv (.int g) (atD (cs.getD c .none) 2) := rfl
      rw [e3, below_of (by omega) (by omega), below_of (by omega) (by omega), if_neg (by decide), e2, str_eqv]
      show (true && PyData.eqv (.int g) (.int g) || _) = true
      rw [eqv_int, decide_eq_true rfl] <;> rfl
    · have e3 : isAct cs (.int tk) (.tuple [.str "take", .int c, .int k]) = if (!isBelow cs.length (.int c) || !isBelow 10 (.int k)) = true then false else PyData.eqv (.str "take") (.str "send") && PyData.eqv (.int tk) (atD (cs.getD c .none) 1) || PyData.eqv (.str "take") (.str "take") && PyData.eqv (.int tk) (atD (cs.getD c .none) 2) := rfl
      rw [e3, below_of (by omega) (by omega), below_of (by omega) (by omega), if_neg (by decide), e2, str_eqv]
      show (_ || true && PyData.eqv (.int tk) (.int tk)) = true
      rw [eqv_int, decide_eq_true rfl] <;> simp
theorem LNet.good {ps cs rs : List PyData} (h : LNet ps cs rs) : netBad (.tuple ps) (.tuple cs) (.tuple rs) = none := by
  have a1 : areProcs (.tuple ps) = true := by
    show (decide (1 ≤ ps.length) && decide (ps.length ≤ 5) && (ps.all isProcess && decide ((ps.map fun d => strOf (atD d 0)).Nodup))) = true
    rw [decide_eq_true h.p1, decide_eq_true h.p5, decide_eq_true h.pn, List.all_eq_true.mpr fun d m => (h.pk d m).is] <;> rfl
  have a2 : areChans ps.length (.tuple cs) = true := by
    show (decide (cs.length ≤ 8) && (cs.all (isChan ps.length) && decide ((cs.map fun d => strOf (atD d 0)).Nodup))) = true
    rw [decide_eq_true h.c8, decide_eq_true h.cn, List.all_eq_true.mpr fun d m => (h.ck d m).is] <;> rfl
  have a3 : areRules ps cs (.tuple rs) = true := by
    show (decide (rs.length ≤ 40) && rs.all (isRule ps cs)) = true
    rw [decide_eq_true h.r40, List.all_eq_true.mpr fun d m => (h.rk d m).is] <;> rfl
  unfold netBad
  rw [a1, if_neg (by decide), show itemsD (.tuple ps) = ps from rfl, a2, if_neg (by decide), show itemsD (.tuple cs) = cs from rfl, a3, if_neg (by decide)]
theorem LNet.of {ps cs rs : List PyData} (h : LNet ps cs rs) : netOf (.tuple ps) (.tuple cs) (.tuple rs) = ⟨ps, cs, rs⟩ := by
  have m1 : ∀ (ds : List PyData) (f : PyData → PyData), (∀ d ∈ ds, f d = d) → ds.map f = ds := fun ds f k => by
    induction ds with
    | nil => rfl
    | cons d ds ih =>
      rw [List.map_cons, k d (List.mem_cons_self ..), ih fun e m => k e (List.mem_cons_of_mem _ m)]
  show (⟨ps.map rowT, cs.map rowT, rs.map ruleT⟩ : NetD) = _
  rw [m1 ps rowT fun d m => by
    obtain ⟨z, s, rfl, _⟩ := h.pk d m
    rfl, m1 cs rowT fun d m => by
    obtain ⟨z, g, t, k, rfl, _⟩ := h.ck d m
    rfl, m1 rs ruleT fun d m => by
    obtain ⟨p, s, t, a, z, st, rfl, _, _, _, ha⟩ := h.rk d m
    rcases ha with rfl | ⟨c, k, y, g, tk, kd, _, _, ⟨rfl, _⟩ | ⟨rfl, _⟩⟩ <;> rfl]
theorem okD_tup {n : Nat} {ds : List PyData} (h1 : ds.length ≤ 100000) (h2 : ∀ d ∈ ds, okD n d = true) : okD (n + 1) (.tuple ds) = true := by
  rw [okD, decide_eq_true h1, Bool.true_and, List.all_eq_true]
  exact h2
theorem okD_int (n : Nat) (i : Int) : okD n (.int i) = true := by rw [okD]
theorem okD_none (n : Nat) : okD n .none = true := by rw [okD]
theorem okD_str {n : Nat} {z : Str} (h : okD 0 (.str z) = true) : okD n (.str z) = true := okD_le h (Nat.zero_le n)
theorem PrOk.shp {d : PyData} (h : PrOk poolPx d) : okD 1 d = true := by
  obtain ⟨z, s, rfl, hz, _, _⟩ := h
  refine okD_tup (by simp) fun d hd => ?_
  simp only [List.mem_cons, List.mem_nil_iff, or_false] at hd
  rcases hd with rfl | rfl
  · exact (show ∀ z ∈ poolPx, okD 0 (.str z) = true by decide +kernel) z hz
  · exact okD_int _ _
theorem ChOk.shp {m : Nat} {d : PyData} (h : ChOk poolCx m d) : okD 1 d = true := by
  obtain ⟨z, g, t, k, rfl, hz, _, _, _, hk⟩ := h
  refine okD_tup (by simp) fun d hd => ?_
  simp only [List.mem_cons, List.mem_nil_iff, or_false] at hd
  rcases hd with rfl | rfl | rfl | rfl
  · exact (show ∀ z ∈ poolCx, okD 0 (.str z) = true by decide +kernel) z hz
  · exact okD_int _ _
  · exact okD_int _ _
  · exact (show ∀ z ∈ (["order", "loose", "order lossy", "loose lossy"] : List Str), okD 0 (.str z) = true by decide +kernel) k hk
theorem RuOk.shp {ps cs : List PyData} {d : PyData} (h : RuOk ps cs d) : okD 2 d = true := by
  obtain ⟨p, s, t, a, z, st, rfl, _, _, _, ha⟩ := h
  have sa : okD 1 a = true := by
    rcases ha with rfl | ⟨c, k, y, g, tk, kd, _, _, ⟨rfl, _⟩ | ⟨rfl, _⟩⟩
    · decide +kernel
    · refine okD_tup (by simp) fun d hd => ?_
      simp only [List.mem_cons, List.mem_nil_iff, or_false] at hd
      rcases hd with rfl | rfl | rfl
      · decide +kernel
      · exact okD_int _ _
      · exact okD_int _ _
    · refine okD_tup (by simp) fun d hd => ?_
      simp only [List.mem_cons, List.mem_nil_iff, or_false] at hd
      rcases hd with rfl | rfl | rfl
      · decide +kernel
      · exact okD_int _ _
      · exact okD_int _ _
  refine okD_tup (by simp) fun d hd => ?_
  simp only [List.mem_cons, List.mem_nil_iff, or_false] at hd
  rcases hd with rfl | rfl | rfl | rfl
  · exact okD_int _ _
  · exact okD_int _ _
  · exact sa
  · exact okD_int _ _
theorem LNet.okP {ps cs rs : List PyData} (h : LNet ps cs rs) : okD 2 (.tuple ps) = true := okD_tup (by have := h.p5; omega) fun d m => (h.pk d m).shp
theorem LNet.okC {ps cs rs : List PyData} (h : LNet ps cs rs) : okD 2 (.tuple cs) = true := okD_tup (by have := h.c8; omega) fun d m => (h.ck d m).shp
theorem LNet.okR {ps cs rs : List PyData} (h : LNet ps cs rs) : okD 3 (.tuple rs) = true := okD_tup (by have := h.r40; omega) fun d m => (h.rk d m).shp
theorem LNet.nok {ps cs rs : List PyData} (h : LNet ps cs rs) : NOk ⟨ps, cs, rs⟩ where
  r := fun x m => by
    obtain ⟨p, s, t, a, z, st, rfl, _, _, _, ha⟩ := h.rk x m
    rcases ha with rfl | ⟨c, k, y, g, tk, kd, _, _, ⟨rfl, _⟩ | ⟨rfl, _⟩⟩
    · exact ⟨p, s, _, _, t, rfl⟩
    · exact ⟨p, s, _, _, t, rfl⟩
    · exact ⟨p, s, _, _, t, rfl⟩
  c := fun x m => by
    obtain ⟨z, g, t, k, rfl, _⟩ := h.ck x m
    exact ⟨z, g, t, k, rfl⟩
  lp := h.p5
  lc := h.c8
  lr := h.r40
  sp := okD_le h.okP (by decide)
  sc := okD_le h.okC (by decide)
  sr := okD_le h.okR (by decide)
end Cw

set_option maxHeartbeats 4000000
/-! deeds as the laws read them -/
namespace Cw
open PySem PySem.Spec PyProof.Rows L2
/-- no truth value among the parts -/
def plainD (d : PyData) : Bool := (itemsD d).all fun x => !dBool x
def actsL : List PyData := [.str "act", .str "take", .str "lose"]
def formL : List PyData → Bool
  | x :: y :: r => dStr x && ((actsL.any fun z => PyData.eqv z x) && (decide (((x :: y :: r).length : Int) = 2 + if (!PyData.eqv x (.str "act")) = true then 1 else 0) && ((y :: r).all dInt && isNum ((y :: r).getD r.length .none))))
  | _ => false
def formD (d : PyData) : Bool := match items d with
  | some ds => formL ds
  | none => false
theorem last_at (x y : PyData) (r : List PyData) : atI (x :: y :: r) (((x :: y :: r).length : Int) - 1) = some ((y :: r).getD r.length .none) := by
  have e : ((x :: y :: r).length : Int) - 1 = ((r.length + 1 : Nat) : Int) := by
    simp only [List.length_cons]
    omega
  rw [e]
  have h : r.length < (y :: r).length := by simp
  refine atI_nat (j := r.length + 1) ?_
  show (y :: r)[r.length]? = _
  rw [List.getD_eq_getElem?_getD, List.getElem?_eq_getElem h] <;> rfl
theorem last_mem (y : PyData) (r : List PyData) : (y :: r).getD r.length .none ∈ (y :: r) := by
  have h : r.length < (y :: r).length := by simp
  rw [List.getD_eq_getElem?_getD, List.getElem?_eq_getElem h]
  exact List.getElem_mem h
theorem int_of {d : PyData} (h : dInt d = true) (h2 : dBool d = false) : ∃ i : Int, d = .int i := by
  cases d with
  | int i => exact ⟨i, rfl⟩
  | bool b => cases h2
  | _ => cases h
theorem str_of {d : PyData} (h : dStr d = true) : ∃ z : Str, d = .str z := by
  cases d with
  | str z => exact ⟨z, rfl⟩
  | _ => cases h
section
variable {K : PySem.W.Frag} {G H : Hp} {Q : VK} {v : V} {d : PyData} {x : PyData} {r : List PyData}
theorem six1 {vs : List V} (hl : vs.length = (x :: r).length) : HT.sIx vs.length 0 (some 1) = 1 := by
  rw [show (1 : Int) = ((1 : Nat) : Int) from rfl, HT.sIx_nat, hl, List.length_cons]
  omega
theorem cut1 {vs : List V} (hl : vs.length = (x :: r).length) : cutV vs (some 1) none = vs.drop 1 := by
  unfold cutV
  rw [six1 hl, HT.sIx_none]
  exact List.take_of_length_le (by rw [List.length_drop]; exact Nat.le_refl _)
/-- row[1:] -/
theorem q_sl1L (hv : Rp K G v (.list (x :: r))) (e : Ex G H) (q : ∀ G2 H2 p, Gro none G H G2 H2 → Rp K G2 (.ref p) (.list r) → Q (.ref p) H2) : rSlAny K v (some 1) none H Q := by
  obtain ⟨l, vs, rfl, hS, hr⟩ := rp_lst hv
  refine .inl ⟨l, vs, rfl, .inl (.inl (e _ _ hS)), fun p hp => ?_⟩
  rw [cut1 hr.len]
  exact q (L2.upd G p (.lst (vs.drop 1))) _ p (Gro.new e hp) (.lst upd_same ((hr.drop 1).mono (Ex.new (e.back hp))))
theorem q_sl1T (hv : Rp K G v (.tuple (x :: r))) (e : Ex G H) (q : ∀ G2 H2 p, Gro none G H G2 H2 → Rp K G2 (.ref p) (.tuple r) → Q (.ref p) H2) : rSlAny K v (some 1) none H Q := by
  obtain ⟨l, vs, rfl, hS, hr⟩ := rp_tup hv
  refine .inr (.inl ⟨l, vs, rfl, e.st hS, fun z => ?_, fun _ p hp => ?_⟩)
  · rw [six1 hr.len] at z
    exact absurd z.1 (by decide)
  · rw [cut1 hr.len]
    exact q (L2.upd G p (.tup (vs.drop 1))) _ p (Gro.new e hp) (.tup (.inl (.inl upd_same)) ((hr.drop 1).mono (Ex.new (e.back hp))))
end
/-- a test of data without truth values -/
def sp1p (K : PySem.W.Frag) (t : PyData → Bool) : Sp := fun vs H Q _ => ∃ (G : Hp) (v : V) (d : PyData), vs = [v] ∧ Ex G H ∧ Rp K G v d ∧ Shp d ∧ plainD d = true ∧ ∀ H', Ex H H' → Q (.bl (t d)) H'
theorem below_num {n : Int} {d : PyData} (h : isBelow n d = true) : dInt d = true ∧ isNum d = true := by
  obtain ⟨i, rfl, i0, _⟩ := below_int h
  exact ⟨rfl, decide_eq_true i0⟩
theorem num_int {d : PyData} (h : isNum d = true) : dInt d = true := by
  cases d with
  | int i => rfl
  | _ => cases h
theorem deed_form {N : NetD} {d : PyData} (h : isDeedD N d = true) : formD d = true := by
  unfold isDeedD at h
  by_cases r2 : isRow 2 d = true
  · rw [if_pos r2] at h
    obtain ⟨x0, x1, hs⟩ := row2 r2
    rw [show atD d 0 = x0 from Seq.at hs 0, show atD d 1 = x1 from Seq.at hs 1] at h
    obtain ⟨h1, h2⟩ := bA h
    obtain rfl := eqv_str h1
    have hb : isBelow N.r.length x1 = true := by
      cases y : isBelow N.r.length x1 with
      | true => rfl
      | false =>
        rw [wordD, y, if_neg Bool.false_ne_true] at h2
        simp [eqv_none] at h2
    obtain ⟨b1, b2⟩ := below_num hb
    rw [formD, Seq.items hs]
    show (dStr (.str "act") && ((actsL.any fun z => PyData.eqv z (.str "act")) && (decide ((([.str "act", x1] : List PyData).length : Int) = 2 + if (!PyData.eqv (.str "act") (.str "act")) = true then 1 else 0) && (([x1] : List PyData).all dInt && isNum x1)))) = true
    rw [b2, show ([x1] : List PyData).all dInt = true by simp [b1], str_eqv, show (actsL.any fun z => PyData.eqv z (.str "act")) = true by decide +kernel]
    show (true && (true && (decide ((2 : Int) = 2 + if (!true) = true then 1 else 0) && (true && true)))) = true
    decide
  · rw [if_neg r2] at h
    by_cases z : (!isRow 3 d || !isNum (atD d 2)) = true
    · rw [if_pos z] at h
      cases h
    · rw [if_neg z] at h
      have r3 : isRow 3 d = true := by
        cases y : isRow 3 d with
        | true => rfl
        | false => simp [y] at z
      obtain ⟨x0, x1, x2, hs⟩ := row3 r3
      have n2 : isNum x2 = true := by
        rw [r3, show atD d 2 = x2 from Seq.at hs 2] at z
        simpa using z
      rw [show atD d 0 = x0 from Seq.at hs 0, show atD d 1 = x1 from Seq.at hs 1] at h
      have fin : ∀ w : Str, w = "take" ∨ w = "lose" → x0 = .str w → dInt x1 = true → formD d = true := fun w hw e b1 => by
        subst e
        rw [formD, Seq.items hs]
        show (dStr (.str w) && ((actsL.any fun z => PyData.eqv z (.str w)) && (decide ((([.str w, x1, x2] : List PyData).length : Int) = 2 + if (!PyData.eqv (.str w) (.str "act")) = true then 1 else 0) && (([x1, x2] : List PyData).all dInt && isNum x2)))) = true
        rw [n2, show ([x1, x2] : List PyData).all dInt = true by simp [b1, num_int n2]]
        have hA : (actsL.any fun z => PyData.eqv z (.str w)) = true := by rcases hw with rfl | rfl <;> decide +kernel
        have hB : PyData.eqv (.str w) (.str "act") = false := by rcases hw with rfl | rfl <;> decide +kernel
        rw [hA, hB]
        show (true && (true && (decide ((3 : Int) = 2 + if (!false) = true then 1 else 0) && (true && true)))) = true
        decide
      by_cases t : PyData.eqv x0 (.str "take") = true
      · rw [if_pos t] at h
        exact fin _ (.inl rfl) (eqv_str t) (below_num (word_below (eqv_str h))).1
      · rw [if_neg t] at h
        obtain ⟨h1, h2⟩ := bA h
        exact fin _ (.inr rfl) (eqv_str h1) (below_num (bA h2).1).1
/-- what the form tells -/
theorem form_is {d : PyData} (h : formD d = true) (hp : plainD d = true) : (∃ i : Int, 0 ≤ i ∧ Seq d [.str "act", .int i]) ∨ ∃ (w : Str) (i k : Int), (w = "take" ∨ w = "lose") ∧ 0 ≤ k ∧ Seq d [.str w, .int i, .int k] := by
  unfold formD at h
  cases e : items d with
  | none =>
    rw [e] at h
    cases h
  | some ds =>
    rw [e] at h
    have hs : Seq d ds := by
      cases d with
      | list xs => exact .inl (by cases e; rfl)
      | tuple xs => exact .inr (by cases e; rfl)
      | _ => cases e
    have pl : ∀ z ∈ ds, dBool z = false := fun z hz => by
      unfold plainD at hp
      rw [Seq.it hs] at hp
      simpa using List.all_eq_true.mp hp z hz
    match ds, h, hs, pl with
    | [], h, _, _ => cases h
    | [_], h, _, _ => cases h
    | x :: y :: r, h, hs, pl =>
      obtain ⟨h1, h⟩ := bA (show (dStr x && ((actsL.any fun z => PyData.eqv z x) && (decide (((x :: y :: r).length : Int) = 2 + if (!PyData.eqv x (.str "act")) = true then 1 else 0) && ((y :: r).all dInt && isNum ((y :: r).getD r.length .none))))) = true from h)
      obtain ⟨h2, h⟩ := bA h
      obtain ⟨h3, h⟩ := bA h
      obtain ⟨h4, h5⟩ := bA h
      obtain ⟨w, rfl⟩ := str_of h1
      have hw : w = "act" ∨ w = "take" ∨ w = "lose" := by
        simp only [actsL, List.any_cons, List.any_nil, Bool.or_false, Bool.or_eq_true, eqv_strs, beq_iff_eq] at h2
        rcases h2 with h | h | h
        · exact .inl h.symm
        · exact .inr (.inl h.symm)
        · exact .inr (.inr h.symm)
      have hl := of_decide_eq_true h3
      have ai := List.all_eq_true.mp h4
      obtain ⟨i, rfl⟩ := int_of (ai y (by simp)) (pl y (by simp))
      rcases hw with rfl | hw
      · rw [str_eqv, if_neg (by decide)] at hl
        match r, hl, h5, hs with
        | [], _, h5, hs => exact .inl ⟨i, of_decide_eq_true h5, hs⟩
        | _ :: _, hl, _, _ => simp at hl; omega
      · have ne : PyData.eqv (.str w) (.str "act") = false := by rcases hw with rfl | rfl <;> decide +kernel
        rw [ne, if_pos (by decide)] at hl
        match r, hl, h5, hs, ai, pl with
        | [], hl, _, _, _, _ => simp at hl
        | [t], _, h5, hs, ai, pl =>
          obtain ⟨k, rfl⟩ := int_of (ai t (by simp)) (pl t (by simp))
          exact .inr ⟨w, i, k, hw, of_decide_eq_true h5, hs⟩
        | _ :: _ :: _, hl, _, _, _, _ => simp at hl; omega
def dueD (N : NetD) (d : PyData) : PyData := if isDeedD N d then .tuple [.str "told", ownerD N d] else .tuple [.str "step", .int 0]
theorem LNet.word {ps cs rs : List PyData} (h : LNet ps cs rs) {k : Nat} (hk : k < rs.length) : ∃ (p s t : Int) (wd : Str) (as : List PyData), rs[k] = .tuple [.int p, .int s, .tuple (.str wd :: as), .int t] ∧ (wd = "do" ∨ wd = "send" ∨ wd = "take") := by
  obtain ⟨p, s, t, a, z, st, e, _, _, _, ha⟩ := h.rk _ (List.getElem_mem hk)
  rcases ha with rfl | ⟨c, k, y, g, tk, kd, _, _, ⟨rfl, _⟩ | ⟨rfl, _⟩⟩
  · exact ⟨p, s, t, _, _, e, .inl rfl⟩
  · exact ⟨p, s, t, _, _, e, .inr (.inl rfl)⟩
  · exact ⟨p, s, t, _, _, e, .inr (.inr rfl)⟩
theorem word_at {ps cs rs : List PyData} {k : Nat} (hk : k < rs.length) {p s t : PyData} {wd : Str} {as : List PyData} (e : rs[k] = .tuple [p, s, .tuple (.str wd :: as), t]) : wordD ⟨ps, cs, rs⟩ (.int k) = .str wd := by
  rw [wordD, below_of (by omega) (by show (k : Int) < rs.length; omega), if_pos rfl]
  show atD (atD (rs.getD k .none) 2) 0 = _
  rw [List.getD_eq_getElem?_getD, List.getElem?_eq_getElem hk]
  show atD (atD rs[k] 2) 0 = _
  rw [e] <;> rfl
theorem word_out {ps cs rs : List PyData} {i : Int} (h : i < 0 ∨ (rs.length : Int) ≤ i) : wordD ⟨ps, cs, rs⟩ (.int i) = .none := by
  have e : isBelow (rs.length : Nat) (.int i) = false := by
    show (decide (0 ≤ i) && decide (i < (rs.length : Int))) = false
    rcases h with h | h
    · rw [decide_eq_false (by omega)] <;> rfl
    · rw [decide_eq_false (show ¬ i < (rs.length : Int) by omega), Bool.and_false]
  rw [wordD, if_neg (by show ¬ isBelow (rs.length : Nat) (.int i) = true; rw [e]; decide)]
/-- an act, in numbers -/
theorem act_deed {N : NetD} {d : PyData} {i : Int} (hs : Seq d [.str "act", .int i]) : isDeedD N d = [PyData.str "do", .str "send"].any fun k => PyData.eqv k (wordD N (.int i)) := by
  have r2 : isRow 2 d = true := by rw [Seq.isRow hs] <;> rfl
  rw [isDeedD, r2, if_pos rfl, show atD d 0 = .str "act" from Seq.at hs 0, show atD d 1 = .int i from Seq.at hs 1, str_eqv, Bool.true_and]
theorem three_deed {N : NetD} {d : PyData} {w : Str} {i k : Int} (hk : 0 ≤ k) (hs : Seq d [.str w, .int i, .int k]) : isDeedD N d = if PyData.eqv (.str w) (.str "take") then PyData.eqv (wordD N (.int i)) (.str "take") else PyData.eqv (.str w) (.str "lose") && (isBelow N.c.length (.int i) && [PyData.str "order lossy", .str "loose lossy"].any fun z => PyData.eqv z (atD (chanAt N (natD (.int i))) 3)) := by
  have r2 : isRow 2 d = false := by rw [Seq.isRow hs] <;> rfl
  have r3 : isRow 3 d = true := by rw [Seq.isRow hs] <;> rfl
  rw [isDeedD, r2, if_neg (by decide), r3, show atD d 0 = .str w from Seq.at hs 0, show atD d 1 = .int i from Seq.at hs 1, show atD d 2 = .int k from Seq.at hs 2, show isNum (.int k) = true from decide_eq_true hk, if_neg (by decide)]
theorem due_is {N : NetD} (ok : NOk N) (d : PyData) : (∃ i : Int, dueD N d = .tuple [.str "told", .int i] ∧ isDeedD N d = true ∧ ownerD N d = .int i) ∨ dueD N d = .tuple [.str "step", .int 0] := by
  unfold dueD
  by_cases h : isDeedD N d = true
  · rw [if_pos h]
    rcases deed_is h with ⟨x0, k, r, hk, hs, hl⟩ | ⟨x0, k, r, hk, hs, hl⟩
    · obtain ⟨p, st, wd, as, t, er⟩ := ok.r _ (List.getElem_mem hk)
      have ev : ownerD N d = .int p := by
        rw [ownerD, show atD d 0 = x0 from Seq.at hs 0, show atD d 1 = .int k from Seq.at hs 1, hl, if_neg Bool.false_ne_true]
        show atD (N.r.getD k .none) 0 = _
        rw [List.getD_eq_getElem?_getD, List.getElem?_eq_getElem hk]
        show atD N.r[k] 0 = _
        rw [er] <;> rfl
      exact .inl ⟨p, by rw [ev], h, ev⟩
    · obtain ⟨z, gv, tk, kd, ec⟩ := ok.c _ (List.getElem_mem hk)
      have ev : ownerD N d = .int tk := by
        rw [ownerD, show atD d 0 = x0 from Seq.at hs 0, show atD d 1 = .int k from Seq.at hs 1, hl, if_pos rfl]
        show atD (N.c.getD k .none) 2 = _
        rw [List.getD_eq_getElem?_getD, List.getElem?_eq_getElem hk]
        show atD N.c[k] 2 = _
        rw [ec] <;> rfl
      exact .inl ⟨tk, by rw [ev], h, ev⟩
  · exact .inr (by rw [if_neg h])
theorem due_list (N : NetD) (ds : List PyData) : dueD N (.list ds) = dueD N (.tuple ds) := rfl
theorem shp_list {ds : List PyData} (h : Shp (.tuple ds)) : Shp (.list ds) := by
  unfold Shp
  have h1 := shp_len (.inr rfl) h
  unfold Shp at h
  rw [okD] at h
  have h2 := List.all_eq_true.mp (bA h).2
  rw [okD, decide_eq_true h1, Bool.true_and, List.all_eq_true]
  exact h2
end Cw

set_option maxHeartbeats 4000000
/-! a box of draws beside what is known; many new objects at once -/
namespace Cw
open PySem PySem.Spec PyProof.Rows L2
/-- the box stands, all else has grown -/
structure St (b : Addr) (G H G' H' : Hp) (us : List V) : Prop where
  gr : Gro (some b) G H G' H'
  gb : G' b = none
  hb : H' b = some (.lst us)
section
variable {b p : Addr} {G H G1 H1 G2 H2 : Hp} {us us2 : List V} {o : HO}
theorem St.ne (s : St b G H G1 H1 us) (hp : H1 p = none) : b ≠ p := ne_of_none s.hb hp
theorem St.nn (s : St b G H G1 H1 us) : H1 b ≠ none := by rw [s.hb]; exact fun z => nomatch z
theorem St.new (s : St b G H G1 H1 us) (hp : H1 p = none) : St b G H (L2.upd G1 p o) (L2.upd H1 p o) us :=
  ⟨s.gr.newb hp (s.gr.fresh hp (Ne.symm (s.ne hp))), by rw [upd_ne (s.ne hp)]; exact s.gb, upd_old s.hb hp⟩
theorem St.start (eG : Ex G H) (gb : G b = none) (hb : H b = some (.lst us)) : St b G H G H us := ⟨Gro.refl eG, gb, hb⟩
theorem St.put (s : St b G H G1 H1 us) : St b G H G1 (L2.upd H1 b (.lst us2)) us2 := ⟨s.gr.put s.gb, s.gb, upd_same⟩
theorem St.up (s : St b G H G1 H1 us) (e : Ex H1 H2) : St b G H G1 H2 us := ⟨s.gr.thenB (Gro.up s.gr.w e).mono s.nn, s.gb, e _ _ s.hb⟩
theorem St.gro (s : St b G H G1 H1 us) (g : Gro none G1 H1 G2 H2) : St b G H G2 H2 us := ⟨s.gr.then_ g s.nn, g.n b s.nn s.gb, g.ex _ _ s.hb⟩
theorem St.grob (s : St b G H G1 H1 us) (g : Gro (some b) G1 H1 G2 H2) (gb : G2 b = none) (hb : H2 b = some (.lst us2)) : St b G H G2 H2 us2 := ⟨s.gr.thenB g s.nn, gb, hb⟩
theorem St.w (s : St b G H G1 H1 us) : Ex G1 H1 := s.gr.w
theorem St.g (s : St b G H G1 H1 us) : Ex G G1 := s.gr.g
/-- objects laid, the last one first -/
inductive Lay (H : Hp) : List (Addr × HO) → Hp → Prop
  | nil : Lay H [] H
  | snoc {l : List (Addr × HO)} {H1 : Hp} {p : Addr} {o : HO} : Lay H l H1 → H1 p = none → Lay H ((p, o) :: l) (L2.upd H1 p o)
theorem Lay.ex {l : List (Addr × HO)} (y : Lay H l H1) : Ex H H1 := by
  induction y with
  | nil => exact Ex.refl _
  | snoc y hp ih => exact ih.trans (Ex.new hp)
theorem St.know (s : St b G H G1 H1 us) {l : List (Addr × HO)} (y : Lay H1 l H2) : ∃ G2, St b G H G2 H2 us ∧ Ex G1 G2 ∧ ∀ p o, (p, o) ∈ l → G2 p = some o := by
  induction y with
  | nil => exact ⟨G1, s, Ex.refl _, by simp⟩
  | snoc y hp ih =>
    obtain ⟨G2, s2, e2, k2⟩ := ih
    refine ⟨L2.upd G2 _ _, s2.new hp, e2.trans (Ex.new (s2.w.back hp)), fun p o h => ?_⟩
    rcases List.mem_cons.mp h with h | h
    · cases h
      exact upd_same
    · exact upd_old (k2 p o h) (s2.w.back hp)
theorem Lay.know {l : List (Addr × HO)} (y : Lay H1 l H2) (e : Ex G1 H1) : ∃ G2, Gro none G1 H1 G2 H2 ∧ ∀ p o, (p, o) ∈ l → G2 p = some o := by
  induction y with
  | nil => exact ⟨G1, Gro.refl e, by simp⟩
  | snoc y hp ih =>
    obtain ⟨G2, g2, k2⟩ := ih
    refine ⟨L2.upd G2 _ _, g2.trans0 (Gro.new g2.w hp), fun p o h => ?_⟩
    rcases List.mem_cons.mp h with h | h
    · cases h
      exact upd_same
    · exact upd_old (k2 p o h) (g2.w.back hp)
/-- .. up to where the last one is laid -/
theorem St.know2 (s : St b G H G1 H1 us) {l : List (Addr × HO)} (hp : H2 p = none) (y : Lay H1 l H2) (o : HO) : ∃ G2, St b G H G2 (L2.upd H2 p o) us ∧ Ex G1 G2 ∧ (∀ a u, (a, u) ∈ l → G2 a = some u) ∧ G2 p = some o := by
  obtain ⟨G2, s2, e2, k2⟩ := s.know y
  exact ⟨L2.upd G2 p o, s2.new hp, e2.trans (Ex.new (s2.w.back hp)), fun a u h => upd_old (k2 a u h) (s2.w.back hp), upd_same⟩
theorem Lay.know2 {l : List (Addr × HO)} (e : Ex G1 H1) (hp : H2 p = none) (y : Lay H1 l H2) (o : HO) : ∃ G2, Gro none G1 H1 G2 (L2.upd H2 p o) ∧ (∀ a u, (a, u) ∈ l → G2 a = some u) ∧ G2 p = some o := by
  obtain ⟨G2, s2, k2⟩ := y.know e
  exact ⟨L2.upd G2 p o, s2.trans0 (Gro.new s2.w hp), fun a u h => upd_old (k2 a u h) (s2.w.back hp), upd_same⟩
theorem know_at {P : Hp → Prop} {l : List (Addr × HO)} (y : Lay H1 l H2) (s : St b G H G1 H1 us) (q : ∀ G2, St b G H G2 H2 us → Ex G1 G2 → (∀ p o, (p, o) ∈ l → G2 p = some o) → P H2) : P H2 := by
  obtain ⟨G2, s2, e2, k2⟩ := s.know y
  exact q G2 s2 e2 k2
theorem know_n {P : Hp → Prop} {l : List (Addr × HO)} (y : Lay H1 l H2) (e : Ex G1 H1) (q : ∀ G2, Gro none G1 H1 G2 H2 → Ex G1 G2 → (∀ p o, (p, o) ∈ l → G2 p = some o) → P H2) : P H2 := by
  obtain ⟨G2, g2, k2⟩ := y.know e
  exact q G2 g2 g2.g k2
end
section
variable {K : PySem.W.Frag} {G H : Hp} {Q : VK} {p l : Addr} {xs : List V} {ds : List PyData} {d : PyData} {v : V} {vs : List V} {L : List (Addr × HO)}
theorem Rp.tupK (k : ∀ p o, (p, o) ∈ L → G p = some o) (m : (p, HO.tup xs) ∈ L) (r : Rps K G xs ds) : Rp K G (.ref p) (.tuple ds) := .tup (.inl (.inl (k _ _ m))) r
theorem Rp.lstK (k : ∀ p o, (p, o) ∈ L → G p = some o) (m : (p, HO.lst xs) ∈ L) (r : Rps K G xs ds) : Rp K G (.ref p) (.list ds) := .lst (k _ _ m) r
theorem cut_from {k : Nat} (h : k ≤ vs.length) : cutV vs (some (k : Int)) none = vs.drop k := by
  unfold cutV
  rw [HT.sIx_nat, HT.sIx_none, Nat.min_eq_left h]
  exact List.take_of_length_le (by rw [List.length_drop]; exact Nat.le_refl _)
theorem cut_to {k : Nat} : cutV vs none (some (k : Int)) = vs.take k := by
  unfold cutV
  rw [HT.sIx_nat, HT.sIx_none, Nat.sub_zero]
  show List.take (min k vs.length) vs = _
  by_cases h : k ≤ vs.length
  · rw [Nat.min_eq_left h]
  · rw [Nat.min_eq_right (by omega), List.take_of_length_le (Nat.le_refl _), List.take_of_length_le (by omega)]
theorem q_slL {lo hi : Option Int} (h : H l = some (.lst vs)) (q : ∀ p, H p = none → Q (.ref p) (L2.upd H p (.lst (cutV vs lo hi)))) : rSlAny K (.ref l) lo hi H Q := .inl ⟨l, vs, rfl, .inl (.inl h), q⟩
theorem flat_rep (v : V) : ∀ m : Nat, (List.replicate m [v]).flatten = List.replicate m v
  | 0 => rfl
  | m + 1 => by rw [List.replicate_succ, List.flatten_cons, flat_rep v m] <;> rfl
/-- [v] * m -/
theorem q_repL {m : Nat} (h : H l = some (.lst [v])) (hm : m ≤ 1000) (q : ∀ p, H p = none → Q (.ref p) (L2.upd H p (.lst (List.replicate m v)))) : rMulB K (.ref l) (.int (m : Nat)) H Q := by
  refine .inl (.inr (.inl ⟨l, m, [v], rfl, rfl, h, by omega, by omega, ?_, fun p hp => ?_⟩))
  · rw [Int.toNat_natCast, List.length_singleton, Nat.one_mul]
    exact Nat.le_trans hm (by decide)
  · rw [Int.toNat_natCast, flat_rep]
    exact q p hp
theorem q_tupL (h : H l = some (.lst vs)) (q : ∀ p, H p = none → Q (.ref p) (L2.upd H p (.tup vs))) : rTupA K [.ref l] H Q := ⟨l, vs, rfl, .inl ⟨.inl (.inl h), q⟩⟩
/-- a thing that a law may hand in as a deed -/
def Fit (d : PyData) : Prop := okD 3 d = true ∧ plainD d = true
theorem fitB (h : (okD 3 d && plainD d) = true) : Fit d := bA h
theorem Fit.shp (h : Fit d) : Shp d := okD_le h.1 (by decide)
theorem fit_act (x : Str) (hx : okD 0 (.str x) = true) (r : Int) : Fit (.tuple [.str x, .int r]) := by
  refine ⟨okD_tup (by simp) fun d hd => ?_, rfl⟩
  simp only [List.mem_cons, List.mem_nil_iff, or_false] at hd
  rcases hd with rfl | rfl
  · exact okD_str hx
  · exact okD_int _ _
theorem fit_three (x : Str) (hx : okD 0 (.str x) = true) (r k : Int) : Fit (.tuple [.str x, .int r, .int k]) := by
  refine ⟨okD_tup (by simp) fun d hd => ?_, rfl⟩
  simp only [List.mem_cons, List.mem_nil_iff, or_false] at hd
  rcases hd with rfl | rfl | rfl
  · exact okD_str hx
  · exact okD_int _ _
  · exact okD_int _ _
theorem all_fit (h : (ds.all fun d => okD 3 d && plainD d) = true) : ∀ d ∈ ds, Fit d := fun d m => fitB (List.all_eq_true.mp h d m)
theorem fit_app {es : List PyData} (h1 : ∀ d ∈ ds, Fit d) (h2 : ∀ d ∈ es, Fit d) : ∀ d ∈ ds ++ es, Fit d := fun d m => (List.mem_append.mp m).elim (h1 d) (h2 d)
theorem fit_take (h : ∀ d ∈ ds, Fit d) (n : Nat) : ∀ d ∈ ds.take n, Fit d := fun d m => h d (List.mem_of_mem_take m)
theorem fit_drop (h : ∀ d ∈ ds, Fit d) (n : Nat) : ∀ d ∈ ds.drop n, Fit d := fun d m => h d (List.mem_of_mem_drop m)
end
/-- len of a list of new things -/
theorem q_lenKn {K : PySem.W.Frag} {Q : VK} {b a : Addr} {G H G1 H1 H2 : Hp} {us xs : List V} {ds : List PyData} {l : List (Addr × HO)} (y : Lay H1 l H2) (m : (a, HO.lst xs) ∈ l) (s : St b G H G1 H1 us) (r : ∀ G2 : Hp, (∀ p o, (p, o) ∈ l → G2 p = some o) → Rps K G2 xs ds) (f : (ds.all fun d => okD 3 d && plainD d) = true)
    (q : ∀ (G2 : Hp) (xo : List V) (eo : List PyData), eo.length = ds.length → St b G H G2 H2 us → Ex G1 G2 → G2 a = some (.lst xo) → Rps K G2 xo eo → (∀ d ∈ eo, Fit d) → Q (.int (ds.length : Nat)) H2) : rLenA K [.ref a] H2 Q := by
  obtain ⟨G2, s2, e2, k2⟩ := s.know y
  have ha := k2 _ _ m
  refine q_lenC (.inl (.inl (s2.w _ _ ha))) ?_
  have hr := r G2 k2
  rw [hr.len]
  exact q G2 xs ds rfl s2 e2 ha hr (all_fit f)
theorem q_netP {K : PySem.W.Frag} {C CB : Addr} {G H : Hp} {P : Addr → Hp → Prop} {E : XK} {v1 v2 v3 : V} {d1 d2 d3 : PyData} (e : Ex G H) (h1 : Rp K G v1 d1) (s1 : Shp d1) (h2 : Rp K G v2 d2) (s2 : Shp d2) (h3 : Rp K G v3 d3) (s3 : Shp d3) (good : netBad d1 d2 d3 = none)
    (q : ∀ G' H' x, Gro none G H G' H' → NetAt K C G' x (netOf d1 d2 d3) → P x H') :
    ∀ x dx, H x = none → H dx = none → dx ≠ x → sp_net K C CB [.ref x, v1, v2, v3] (upd (upd H dx (.own x)) x (.ins C dx [])) (fun v H2 => v = .non ∧ P x H2) E :=
  q_net (Q := fun v H => match v with | .ref x => P x H | _ => False) e h1 s1 h2 s2 h3 s3 good q
theorem startD_sm (N : NetD) (h1 : N.p.length ≤ 1000) (h2 : N.c.length ≤ 1000) : Sm 3 (startD N) := by
  have a : ∀ (m : Nat) (x : PyData) (n : Nat), m ≤ 1000 → Sm n x → Sm (n + 1) (.tuple (List.replicate m x)) := fun m x n hm hx => ⟨by rw [List.length_replicate]; omega, fun d hd => by rw [(List.mem_replicate.mp hd).2]; exact hx⟩
  refine ⟨by simp, fun d hd => ?_⟩
  simp only [List.mem_cons, List.mem_nil_iff, or_false] at hd
  rcases hd with rfl | rfl | rfl
  · exact a _ _ 1 h1 True.intro
  · exact a _ _ 1 h2 True.intro
  · exact a _ _ 1 h2 ⟨by simp, by simp⟩
end Cw

set_option maxHeartbeats 4000000
/-! worlds of a net, their deeds: a mirror in numbers -/
namespace Cw
open PySem PySem.Spec PyProof.Rows L2
inductive Act where
  | do_ | send (c k : Nat) | take (c k : Nat)
structure Rul where
  p : Nat
  s : Nat
  a : Act
  t : Nat
structure Chn where
  z : Str
  g : Nat
  t : Nat
  k : Str
structure MN where
  ps : List PyData
  C : List Chn
  R : List Rul
def nD (n : Nat) : PyData := .int (n : Int)
def Act.d : Act → PyData
  | .do_ => .tuple [.str "do"]
  | .send c k => .tuple [.str "send", nD c, nD k]
  | .take c k => .tuple [.str "take", nD c, nD k]
def Rul.d (r : Rul) : PyData := .tuple [nD r.p, nD r.s, r.a.d, nD r.t]
def Chn.d (c : Chn) : PyData := .tuple [.str c.z, nD c.g, nD c.t, .str c.k]
def MN.N (M : MN) : NetD := ⟨M.ps, M.C.map Chn.d, M.R.map Rul.d⟩
def kindsL : List Str := ["order", "loose", "order lossy", "loose lossy"]
structure MNOk (M : MN) : Prop where
  lp : M.ps.length ≤ 5
  lc : M.C.length ≤ 8
  lr : M.R.length ≤ 40
  ch : ∀ c ∈ M.C, c.k ∈ kindsL
  ru : ∀ r ∈ M.R, r.p < M.ps.length ∧ (∀ c k, r.a = .send c k ∨ r.a = .take c k → c < M.C.length)
inductive Deed where
  | act (r : Nat) | take (r k : Nat) | lose (c k : Nat)
deriving DecidableEq
def Deed.ps : Deed → List PyData
  | .act r => [.str "act", nD r]
  | .take r k => [.str "take", nD r, nD k]
  | .lose c k => [.str "lose", nD c, nD k]
def Deed.d (D : Deed) : PyData := .tuple D.ps
structure Wd where
  s : List Nat
  n : List Nat
  p : List (List (Nat × Nat))
/-- a row, a tuple or a list -/
def sqD (b : Bool) (ds : List PyData) : PyData := if b then .tuple ds else .list ds
def msgD (b : Bool) (m : Nat × Nat) : PyData := sqD b [nD m.1, nD m.2]
def rowMD (b : Bool) (r : List (Nat × Nat)) : PyData := sqD b (r.map (msgD b))
def Wd.d (W : Wd) (b : Bool) : PyData := sqD b [sqD b (W.s.map nD), sqD b (W.n.map nD), sqD b (W.p.map (rowMD b))]
theorem sqD_seq (b : Bool) (ds : List PyData) : Seq (sqD b ds) ds := by
  cases b
  · exact .inl rfl
  · exact .inr rfl
structure WdOk (M : MN) (W : Wd) (B : Nat) : Prop where
  ls : W.s.length = M.ps.length
  ln : W.n.length = M.C.length
  lp : W.p.length = M.C.length
  b : ∀ r ∈ W.p, r.length ≤ B
def ordd (k : Str) : Bool := [PyData.str "order", .str "order lossy"].any fun z => PyData.eqv z (.str k)
def lossd (k : Str) : Bool := [PyData.str "order lossy", .str "loose lossy"].any fun z => PyData.eqv z (.str k)
def kindM (M : MN) (c : Nat) : Str := match M.C[c]? with
  | some h => h.k
  | none => Str.empty
def rowM (W : Wd) (c : Nat) : List (Nat × Nat) := W.p.getD c []
def hand (M : MN) (W : Wd) (c : Nat) : List (Nat × Nat) := if ordd (kindM M c) then (rowM W c).take 1 else rowM W c
def lossesM (M : MN) (W : Wd) (c : Nat) : List Deed := if lossd (kindM M c) then (hand M W c).map fun m => .lose c m.1 else []
def takesM (M : MN) (W : Wd) (r c k : Nat) : List Deed := ((hand M W c).filter fun m => decide (m.2 = k)).map fun m => .take r m.1
def ruleM (M : MN) (W : Wd) (r : Nat) : List Deed := match M.R[r]? with
  | none => []
  | some R => if W.s[R.p]? = some R.s then match R.a with
      | .take c k => takesM M W r c k
      | _ => [.act r]
    else []
def possM (M : MN) (W : Wd) : List Deed := ((List.range M.R.length).map (ruleM M W)).flatten ++ ((List.range M.C.length).map (lossesM M W)).flatten
def gone (W : Wd) (c k : Nat) : List (List (Nat × Nat)) := W.p.set c ((rowM W c).filter fun m => decide (m.1 ≠ k))
def stepM (M : MN) (W : Wd) : Deed → Wd
  | .lose c k => { W with p := gone W c k }
  | .act r => match M.R[r]? with
    | none => W
    | some R => match R.a with
      | .send c k => ⟨W.s.set R.p R.t, W.n.set c (W.n.getD c 0 + 1), W.p.set c (rowM W c ++ [(W.n.getD c 0, k)])⟩
      | _ => { W with s := W.s.set R.p R.t }
  | .take r m => match M.R[r]? with
    | none => W
    | some R => match R.a with
      | .take c _ => ⟨W.s.set R.p R.t, W.n, gone W c m⟩
      | _ => { W with s := W.s.set R.p R.t }
def startM (M : MN) : Wd := ⟨List.replicate M.ps.length 0, List.replicate M.C.length 0, List.replicate M.C.length []⟩
theorem hand_len (M : MN) (W : Wd) (c : Nat) : (hand M W c).length ≤ (rowM W c).length := by
  unfold hand
  split
  · exact List.length_take_le' _ _
  · exact Nat.le_refl _
theorem WdOk.row {M : MN} {W : Wd} {B : Nat} (h : WdOk M W B) (c : Nat) : (rowM W c).length ≤ B := by
  unfold rowM
  rw [List.getD_eq_getElem?_getD]
  cases e : W.p[c]? with
  | none => exact Nat.zero_le _
  | some r => exact h.b r (List.mem_of_getElem? e)
theorem WdOk.rowAt {M : MN} {W : Wd} {B c : Nat} (h : WdOk M W B) (hc : c < M.C.length) : W.p[c]? = some (rowM W c) := by
  have hl : c < W.p.length := by rw [h.lp]; exact hc
  unfold rowM
  rw [List.getD_eq_getElem?_getD, List.getElem?_eq_getElem hl] <;> rfl
/-! comprehensions over rows of things -/
section
variable {α : Type} {K : PySem.W.Frag} {σ : L2.St} {G H : Hp} {Q : VK} {ta : TE} {g : TG} {tt : TT} {te : TE} {ws : List Nat} {v : V} {d : PyData} {xs : List α} {h : α → PyData} {f : α → Option PyData}
/-- what one turn asks -/
abbrev FmBody (g : TG) (tt : TT) (te : TE) (ws : List Nat) (σ : L2.St) (K : PySem.W.Frag) (o : Option PyData) (u : V) (G' H' : Hp) : Prop :=
  ∀ (C : V → Hp → Prop) (N : Hp → Prop), (∀ y G2 H2 e, o = some e → Gro none G' H' G2 H2 → Rp K G2 y e → C y H2) → (∀ G2 H2, o = none → Gro none G' H' G2 H2 → N H2) → g u (wipe σ ws) H' fun σ2 H2 => wipe σ2 ws = wipe σ ws ∧ tt σ2 H2 fun b H3 => if b = true then te σ2 H3 C else N H3
/-- between two turns -/
def FmIn (K : PySem.W.Frag) (xs : List α) (f : α → Option PyData) (G H : Hp) (D : Addr) (i : Nat) (H' : Hp) : Prop :=
  ∃ G' acc, Gro none G H G' H' ∧ G' D = none ∧ H' D = some (.lst acc) ∧ Rps K G' acc ((xs.take i).filterMap f)
theorem FmIn.first (x : Ex G H) {D : Addr} (hD : H D = none) : FmIn K xs f G H D 0 (L2.upd H D (.lst [])) :=
  ⟨G, [], ⟨Ex.refl G, x.trans (Ex.new hD), fun a o _ h => Ex.new hD a o h, fun _ _ h => h⟩, x.back hD, upd_same, .nil⟩
theorem fm_le (xs : List α) (f : α → Option PyData) (i : Nat) : ((xs.take i).filterMap f).length ≤ i := Nat.le_trans (List.length_filterMap_le _ _) (List.length_take_le _ _)
theorem fm_next {i : Nat} {x : α} (hx : xs[i]? = some x) : (xs.take (i + 1)).filterMap f = (xs.take i).filterMap f ++ (f x).toList := by
  rw [List.take_add_one, hx, List.filterMap_append]
  cases e : f x <;> simp [e]
theorem FmIn.turn {D : Addr} {i : Nat} {x : α} {u : V} {H' : Hp} (hD : H D = none) (hx : xs[i]? = some x) (hn : xs.length ≤ 1000000) (hI : FmIn K xs f G H D i H')
    (body : ∀ G', Gro none G H G' H' → FmBody g tt te ws σ K (f x) u G' H') : g u (wipe σ ws) H' fun σ2 H2 => wipe σ2 ws = wipe σ ws ∧ tt σ2 H2 fun b H3 => if b = true then te σ2 H3 fun y H4 => ∃ acc, H4 D = some (.lst acc) ∧ acc.length < sizeLine ∧ FmIn K xs f G H D (i + 1) (L2.upd H4 D (.lst (acc ++ [y]))) else FmIn K xs f G H D (i + 1) H3 := by
  obtain ⟨G', acc, gr, gD, hacc, hr⟩ := hI
  have nn : H' D ≠ none := by
    rw [hacc]
    exact fun z => nomatch z
  have hi := (List.getElem?_eq_some_iff.mp hx).1
  refine body G' gr _ _ (fun y G2 H2 e he g2 r => ⟨acc, g2.ex _ _ hacc, line_lt ?_, ?_⟩) (fun G2 H2 he g2 => ?_)
  · rw [hr.len]
    have := fm_le xs f i
    omega
  · have t := gr.trans0 g2
    have gD2 := g2.n D nn gD
    refine ⟨G2, acc ++ [y], ⟨t.g, Ex.mut t.w gD2, fun a o z h => ?_, t.n⟩, gD2, upd_same, ?_⟩
    · rw [upd_ne (ne_of_none h hD)]
      exact t.k a o z h
    · rw [fm_next hx, he]
      exact (hr.mono g2.g).app (Rps.one r)
  · refine ⟨G2, acc, gr.trans0 g2, g2.n D nn gD, g2.ex _ _ hacc, ?_⟩
    rw [fm_next hx, he]
    show Rps K G2 acc (_ ++ [])
    rw [List.append_nil]
    exact hr.mono g2.g
/-- the list is known from now on -/
theorem FmIn.done {D : Addr} {H' : Hp} (hD : H D = none) (hI : FmIn K xs f G H D xs.length H') (q : ∀ G' H' D, Gro none G H G' H' → H D = none → Rp K G' (.ref D) (.list (xs.filterMap f)) → Q (.ref D) H') : Q (.ref D) H' := by
  obtain ⟨G', acc, gr, gD, hacc, hr⟩ := hI
  rw [List.take_length] at hr
  refine q (L2.upd G' D (.lst acc)) H' D ⟨gr.g.trans (Ex.new gD), Ex.add gr.w hacc, gr.k, fun a ha ga => ?_⟩ hD (.lst upd_same (hr.mono (Ex.new gD)))
  have na : a ≠ D := fun z => ha (by rw [z]; exact hD)
  rw [upd_ne na]
  exact gr.n a ha ga
theorem q_fmL (hv : Rp K G v (.list (xs.map h))) (x : Ex G H) (hn : xs.length ≤ 1000000) (body : ∀ (i : Nat) (x : α) u G' H', xs[i]? = some x → Gro none G H G' H' → Rp K G' u (h x) → FmBody g tt te ws σ K (f x) u G' H')
    (done : ∀ G' H' D, Gro none G H G' H' → H D = none → Rp K G' (.ref D) (.list (xs.filterMap f)) → Q (.ref D) H') : kcLst K g tt te ws σ Q v H := by
  obtain ⟨a, vs, rfl, hS, hr⟩ := rp_lst hv
  have hlen : vs.length = xs.length := by rw [hr.len, List.length_map]
  refine q_lst_lc (.inl (.inl (x _ _ hS))) (fun D hD => ⟨FmIn K xs f G H D, FmIn.first x hD, ?_, ?_, ?_⟩)
  · rintro i H' hi ⟨G', acc, gr, _⟩
    exact .inl (.inl (gr.w _ _ (gr.g _ _ hS)))
  · intro i u H' hu hI
    have hi : i < xs.length := by
      rw [← hlen]
      exact (List.getElem?_eq_some_iff.mp hu).1
    obtain ⟨d', hd', ru⟩ := hr.at hu
    rw [List.getElem?_map, List.getElem?_eq_getElem hi] at hd'
    cases hd'
    exact FmIn.turn hD (List.getElem?_eq_getElem hi) hn hI fun G' gr => body i _ u G' H' (List.getElem?_eq_getElem hi) gr (ru.mono gr.g)
  · intro H' hI
    rw [hlen] at hI
    exact FmIn.done hD hI done
theorem q_fmT (hv : Rp K G v (.tuple (xs.map h))) (x : Ex G H) (hn : xs.length ≤ 1000000) (body : ∀ (i : Nat) (x : α) u G' H', xs[i]? = some x → Gro none G H G' H' → Rp K G' u (h x) → FmBody g tt te ws σ K (f x) u G' H')
    (done : ∀ G' H' D, Gro none G H G' H' → H D = none → Rp K G' (.ref D) (.list (xs.filterMap f)) → Q (.ref D) H') : kcTup K g tt te ws σ Q v H := by
  obtain ⟨a, vs, rfl, hS, hr⟩ := rp_tup hv
  have hlen : vs.length = xs.length := by rw [hr.len, List.length_map]
  have hT := x.st hS
  refine ⟨a, rfl, ⟨vs, hT⟩, fun D hD => ?_⟩
  refine lc_it (walk_tup (K := K) (a := a) (xs := vs)) (FmIn K xs f G H D) (FmIn.first x hD) ?_ ?_ ?_
  · rintro i H' hi ⟨G', acc, gr, _⟩
    exact gr.w.st (gr.g.st hS)
  · rintro i u H1 H' hi' hI ⟨rfl, hu⟩
    have hi : i < xs.length := by
      rw [← hlen]
      exact hi'
    obtain ⟨d', hd', ru⟩ := hr.at hu
    rw [List.getElem?_map, List.getElem?_eq_getElem hi] at hd'
    cases hd'
    exact FmIn.turn hD (List.getElem?_eq_getElem hi) hn hI fun G' gr => body i _ u G' _ (List.getElem?_eq_getElem hi) gr (ru.mono gr.g)
  · intro H' hI
    rw [hlen] at hI
    exact FmIn.done hD hI done
/-- a walk over what ta tells: its value is a row of things, a list or a tuple -/
theorem q_fmS {b : Bool} (hv : Rp K G v (sqD b (xs.map h))) (x : Ex G H) (hn : xs.length ≤ 1000000) (body : ∀ (i : Nat) (x : α) u G' H', xs[i]? = some x → Gro none G H G' H' → Rp K G' u (h x) → FmBody g tt te ws σ K (f x) u G' H')
    (done : ∀ G' H' D, Gro none G H G' H' → H D = none → Rp K G' (.ref D) (.list (xs.filterMap f)) → Q (.ref D) H') : kcLst K g tt te ws σ Q v H ∨ kcTup K g tt te ws σ Q v H := by
  cases b with
  | false => exact .inl (q_fmL hv x hn body done)
  | true => exact .inr (q_fmT hv x hn body done)
theorem fm_map (xs : List α) (k : α → PyData) : xs.filterMap (fun x => some (k x)) = xs.map k := by
  induction xs with
  | nil => rfl
  | cons x r ih => rw [List.filterMap_cons, ih] <;> rfl
theorem fm_filt (xs : List α) (p : α → Bool) (k : α → PyData) : xs.filterMap (fun x => if p x then some (k x) else none) = (xs.filter p).map k := by
  induction xs with
  | nil => rfl
  | cons x r ih =>
    rw [List.filterMap_cons, ih, List.filter_cons]
    cases p x <;> rfl
end
/-! slices of rows -/
section
variable {K : PySem.W.Frag} {G H : Hp} {Q : VK} {v : V} {b : Bool} {ds : List PyData}
theorem Rps.cut {vs : List V} (h : Rps K G vs ds) (n m : Nat) : Rps K G ((vs.drop n).take m) ((ds.drop n).take m) := (h.drop n).take m
/-- row[:k] -/
theorem q_slTo {k : Nat} (hv : Rp K G v (sqD b ds)) (x : Ex G H) (q : ∀ G2 H2 p, Gro none G H G2 H2 → Rp K G2 (.ref p) (sqD b (ds.take k)) → Q (.ref p) H2) : rSlAny K v none (some (k : Int)) H Q := by
  cases b with
  | false =>
    obtain ⟨l, vs, rfl, hS, hr⟩ := rp_lst hv
    refine .inl ⟨l, vs, rfl, .inl (.inl (x _ _ hS)), fun p hp => ?_⟩
    rw [cut_to]
    exact q (L2.upd G p (.lst (vs.take k))) _ p (Gro.new x hp) (.lst upd_same ((hr.take k).mono (Ex.new (x.back hp))))
  | true =>
    obtain ⟨l, vs, rfl, hS, hr⟩ := rp_tup hv
    refine .inr (.inl ⟨l, vs, rfl, x.st hS, fun z => ?_, fun _ p hp => ?_⟩)
    · have e : ds.take k = ds := by
        have z2 : HT.sIx vs.length vs.length (some (k : Int)) = vs.length := z.2
        rw [HT.sIx_nat] at z2
        exact List.take_of_length_le (by rw [← hr.len]; omega)
      refine q G H l (Gro.refl x) ?_
      rw [e]
      exact hv
    · rw [cut_to]
      exact q (L2.upd G p (.tup (vs.take k))) _ p (Gro.new x hp) (.tup (.inl (.inl upd_same)) ((hr.take k).mono (Ex.new (x.back hp))))
/-- row[k:] -/
theorem q_slFrom {k : Nat} (hv : Rp K G v (sqD b ds)) (x : Ex G H) (hk : k ≤ ds.length) (q : ∀ G2 H2 p, Gro none G H G2 H2 → Rp K G2 (.ref p) (sqD b (ds.drop k)) → Q (.ref p) H2) : rSlAny K v (some (k : Int)) none H Q := by
  cases b with
  | false =>
    obtain ⟨l, vs, rfl, hS, hr⟩ := rp_lst hv
    refine .inl ⟨l, vs, rfl, .inl (.inl (x _ _ hS)), fun p hp => ?_⟩
    rw [cut_from (by rw [hr.len]; exact hk)]
    exact q (L2.upd G p (.lst (vs.drop k))) _ p (Gro.new x hp) (.lst upd_same ((hr.drop k).mono (Ex.new (x.back hp))))
  | true =>
    obtain ⟨l, vs, rfl, hS, hr⟩ := rp_tup hv
    refine .inr (.inl ⟨l, vs, rfl, x.st hS, fun z => ?_, fun _ p hp => ?_⟩)
    · have z1 : HT.sIx vs.length 0 (some (k : Int)) = 0 := z.1
      rw [HT.sIx_nat, hr.len] at z1
      have e : k = 0 ∨ ds = [] := by
        cases ds with
        | nil => exact .inr rfl
        | cons _ _ => left; simp only [List.length_cons] at z1; omega
      refine q G H l (Gro.refl x) ?_
      rcases e with rfl | rfl
      · exact hv
      · rw [List.drop_nil]
        exact hv
    · rw [cut_from (by rw [hr.len]; exact hk)]
      exact q (L2.upd G p (.tup (vs.drop k))) _ p (Gro.new x hp) (.tup (.inl (.inl upd_same)) ((hr.drop k).mono (Ex.new (x.back hp))))
/-- *row -/
theorem q_star {te : TE} {t : TA} {σ : L2.St} {Q : List V → Hp → Prop} (h : te σ H fun x H1 => ∃ p xs, x = V.ref p ∧ (SqT K H1 p xs ∨ SqL K H1 p xs) ∧ t σ H1 fun ys H2 => Q (xs ++ ys) H2) : StX.tStar K te t σ H Q := h
theorem q_starAt {p : Addr} {R : List V → Prop} (hv : Rp K G (.ref p) (sqD b ds)) (x : Ex G H) (q : ∀ xs, Rps K G xs ds → R xs) : ∃ p' xs, V.ref p = V.ref p' ∧ (SqT K H p' xs ∨ SqL K H p' xs) ∧ R xs := by
  cases b with
  | false =>
    obtain ⟨l, vs, e, hS, hr⟩ := rp_lst hv
    cases e
    exact ⟨p, vs, rfl, .inr (.inl (.inl (x _ _ hS))), q vs hr⟩
  | true =>
    obtain ⟨l, vs, e, hS, hr⟩ := rp_tup hv
    cases e
    exact ⟨p, vs, rfl, .inl (x.st hS), q vs hr⟩
/-- row + row, tuples -/
theorem q_catTT {u : V} {es : List PyData} (hv : Rp K G v (.tuple ds)) (hu : Rp K G u (.tuple es)) (x : Ex G H) (hl : ds.length + es.length ≤ 1000000) (q : ∀ G2 H2 p, Gro none G H G2 H2 → Rp K G2 (.ref p) (.tuple (ds ++ es)) → Q (.ref p) H2) : rCatA K v u H Q := by
  obtain ⟨l, vs, rfl, hS, hr⟩ := rp_tup hv
  obtain ⟨m, ws, rfl, hT, hs⟩ := rp_tup hu
  refine ⟨l, m, vs, ws, rfl, rfl, x.st hS, x.st hT, by rw [hr.len, hs.len]; exact Nat.le_trans hl (by decide), fun z => ?_, fun _ z => ?_, fun _ _ p hp => ?_⟩
  · have e : ds = [] := List.length_eq_zero_iff.mp (by rw [← hr.len, z] <;> rfl)
    refine q G H m (Gro.refl x) ?_
    rw [e]
    exact hu
  · have e : es = [] := List.length_eq_zero_iff.mp (by rw [← hs.len, z] <;> rfl)
    refine q G H l (Gro.refl x) ?_
    rw [e, List.append_nil]
    exact hv
  · exact q (L2.upd G p (.tup (vs ++ ws))) _ p (Gro.new x hp) (.tup (.inl (.inl upd_same)) ((hr.app hs).mono (Ex.new (x.back hp))))
theorem set_cut {α : Type} (xs : List α) (v : α) : ∀ k : Nat, k < xs.length → xs.take k ++ v :: xs.drop (k + 1) = xs.set k v := by
  induction xs with
  | nil => intro k h; simp at h
  | cons x r ih =>
    intro k h
    cases k with
    | zero => rfl
    | succ k =>
      show x :: (r.take k ++ v :: r.drop (k + 1)) = x :: r.set k v
      rw [ih k (by simpa using h)]
end
/-! nets and worlds, read -/
section
variable {M : MN} {W : Wd} {B c r k : Nat}
theorem MN.chan (hc : c < M.C.length) : atI M.N.c (c : Int) = some (Chn.d M.C[c]) := by
  refine atI_nat ?_
  show (M.C.map Chn.d)[c]? = _
  rw [List.getElem?_map, List.getElem?_eq_getElem hc] <;> rfl
theorem MN.rule (hr : r < M.R.length) : atI M.N.r (r : Int) = some (Rul.d M.R[r]) := by
  refine atI_nat ?_
  show (M.R.map Rul.d)[r]? = _
  rw [List.getElem?_map, List.getElem?_eq_getElem hr] <;> rfl
theorem kindM_at (hc : c < M.C.length) : kindM M c = M.C[c].k := by
  unfold kindM
  rw [List.getElem?_eq_getElem hc]
theorem kind_mem (ok : MNOk M) (hc : c < M.C.length) : kindM M c ∈ kindsL := by
  rw [kindM_at hc]
  exact ok.ch _ (List.getElem_mem hc)
theorem kind_shp {z : Str} (h : z ∈ kindsL) : Shp (.str z) := okD_le (okD_str ((show ∀ k ∈ kindsL, okD 0 (.str k) = true by decide +kernel) z h)) (by decide : 0 ≤ 60)
theorem shp_two (a b : Str) (ha : okD 0 (.str a) = true) (hb : okD 0 (.str b) = true) : Shp (.tuple [.str a, .str b]) ∧ Shp (.list [.str a, .str b]) := by
  constructor
  · refine okD_le (m := 60) (okD_tup (n := 0) (by simp) fun d hd => ?_) (by decide)
    simp only [List.mem_cons, List.mem_nil_iff, or_false] at hd
    rcases hd with rfl | rfl
    · exact ha
    · exact hb
  · exact shp_list (okD_le (m := 60) (okD_tup (n := 0) (by simp) fun d hd => by
      simp only [List.mem_cons, List.mem_nil_iff, or_false] at hd
      rcases hd with rfl | rfl
      · exact ha
      · exact hb) (by decide))
theorem shp_ord : Shp (.tuple [.str "order", .str "order lossy"]) ∧ Shp (.list [.str "order", .str "order lossy"]) := shp_two _ _ (by decide +kernel) (by decide +kernel)
theorem shp_los : Shp (.tuple [.str "order lossy", .str "loose lossy"]) ∧ Shp (.list [.str "order lossy", .str "loose lossy"]) := shp_two _ _ (by decide +kernel) (by decide +kernel)
theorem WdOk.at2 (h : WdOk M W B) (hc : c < M.C.length) (b : Bool) : atI (W.p.map (rowMD b)) (c : Int) = some (rowMD b (rowM W c)) := by
  refine atI_nat ?_
  rw [List.getElem?_map, h.rowAt hc] <;> rfl
theorem at_map {α : Type} {f : α → PyData} {xs : List α} {i : Nat} (h : i < xs.length) : atI (xs.map f) (i : Int) = some (f xs[i]) := by
  refine atI_nat ?_
  rw [List.getElem?_map, List.getElem?_eq_getElem h] <;> rfl
end
theorem len_flat {α β : Type} (f : α → List β) (m : Nat) : ∀ xs : List α, (∀ x ∈ xs, (f x).length ≤ m) → ((xs.map f).flatten).length ≤ xs.length * m
  | [], _ => by simp
  | x :: xs, h => by
    rw [List.map_cons, List.flatten_cons, List.length_append, List.length_cons, Nat.succ_mul]
    have h1 := h x (List.mem_cons_self ..)
    have h2 := len_flat f m xs fun y hy => h y (List.mem_cons_of_mem _ hy)
    omega
theorem losses_len {M : MN} {W : Wd} {B : Nat} (h : WdOk M W B) (c : Nat) : (lossesM M W c).length ≤ B := by
  unfold lossesM
  split
  · rw [List.length_map]
    exact Nat.le_trans (hand_len M W c) (h.row c)
  · exact Nat.zero_le _
theorem takes_len {M : MN} {W : Wd} {B : Nat} (h : WdOk M W B) (r c k : Nat) : (takesM M W r c k).length ≤ B := by
  unfold takesM
  rw [List.length_map]
  exact Nat.le_trans (List.length_filter_le _ _) (Nat.le_trans (hand_len M W c) (h.row c))
theorem rule_len {M : MN} {W : Wd} {B : Nat} (h : WdOk M W B) (r : Nat) : (ruleM M W r).length ≤ B + 1 := by
  unfold ruleM
  split
  · exact Nat.zero_le _
  · split
    · split
      · exact Nat.le_trans (takes_len h ..) (Nat.le_succ _)
      · exact Nat.le_add_left _ _
    · exact Nat.zero_le _
theorem flat_next {β : Type} (f : Nat → List β) (i : Nat) : ((List.range (i + 1)).map f).flatten = ((List.range i).map f).flatten ++ f i := by
  rw [List.range_succ, List.map_append, List.flatten_append]
  simp
theorem rps2 {K : PySem.W.Frag} {G : Hp} {a b : PyData} {vs : List V} (h : Rps K G vs [a, b]) : ∃ v1 v2, vs = [v1, v2] ∧ Rp K G v1 a ∧ Rp K G v2 b := by
  obtain ⟨v1, _, rfl, r1, h⟩ := rps_cons h
  obtain ⟨v2, _, rfl, r2, h⟩ := rps_cons h
  obtain rfl := rps_nil h
  exact ⟨_, _, rfl, r1, r2⟩
theorem rp_nD {K : PySem.W.Frag} {G : Hp} {v : V} {n : Nat} (h : Rp K G v (nD n)) : v = .int (n : Int) := rp_int h
theorem q_extend {H : Hp} {Q : VK} {l b : Addr} {xs zs : List V} (hl : H l = some (.lst xs)) (hb : H b = some (.lst zs)) (hz : xs.length + zs.length ≤ 1000000) (q : Q .non (L2.upd H l (.lst (xs ++ zs)))) : rExtend (.ref l) [.ref b] H Q := ⟨l, b, xs, zs, rfl, rfl, hl, hb, Nat.le_trans hz (by decide), q⟩
/-- a cell that grows beside what is known -/
structure Acc (l : Addr) (G H G' H' : Hp) (vs : List V) : Prop where
  gr : Gro none G H G' H'
  gl : G' l = none
  hl : H' l = some (.lst vs)
  nl : H l = none
section
variable {l : Addr} {G H G1 H1 G2 H2 : Hp} {vs ws : List V}
theorem Acc.first (e : Ex G H) (hl : H l = none) : Acc l G H G (L2.upd H l (.lst vs)) vs := ⟨Gro.up e (Ex.new hl), e.back hl, upd_same, hl⟩
theorem Acc.w (s : Acc l G H G1 H1 vs) : Ex G1 H1 := s.gr.w
theorem Acc.gro (s : Acc l G H G1 H1 vs) (g : Gro none G1 H1 G2 H2) : Acc l G H G2 H2 vs := ⟨s.gr.trans0 g, g.n l (by rw [s.hl]; exact fun z => nomatch z) s.gl, g.ex _ _ s.hl, s.nl⟩
theorem Acc.put (s : Acc l G H G1 H1 vs) : Acc l G H G1 (L2.upd H1 l (.lst ws)) ws :=
  ⟨⟨s.gr.g, Ex.mut s.gr.w s.gl, fun a o z h => by
    rw [upd_ne (ne_of_none h s.nl)]
    exact s.gr.k a o z h, s.gr.n⟩, s.gl, upd_same, s.nl⟩
theorem Acc.know (s : Acc l G H G1 H1 vs) : Gro none G H (L2.upd G1 l (.lst vs)) H1 :=
  ⟨s.gr.g.trans (Ex.new s.gl), Ex.add s.gr.w s.hl, s.gr.k, fun a ha ga => by
    have na : a ≠ l := fun z => ha (by rw [z]; exact s.nl)
    rw [upd_ne na]
    exact s.gr.n a ha ga⟩
end
/-- a cut that keeps all -/
theorem q_cutId {t u : TS} {D : Ends} {σ : L2.St} {H : Hp} (h : t { D with nx := u D } σ H) : tCut t u D σ H := ⟨u D, h, fun _ _ z => z⟩
theorem q_par3 {i j l : Nat} {ta : TA} {D : Ends} {σ : L2.St} {H : Hp} (h : ta σ H fun vs H1 => ∃ u v w, vs = [u, v, w] ∧ D.nx (((σ.set i (some u)).set j (some v)).set l (some w)) H1) : tPar3 i j l ta D σ H := h
theorem q_par2 {i j : Nat} {ta : TA} {D : Ends} {σ : L2.St} {H : Hp} (h : ta σ H fun vs H1 => ∃ v w, vs = [v, w] ∧ D.nx ((σ.set i (some v)).set j (some w)) H1) : tPar i j ta D σ H := h
theorem q_three {u v w : V} {R : V → V → V → Prop} (h : R u v w) : ∃ a b c, [u, v, w] = [a, b, c] ∧ R a b c := ⟨u, v, w, rfl, h⟩
theorem q_two {u v : V} {R : V → V → Prop} (h : R u v) : ∃ a b, [u, v] = [a, b] ∧ R a b := ⟨u, v, rfl, h⟩
theorem pa_starK {X : Cx} {K : PySem.W.Frag} {e : Expr} {es : List Expr} {te : TE} {t : TA} {p : Pos} (h : X.K = K) (he : PE X e te) (hr : PA X es t) (hs : starEach (.Starred e p :: es) X.env = (true, eval e X.env) :: starEach es X.env := by rfl) : PA X (.Starred e p :: es) (StX.tStar K te t) := h ▸ StX.pa_star he hr hs
end Cw

set_option maxHeartbeats 4000000
/-! a drawn net in numbers; what a step leaves -/
namespace Cw
open PySem PySem.Spec PyProof.Rows L2
def chnOf : PyData → Chn
  | .tuple [.str z, .int g, .int t, .str k] => ⟨z, g.toNat, t.toNat, k⟩
  | _ => ⟨Str.empty, 0, 0, Str.empty⟩
def actOf : PyData → Act
  | .tuple [.str w, .int c, .int k] => if w = ("send" : Str) then .send c.toNat k.toNat else .take c.toNat k.toNat
  | _ => .do_
def rulOf : PyData → Rul
  | .tuple [.int p, .int s, a, .int t] => ⟨p.toNat, s.toNat, actOf a, t.toNat⟩
  | _ => ⟨0, 0, .do_, 0⟩
def mnOf (ps cs rs : List PyData) : MN := ⟨ps, cs.map chnOf, rs.map rulOf⟩
theorem chn_back {m : Nat} {d : PyData} (h : ChOk poolCx m d) : (chnOf d).d = d ∧ (chnOf d).k ∈ kindsL := by
  obtain ⟨z, g, t, k, rfl, _, _, _, _, hk⟩ := h
  exact ⟨rfl, hk⟩
theorem rul_back {ps cs : List PyData} {d : PyData} (h : RuOk ps cs d) : (rulOf d).d = d ∧ (rulOf d).p < ps.length ∧ (∀ c k, (rulOf d).a = .send c k ∨ (rulOf d).a = .take c k → c < cs.length) := by
  obtain ⟨p, s, t, a, z, st, rfl, hp, _, _, ha⟩ := h
  have hpl := (List.getElem?_eq_some_iff.mp hp).1
  rcases ha with rfl | ⟨c, k, y, g, tk, kd, hc, _, ⟨rfl, _⟩ | ⟨rfl, _⟩⟩
  · refine ⟨rfl, hpl, fun c k h => ?_⟩
    rcases h with h | h <;> cases h
  · have hcl := (List.getElem?_eq_some_iff.mp hc).1
    have e : actOf (.tuple [.str "send", .int c, .int k]) = .send c k := by simp [actOf]
    refine ⟨?_, hpl, fun c' k' h => ?_⟩
    · show PyData.tuple [nD p, nD s, Act.d (actOf (.tuple [.str "send", .int c, .int k])), nD t] = _
      rw [e] <;> rfl
    · have h2 : (actOf (.tuple [.str "send", .int c, .int k])) = .send c' k' ∨ (actOf (.tuple [.str "send", .int c, .int k])) = .take c' k' := h
      rw [e] at h2
      rcases h2 with h2 | h2 <;> cases h2
      exact hcl
  · have hcl := (List.getElem?_eq_some_iff.mp hc).1
    have e : actOf (.tuple [.str "take", .int c, .int k]) = .take c k := by
      simp only [actOf]
      exact if_neg (by decide +kernel)
    refine ⟨?_, hpl, fun c' k' h => ?_⟩
    · show PyData.tuple [nD p, nD s, Act.d (actOf (.tuple [.str "take", .int c, .int k])), nD t] = _
      rw [e] <;> rfl
    · have h2 : (actOf (.tuple [.str "take", .int c, .int k])) = .send c' k' ∨ (actOf (.tuple [.str "take", .int c, .int k])) = .take c' k' := h
      rw [e] at h2
      rcases h2 with h2 | h2 <;> cases h2
      exact hcl
theorem map_back {α : Type} (f : PyData → α) (g : α → PyData) : ∀ ds : List PyData, (∀ d ∈ ds, g (f d) = d) → (ds.map f).map g = ds
  | [], _ => rfl
  | d :: ds, h => by
    rw [List.map_cons, List.map_cons, h d (List.mem_cons_self ..), map_back f g ds fun e m => h e (List.mem_cons_of_mem _ m)]
theorem LNet.mnN {ps cs rs : List PyData} (h : LNet ps cs rs) : (mnOf ps cs rs).N = ⟨ps, cs, rs⟩ := by
  show (⟨ps, (cs.map chnOf).map Chn.d, (rs.map rulOf).map Rul.d⟩ : NetD) = _
  rw [map_back _ _ cs fun d m => (chn_back (h.ck d m)).1, map_back _ _ rs fun d m => (rul_back (h.rk d m)).1]
theorem LNet.mnOk {ps cs rs : List PyData} (h : LNet ps cs rs) : MNOk (mnOf ps cs rs) where
  lp := h.p5
  lc := by show (cs.map chnOf).length ≤ 8; rw [List.length_map]; exact h.c8
  lr := by show (rs.map rulOf).length ≤ 40; rw [List.length_map]; exact h.r40
  ch := fun c m => by
    obtain ⟨d, hd, rfl⟩ := List.mem_map.mp m
    exact (chn_back (h.ck d hd)).2
  ru := fun r m => by
    obtain ⟨d, hd, rfl⟩ := List.mem_map.mp m
    obtain ⟨_, h2, h3⟩ := rul_back (h.rk d hd)
    refine ⟨h2, fun c k z => ?_⟩
    show c < (cs.map chnOf).length
    rw [List.length_map]
    exact h3 c k z
/-- the net as the laws hold it -/
def MN.d (M : MN) : PyData := .tuple [.tuple M.ps, .tuple (M.C.map Chn.d), .tuple (M.R.map Rul.d)]
theorem LNet.mnd {ps cs rs : List PyData} (h : LNet ps cs rs) : (mnOf ps cs rs).d = .tuple [.tuple ps, .tuple cs, .tuple rs] := by
  have e := h.mnN
  have e2 : (mnOf ps cs rs).C.map Chn.d = cs := congrArg NetD.c e
  have e3 : (mnOf ps cs rs).R.map Rul.d = rs := congrArg NetD.r e
  show PyData.tuple [.tuple ps, .tuple ((mnOf ps cs rs).C.map Chn.d), .tuple ((mnOf ps cs rs).R.map Rul.d)] = _
  rw [e2, e3]
/-- a deed of the net -/
def DV (M : MN) : Deed → Prop
  | .act r => ∃ a, M.R[r]?.map Rul.a = some a ∧ ∀ c k, a ≠ .take c k
  | .take r _ => ∃ c t, M.R[r]?.map Rul.a = some (.take c t)
  | .lose c _ => c < M.C.length
theorem rule_mem {M : MN} {W : Wd} {r : Nat} {D : Deed} (h : D ∈ ruleM M W r) : r < M.R.length ∧ ((D = .act r ∧ ∃ a, M.R[r]?.map Rul.a = some a ∧ ∀ c k, a ≠ .take c k) ∨ (∃ k c t, D = .take r k ∧ M.R[r]?.map Rul.a = some (.take c t))) := by
  unfold ruleM at h
  cases e : M.R[r]? with
  | none =>
    rw [e] at h
    cases h
  | some R =>
    have hr := (List.getElem?_eq_some_iff.mp e).1
    rw [e] at h
    simp only at h
    split at h
    · refine ⟨hr, ?_⟩
      cases ea : R.a with
      | take c k =>
        rw [ea] at h
        unfold takesM at h
        obtain ⟨m, _, rfl⟩ := List.mem_map.mp h
        exact .inr ⟨m.1, c, k, rfl, by show some R.a = _; rw [ea]⟩
      | do_ =>
        rw [ea] at h
        exact .inl ⟨List.mem_singleton.mp h, .do_, by show some R.a = _; rw [ea], fun _ _ z => nomatch z⟩
      | send c k =>
        rw [ea] at h
        exact .inl ⟨List.mem_singleton.mp h, .send c k, by show some R.a = _; rw [ea], fun _ _ z => nomatch z⟩
    · cases h
theorem loss_mem {M : MN} {W : Wd} {c : Nat} {D : Deed} (h : D ∈ lossesM M W c) : ∃ k, D = .lose c k ∧ lossd (kindM M c) = true := by
  unfold lossesM at h
  split at h
  · obtain ⟨m, _, rfl⟩ := List.mem_map.mp h
    exact ⟨m.1, rfl, by assumption⟩
  · cases h
theorem poss_mem {M : MN} {W : Wd} {D : Deed} (h : D ∈ possM M W) : (∃ r, r < M.R.length ∧ D ∈ ruleM M W r) ∨ (∃ c, c < M.C.length ∧ D ∈ lossesM M W c) := by
  unfold possM at h
  rcases List.mem_append.mp h with h | h
  · obtain ⟨l, hl, hD⟩ := List.mem_flatten.mp h
    obtain ⟨r, hr, rfl⟩ := List.mem_map.mp hl
    exact .inl ⟨r, List.mem_range.mp hr, hD⟩
  · obtain ⟨l, hl, hD⟩ := List.mem_flatten.mp h
    obtain ⟨r, hr, rfl⟩ := List.mem_map.mp hl
    exact .inr ⟨r, List.mem_range.mp hr, hD⟩
theorem poss_dv {M : MN} {W : Wd} {D : Deed} (h : D ∈ possM M W) : DV M D := by
  rcases poss_mem h with ⟨r, hr, h⟩ | ⟨c, hc, h⟩
  · rcases (rule_mem h).2 with ⟨rfl, a, h1, h2⟩ | ⟨k, c, t, rfl, h1⟩
    · exact ⟨a, h1, h2⟩
    · exact ⟨c, t, h1⟩
  · obtain ⟨k, rfl, _⟩ := loss_mem h
    exact hc
theorem set_rows {B : Nat} {p : List (List (Nat × Nat))} {c : Nat} {r : List (Nat × Nat)} (h : ∀ x ∈ p, x.length ≤ B) (hr : r.length ≤ B + 1) : ∀ x ∈ p.set c r, x.length ≤ B + 1 := fun x hx => by
  rcases List.mem_or_eq_of_mem_set hx with h1 | rfl
  · exact Nat.le_trans (h x h1) (Nat.le_succ _)
  · exact hr
theorem WdOk.gone {M : MN} {W : Wd} {B : Nat} (h : WdOk M W B) (c k : Nat) : ∀ x ∈ gone W c k, x.length ≤ B + 1 :=
  set_rows h.b (Nat.le_trans (List.length_filter_le _ _) (Nat.le_trans (h.row c) (Nat.le_succ _)))
theorem WdOk.step {M : MN} {W : Wd} {B : Nat} (h : WdOk M W B) (D : Deed) : WdOk M (stepM M W D) (B + 1) := by
  have same : ∀ (s : List Nat), s.length = M.ps.length → WdOk M ⟨s, W.n, W.p⟩ (B + 1) := fun s hs => ⟨hs, h.ln, h.lp, fun x hx => Nat.le_trans (h.b x hx) (Nat.le_succ _)⟩
  have hg : ∀ (s : List Nat) (c k : Nat), s.length = M.ps.length → WdOk M ⟨s, W.n, Cw.gone W c k⟩ (B + 1) := fun s c k hs => ⟨hs, h.ln, by show (W.p.set _ _).length = _; rw [List.length_set]; exact h.lp, h.gone c k⟩
  cases D with
  | lose c k => exact hg W.s c k h.ls
  | act r =>
    show WdOk M (match M.R[r]? with | none => W | some R => _) (B + 1)
    cases M.R[r]? with
    | none => exact same W.s h.ls
    | some R =>
      show WdOk M (match R.a with | .send c k => _ | _ => _) (B + 1)
      cases R.a with
      | send c k =>
        refine ⟨by show (W.s.set _ _).length = _; rw [List.length_set]; exact h.ls, by show (W.n.set _ _).length = _; rw [List.length_set]; exact h.ln, by show (W.p.set _ _).length = _; rw [List.length_set]; exact h.lp, set_rows h.b ?_⟩
        rw [List.length_append]
        have := h.row c
        simp only [List.length_cons, List.length_nil]
        omega
      | do_ => exact same _ (by rw [List.length_set]; exact h.ls)
      | take c k => exact same _ (by rw [List.length_set]; exact h.ls)
  | take r k =>
    show WdOk M (match M.R[r]? with | none => W | some R => _) (B + 1)
    cases M.R[r]? with
    | none => exact same W.s h.ls
    | some R =>
      show WdOk M (match R.a with | .take c _ => _ | _ => _) (B + 1)
      cases R.a with
      | take c t => exact hg _ c k (by rw [List.length_set]; exact h.ls)
      | do_ => exact same _ (by rw [List.length_set]; exact h.ls)
      | send c t => exact same _ (by rw [List.length_set]; exact h.ls)
theorem start_ok (M : MN) : WdOk M (startM M) 0 := ⟨by simp [startM], by simp [startM], by simp [startM], fun r hr => by
  rw [(List.mem_replicate.mp hr).2]
  exact Nat.le_refl _⟩
theorem start_d (M : MN) : startD M.N = (startM M).d true := by
  show PyData.tuple [.tuple (List.replicate M.ps.length (.int 0)), .tuple (List.replicate (M.C.map Chn.d).length (.int 0)), .tuple (List.replicate (M.C.map Chn.d).length (.tuple []))] = PyData.tuple [.tuple ((List.replicate M.ps.length 0).map nD), .tuple ((List.replicate M.C.length 0).map nD), .tuple ((List.replicate M.C.length []).map (rowMD true))]
  rw [List.map_replicate, List.map_replicate, List.map_replicate, List.length_map]
  rfl
theorem poss_len {M : MN} {W : Wd} {B : Nat} (ok : MNOk M) (h : WdOk M W B) (hB : B ≤ 1000) : (possM M W).length ≤ 100000 := by
  unfold possM
  rw [List.length_append]
  have h1 := len_flat (ruleM M W) 1001 (List.range M.R.length) fun r _ => by have := rule_len h r; omega
  have h2 := len_flat (lossesM M W) 1000 (List.range M.C.length) fun r _ => by have := losses_len h r; omega
  rw [List.length_range] at h1 h2
  have := ok.lr
  have := ok.lc
  have h3 : M.R.length * 1001 ≤ 40 * 1001 := Nat.mul_le_mul_right _ (by omega)
  have h4 : M.C.length * 1000 ≤ 8 * 1000 := Nat.mul_le_mul_right _ (by omega)
  omega
theorem sm_up : ∀ {n : Nat} {d : PyData}, Sm n d → Sm (n + 1) d
  | 0, _, h => h.elim
  | n + 1, .list ds, h => ⟨h.1, fun d m => sm_up (h.2 d m)⟩
  | n + 1, .tuple ds, h => ⟨h.1, fun d m => sm_up (h.2 d m)⟩
  | n + 1, .dict _, h => h.elim
  | n + 1, .none, _ => True.intro
  | n + 1, .bool _, _ => True.intro
  | n + 1, .int _, _ => True.intro
  | n + 1, .str _, _ => True.intro
theorem sm_poss {M : MN} {W : Wd} {B : Nat} (ok : MNOk M) (h : WdOk M W B) (hB : B ≤ 1000) : Sm 5 (.tuple ((possM M W).map Deed.d)) := by
  refine ⟨by rw [List.length_map]; have := poss_len ok h hB; omega, fun d hd => ?_⟩
  obtain ⟨D, _, rfl⟩ := List.mem_map.mp hd
  cases D <;> exact ⟨by simp [Deed.ps], fun d hd => by
    simp only [Deed.ps, List.mem_cons, List.mem_nil_iff, or_false] at hd
    rcases hd with rfl | rfl | rfl <;> exact True.intro⟩
theorem sm_wd {M : MN} {W : Wd} {B : Nat} (ok : MNOk M) (h : WdOk M W B) (hB : B ≤ 1000) : Sm 5 (W.d true) := by
  have intsS : ∀ (l : List Nat) (n : Nat), l.length ≤ 1000 → Sm (n + 2) (.tuple (l.map nD)) := fun l n hl => ⟨by rw [List.length_map]; omega, fun d hd => by
    obtain ⟨k, _, rfl⟩ := List.mem_map.mp hd
    exact True.intro⟩
  refine ⟨by simp, fun d hd => ?_⟩
  simp only [List.mem_cons, List.mem_nil_iff, or_false] at hd
  rcases hd with rfl | rfl | rfl
  · exact intsS W.s 2 (by rw [h.ls]; have := ok.lp; omega)
  · exact intsS W.n 2 (by rw [h.ln]; have := ok.lc; omega)
  · refine ⟨by rw [List.length_map, h.lp]; have := ok.lc; omega, fun d hd => ?_⟩
    obtain ⟨r, hr, rfl⟩ := List.mem_map.mp hd
    have := h.b r hr
    refine ⟨by rw [List.length_map]; omega, fun d hd => ?_⟩
    obtain ⟨m, _, rfl⟩ := List.mem_map.mp hd
    exact ⟨by simp, fun d hd => by
      simp only [List.mem_cons, List.mem_nil_iff, or_false] at hd
      rcases hd with rfl | rfl <;> exact True.intro⟩
theorem nD_inj {a b : Nat} (h : nD a = nD b) : a = b := by
  have h2 : (a : Int) = (b : Int) := PyData.int.inj h
  omega
theorem deed_inj {D D' : Deed} (h : D.ps = D'.ps) : D = D' := by
  cases D <;> cases D' <;> simp only [Deed.ps, List.cons.injEq, and_true] at h
  · rw [nD_inj h.2]
  · exact absurd h.2.2 (by simp)
  · exact absurd h.2.2 (by simp)
  · exact absurd h.2.2 (by simp)
  · rw [nD_inj h.2.1, nD_inj h.2.2]
  · exact absurd (PyData.str.inj h.1) (by decide +kernel)
  · exact absurd h.2.2 (by simp)
  · exact absurd (PyData.str.inj h.1) (by decide +kernel)
  · rw [nD_inj h.2.1, nD_inj h.2.2]
theorem Acc.newL {l p : Addr} {G H G1 H1 : Hp} {ws : List V} (g : Gro none G H G1 H1) (hp : H1 p = none) : Acc p G H G1 (L2.upd H1 p (.lst ws)) ws := ⟨g.trans0 (Gro.up g.w (Ex.new hp)), g.w.back hp, upd_same, g.ex.back hp⟩
/-! a box, and a list that grows -/
section
variable {b l : Addr} {G H G1 H1 : Hp} {us vs ws : List V} {o : HO}
theorem St.cell (s : St b G H G1 H1 us) (gl : G1 l = none) (hl : H l = none) (ne : b ≠ l) : St b G H G1 (L2.upd H1 l o) us := ⟨s.gr.cell gl hl, s.gb, upd_mu s.hb ne⟩
theorem St.knowC (s : St b G H G1 H1 us) (gl : G1 l = none) (hl : H l = none) (ne : b ≠ l) (h : H1 l = some o) : St b G H (L2.upd G1 l o) H1 us := ⟨s.gr.know gl hl h, by rw [upd_ne ne]; exact s.gb, s.hb⟩
theorem St.fresh (s : St b G H G1 H1 us) (hp : H1 l = none) : H l = none := s.gr.fresh hp (Ne.symm (s.ne hp))
end
def pqN : Nat → Str
  | 0 => "p"
  | 1 => "q"
  | _ => "r"
def cdN : Nat → Str
  | 0 => "c"
  | 1 => "d"
  | 2 => "e"
  | _ => "f"
theorem q_ixPQ {K : PySem.W.Frag} {H : Hp} {Q : VK} {i : Nat} (h : i < 3) (q : Q (.str (pqN i)) H) : rIx K (.str "pqr") (.int (i : Int)) H Q := by
  obtain rfl | rfl | rfl : i = 0 ∨ i = 1 ∨ i = 2 := by omega
  · exact .inr (.inr ⟨"pqr", 0, 112, rfl, rfl, by decide, by decide +kernel, q⟩)
  · exact .inr (.inr ⟨"pqr", 1, 113, rfl, rfl, by decide, by decide +kernel, q⟩)
  · exact .inr (.inr ⟨"pqr", 2, 114, rfl, rfl, by decide, by decide +kernel, q⟩)
theorem q_ixCD {K : PySem.W.Frag} {H : Hp} {Q : VK} {i : Nat} (h : i < 4) (q : Q (.str (cdN i)) H) : rIx K (.str "cdef") (.int (i : Int)) H Q := by
  obtain rfl | rfl | rfl | rfl : i = 0 ∨ i = 1 ∨ i = 2 ∨ i = 3 := by omega
  · exact .inr (.inr ⟨"cdef", 0, 99, rfl, rfl, by decide, by decide +kernel, q⟩)
  · exact .inr (.inr ⟨"cdef", 1, 100, rfl, rfl, by decide, by decide +kernel, q⟩)
  · exact .inr (.inr ⟨"cdef", 2, 101, rfl, rfl, by decide, by decide +kernel, q⟩)
  · exact .inr (.inr ⟨"cdef", 3, 102, rfl, rfl, by decide, by decide +kernel, q⟩)
theorem pq_mem {i : Nat} (h : i < 3) : pqN i ∈ poolPx := by
  obtain rfl | rfl | rfl : i = 0 ∨ i = 1 ∨ i = 2 := by omega
  all_goals decide +kernel
theorem cd_mem {i : Nat} (h : i < 4) : cdN i ∈ poolCx := by
  obtain rfl | rfl | rfl | rfl : i = 0 ∨ i = 1 ∨ i = 2 ∨ i = 3 := by omega
  all_goals decide +kernel
theorem pq_nodup {m : Nat} (h : m ≤ 3) : ((List.range m).map pqN).Nodup := by
  obtain rfl | rfl | rfl | rfl : m = 0 ∨ m = 1 ∨ m = 2 ∨ m = 3 := by omega
  all_goals decide +kernel
theorem cd_nodup {m : Nat} (h : m ≤ 4) : ((List.range m).map cdN).Nodup := by
  obtain rfl | rfl | rfl | rfl | rfl : m = 0 ∨ m = 1 ∨ m = 2 ∨ m = 3 ∨ m = 4 := by omega
  all_goals decide +kernel
end Cw

set_option maxHeartbeats 4000000
local macro_rules | `(tactic| walk_at "ex") => `(tactic| first
  | assumption
  | exact Cw.Ex.refl _
  | ((refine Cw.Ex.trans ?_ (Cw.Ex.new (by assumption))); walk_at "ex")
  | ((refine Cw.Ex.mut ?_ (by assumption)); walk_at "ex")
  | ((refine Cw.Ex.trans ?_ (by assumption)); walk_at "ex"))
local macro_rules | `(tactic| walk_at "at") => `(tactic| first
  | assumption
  | exact L2.upd_same
  | ((refine Cw.upd_old ?_ (by assumption)); walk_at "at")
  | ((refine Cw.upd_mu ?_ (by assumption)); walk_at "at")
  | ((refine Cw.Ex.ap (by assumption) ?_); walk_at "at"))
local macro_rules | `(tactic| walk_at "rp") => `(tactic| first
  | assumption
  | exact Cw.Rp.int _ | exact Cw.Rp.str _ | exact Cw.Rp.bl _ | exact Cw.Rp.non
  | ((refine Cw.Rp.mono (by assumption) ?_); walk_at "rp"))
local macro_rules | `(tactic| walk_at "gro") => `(tactic| first
  | assumption
  | (refine Cw.Gro.up ?_ ?_ <;> walk_at "ex"))
local macro_rules | `(tactic| walk_at "nt") => `(tactic| first
  | assumption
  | ((refine Cw.NetAt.mono (by assumption) ?_); walk_at "nt"))
local macro_rules | `(tactic| walk_at "lay") => `(tactic| first
  | exact Cw.Lay.nil
  | (apply Cw.Lay.snoc <;> first | assumption | walk_at "lay"))
local macro_rules | `(tactic| walk_at "mem") => `(tactic| first
  | exact List.Mem.head _
  | ((refine List.Mem.tail _ ?_); walk_at "mem"))
local macro_rules | `(tactic| walk_at "rpn") => `(tactic| first
  | exact Cw.Rp.int _ | exact Cw.Rp.str _ | exact Cw.Rp.bl _ | exact Cw.Rp.non
  | assumption
  | (refine Cw.Rp.mono (by assumption) (by assumption))
  | (refine Cw.Rp.tupK (by assumption) (by walk_at "mem") ?_; walk_at "rps")
  | (refine Cw.Rp.lstK (by assumption) (by walk_at "mem") ?_; walk_at "rps"))
local macro_rules | `(tactic| walk_at "rps") => `(tactic| first
  | exact Cw.Rps.nil
  | (refine Cw.Rps.cons (by walk_at "rpn") ?_; walk_at "rps"))
local macro_rules | `(tactic| walk_at "yes") => `(tactic| first | exact rfl | assumption | omega | decide)
local macro_rules | `(tactic| walk_at "no") => `(tactic| first | assumption | omega | (intro h; cases h; done) | decide)
local macro_rules | `(tactic| walk_at "qS") => `(tactic| with_reducible first
  | refine Cw.q_c ?_ | refine Cw.q_op ?_ | refine Cw.q_nil ?_ | refine Cw.q_cons ?_ | refine Cw.q_call ?_ | refine Cw.q_cb ?_ | refine Cw.q_seq ?_ | refine Cw.q_asg ?_ | refine Cw.q_ifs ?_ | refine Cw.q_test ?_ | refine Cw.q_B ?_ | refine Cw.q_ret ?_
  | refine Cw.q_next ?_ | refine Cw.q_drop ?_ | refine Cw.q_not ?_ | refine Cw.q_and ?_ | refine Cw.q_or ?_ | refine Cw.q_andV ?_ | refine Cw.q_orV ?_ | refine Cw.q_notV ?_ | refine Cw.q_ife ?_
  | refine Cw.q_tup ?_ | refine Cw.q_lst ?_ | refine Cw.q_un ?_ | refine Cw.q_sl ?_ | refine Cw.q_no ?_ | refine Cw.q_part ?_ | refine Cw.q_forR1 ?_ | refine Cw.q_lcR1 ?_ | refine Cw.q_name ?_ | refine Cw.q_asgG ?_ | refine Cw.q_sub ?_ | refine Cw.q_retN ?_ | refine Cw.q_gcons ?_ | refine Cw.q_gnil ?_ | refine Cw.q_m1 ?_ | refine Cw.q_kw ?_ | refine Cw.q_chain ?_ | refine Cw.q_yes ?_ | refine Cw.q_fld ?_ | refine Cw.q_sfld ?_ | refine Cw.q_mkS ?_ | refine Cw.q_lenSet ?_ | refine Cw.q_bm ?_ | refine Cw.q_bm0 ?_ | refine Cw.q_tryA ?_ | refine Cw.q_callS ?_ | refine Cw.q_raise ?_ | refine Cw.q_xat ?_ | refine Cw.q_as ?_ | refine Cw.q_star ?_ | refine Cw.q_par3 ?_ | refine Cw.q_par2 ?_)
local macro_rules | `(tactic| walk_at "qX") => `(tactic| with_reducible first
  | refine Cw.q_bl ?_ | refine Cw.q_blI ?_ | refine Cw.q_mkOne ?_ | refine Cw.q_intI ?_ | refine Cw.q_some ?_ | refine Cw.q_three ?_ | refine Cw.q_two ?_)
local macro_rules | `(tactic| walk_at "qO") => `(tactic| with_reducible first
  | refine Cw.q_add ?_ | refine Cw.q_sub2 ?_ | refine Cw.q_neg ?_ | refine Cw.q_int ?_ | refine Cw.q_intB ?_ | refine Cw.q_lt ?_ | refine Cw.q_le ?_ | refine Cw.q_gt ?_ | refine Cw.q_ge ?_
  | refine Cw.q_eqI ?_ | refine Cw.q_neI ?_ | refine Cw.q_eqS ?_ | refine Cw.q_neS ?_ | refine Cw.q_eqB ?_ | refine Cw.q_neB ?_ | refine Cw.q_isN ?_ | refine Cw.q_isntN ?_ | refine Cw.q_isB ?_)
local macro_rules | `(tactic| walk_at "q1") => `(tactic| first
  | walk_at "qS"
  | ((with_reducible show L2.tVar _ _ _ _); (refine Cw.q_var (by exact rfl) ?_))
  | ((with_reducible show Exists _); walk_at "qX")
  | ((with_reducible show L2.tXf _ _ _ _ _ _ _ _ _); (refine Cw.q_xfV (by exact rfl) (by first | exact L2.upd_same | assumption) Cw.lk1 ?_))
  | ((with_reducible show if _ = true then _ else _); first
      | (with_reducible refine Cw.q_ift ?_) | (with_reducible refine Cw.q_iff ?_)
      | ((with_reducible show if decide _ = true then _ else _); first | (refine Cw.q_ifdT (by walk_at "yes") ?_) | (refine Cw.q_ifdF (by walk_at "no") ?_))
      | ((with_reducible show if (!decide _) = true then _ else _); first | (refine Cw.q_ifndF (by walk_at "yes") ?_) | (refine Cw.q_ifndT (by walk_at "no") ?_))
      | (refine (Cw.q_ifTr (by exact rfl) ?_)) | (refine (Cw.q_ifFa (by exact rfl) ?_)))
  | walk_at "qO"
  | ((with_reducible show L2.rIx _ (L2.V.ref _) (L2.V.int _) (L2.upd _ _ _) _); (refine Cw.q_ixU (by exact rfl) ?_))
  | ((with_reducible show L2.rIx _ (L2.V.ref _) (L2.V.int _) _ _); (refine Cw.q_ixC (by walk_at "at") (by exact rfl) ?_))
  | ((with_reducible show Cw.rXat _ _ (L2.V.ref _) _ _); (refine Cw.q_xatF (by walk_at "at") (by walk_at "at") (by assumption) ?_))
  | ((with_reducible show Cw.rFld _ _ (L2.V.ref _) _ _); first
      | (refine Cw.q_fldP (by assumption) (by walk_at "nt") (by walk_at "ex") ?_; intro v hv)
      | (refine Cw.q_fldC (by assumption) (by walk_at "nt") (by walk_at "ex") ?_; intro v hv)
      | (refine Cw.q_fldR (by assumption) (by walk_at "nt") (by walk_at "ex") ?_; intro v hv))
  | ((with_reducible show L2.rSetL (L2.V.ref _) (L2.V.int _) _ (L2.upd _ _ _) _); (refine Cw.q_setU (by exact rfl) ?_))
  | ((with_reducible show L2.rI _ _ (L2.V.int _) (L2.V.int _) _ _); first
      | refine Cw.q_mod (by first | decide | assumption | omega) ?_
      | refine Cw.q_fdiv (by first | decide | (constructor <;> first | assumption | omega)) ?_
      | refine Cw.q_pow (by exact ⟨by decide, by decide, by decide⟩) ?_)
  | ((with_reducible show Cw.rMulB _ (L2.V.int _) (L2.V.int _) _ _); (refine Cw.q_mulI (by first | (left; decide) | (right; decide) | (left; constructor <;> omega) | (right; constructor <;> omega)) ?_))
  | ((with_reducible show List.length _ ≤ PySem.sizeLine ∧ _); (refine And.intro (Cw.line_of (by exact rfl)) ?_); intro p hp)
  | ((with_reducible show Cw.rAddA _ (L2.V.ref _) (L2.V.ref _) _ _); (refine Cw.q_cat (by walk_at "at") (by walk_at "at") (Cw.line_of (by exact rfl)) ?_); intro p hp)
  | ((with_reducible show L2.rAppend (L2.V.ref _) [_] _ _); (refine Cw.q_append (by walk_at "at") (by first | exact Cw.line_lt2 (by exact rfl) | exact Cw.line_lt (by omega)) ?_))
  | ((with_reducible show L2.tyV _ "list" (L2.V.ref _) _ ∧ _); (refine Cw.q_tyL (by walk_at "at") ?_))
  | ((with_reducible show L2.rIsi _ [_, L2.V.ty _] _ _); first
      | (with_reducible first | refine Cw.q_iNonInt ?_ | refine Cw.q_iNonBool ?_ | refine Cw.q_iNonStr ?_ | refine Cw.q_iNonLst ?_ | refine Cw.q_iNonTup ?_ | refine Cw.q_iBlInt ?_ | refine Cw.q_iBlBool ?_ | refine Cw.q_iBlStr ?_ | refine Cw.q_iBlLst ?_ | refine Cw.q_iBlTup ?_ | refine Cw.q_iInInt ?_ | refine Cw.q_iInBool ?_ | refine Cw.q_iInStr ?_ | refine Cw.q_iInLst ?_ | refine Cw.q_iInTup ?_ | refine Cw.q_iStInt ?_ | refine Cw.q_iStBool ?_ | refine Cw.q_iStStr ?_ | refine Cw.q_iStLst ?_ | refine Cw.q_iStTup ?_)
      | refine Cw.q_isiInt (by walk_at "rp") (by walk_at "ex") ?_
      | refine Cw.q_isiBool (by walk_at "rp") (by walk_at "ex") ?_
      | refine Cw.q_isiStr (by walk_at "rp") (by walk_at "ex") ?_
      | refine Cw.q_isiLst (by walk_at "rp") (by walk_at "ex") ?_
      | refine Cw.q_isiTup (by walk_at "rp") (by walk_at "ex") ?_)
  | ((with_reducible show L2.rIsiT _ [_, L2.V.ref _] _ _); first
      | refine Cw.q_isiTL (by walk_at "rp") (by walk_at "ex") (by first | assumption | exact L2.upd_same) ?_
      | refine Cw.q_isiLT (by walk_at "rp") (by walk_at "ex") (by first | assumption | exact L2.upd_same) ?_)
  | ((with_reducible show Cw.rLenA _ [L2.V.str _] _ _); (refine Cw.q_lenS (Nat.le_trans (Cw.shp_str (by assumption)) (by decide)) ?_))
  | ((with_reducible show Cw.rLenA _ [_] _ _); first
      | refine Cw.q_lenRT (by walk_at "rp") (by walk_at "ex") ?_
      | refine Cw.q_lenRL (by walk_at "rp") (by walk_at "ex") ?_))
local macro_rules | `(tactic| walk_at "q") => `(tactic| repeat walk_at "q1")
namespace Cw
open PySem PySem.Spec PyProof.Rows L2
def topS (i : Nat) : Stmt := PySem.Challenge.pw_cutweave_k05_deeds_done.main.body.getD i (.Pass ⟨0, 0, 0, 0⟩)
section
variable {P : Program} {w : World} {K : PySem.W.Frag} {mg : Str → Option Value} {base : Heap}
abbrev s__law_mix : Stmt := topS 42
abbrev N__law_mix : List Str := ["cell", "salt", "one"]
theorem sc__law_mix : FnScope N__law_mix ["cell", "salt"] (defScope s__law_mix) := ⟨rfl, rfl, rfl, by decide +kernel, rfl, by decide +kernel, by decide +kernel⟩
def sp_mix : Sp := fun vs H Q _ => ∃ c s : Int, vs = [.int c, .int s] ∧ ∀ r : Int, 0 ≤ r → Q (.int r) H
theorem c_mix {f : Addr} {fd : FuncData} (F : FnP K "_law_mix" s__law_mix f fd) (hm : mg "_law_mix" = some (.ref f)) (B : Blt mg) : Cal P w K mg base 1 "_law_mix" ["cell", "salt"] sp_mix := by
  refine cal_of F hm sc__law_mix (fun _ _ _ _ _ _ _ us hl => match us, hl with | [_, _], _ => rfl) (fun vs H Q E h => ?_) (fun cdv A outer s H vs Q E hr h => ?_)
  · obtain ⟨c, s, rfl, _⟩ := h
    rfl
  · obtain ⟨c, s, rfl, q⟩ := h
    have nd := sc__law_mix.nd
    refine ⟨_, [some _, some _, none], ((pss_cons (ps_set (i := 2) nd rfl (Or.inl rfl) (pe_op op_mod (pe_callTy call_intA (by rfl) B.int_ bo_int (pa_cons (pe_op (op_addK (K := K) rfl) (pe_op (op_addK (K := K) rfl) (pe_op (op_mulB (K := K) rfl) (pv 0) pe_int) (pe_op (op_mulB (K := K) rfl) (pv 1) pe_int)) pe_int) pa_nil)) pe_int))
      (pss_one (ps_ret (pe_op op_mod (pe_callTy call_intA (by rfl) B.int_ bo_int (pa_cons (pe_op (op_addK (K := K) rfl) (pe_op (op_addK (K := K) rfl) (pe_op (op_mulB (K := K) rfl) (pv 2) (pv 2)) (pe_op (op_mulB (K := K) rfl) (pv 2) pe_int)) (pe_op (op_mulB (K := K) rfl) (pv 1) pe_int)) pa_nil)) pe_int))))), rfl, ?_⟩
    walk_at "q"
    exact q _ (Int.emod_nonneg _ (by decide))
abbrev s__law_draw : Stmt := topS 44
abbrev N__law_draw : List Str := ["box", "many", "cell", "drawn"]
theorem sc__law_draw : FnScope N__law_draw ["box", "many"] (defScope s__law_draw) := ⟨rfl, rfl, rfl, by decide +kernel, rfl, by decide +kernel, by decide +kernel⟩
/-- a box of draws: what is left, digits, the next place, draws mixed, seed, the numbers -/
def BoxL (K : PySem.W.Frag) (G : Hp) (xs : List V) : Prop := ∃ (x0 x1 x2 x3 x4 : Int) (c : Addr) (ns : List Int), xs = [.int x0, .int x1, .int x2, .int x3, .int x4, .ref c] ∧ SqL K G c (ns.map V.int) ∧ 0 ≤ x2
def sp_draw (K : PySem.W.Frag) : Sp := fun vs H Q _ => ∃ (G : Hp) (b : Addr) (many : Int) (xs : List V), vs = [.ref b, .int many] ∧ Ex G H ∧ G b = none ∧ H b = some (.lst xs) ∧ BoxL K G xs ∧ (0 < many ∧ many < 1073741824) ∧
  ∀ (r : Int) (ys : List V), 0 ≤ r → r < many → BoxL K G ys → Q (.int r) (upd H b (.lst ys))
theorem c_draw {f : Addr} {fd : FuncData} (F : FnP K "_law_draw" s__law_draw f fd) (hm : mg "_law_draw" = some (.ref f)) (B : Blt mg) (C__law_mix : Cal P w K mg base 1 "_law_mix" ["cell", "salt"] sp_mix) : Cal P w K mg base 2 "_law_draw" ["box", "many"] (sp_draw K) := by
  refine cal_of F hm sc__law_draw (fun _ _ _ _ _ _ _ us hl => match us, hl with | [_, _], _ => rfl) (fun vs H Q E h => ?_) (fun cdv A outer s H vs Q E hr h => ?_)
  · obtain ⟨_, _, _, _, rfl, _⟩ := h
    rfl
  · obtain ⟨G, b, many, xs, rfl, eG, gb, hb, ⟨x0, x1, x2, x3, x4, c, ns, rfl, hS, h2⟩, hmny, q⟩ := h
    have nd := sc__law_draw.nd
    refine ⟨_, [some _, some _, none, none], ((pss_cut (ps_if (PW.pt (pw_and (pt_cmpR (op_eqK (K := K) rfl (hu64 hr)) (pe_ix (ix_seqK (K := K) rfl) (pv 0) pe_int (fun _ _ => rfl)) pe_int (nomark _)) (pw_and1 (pt_cmpR op_lt (pe_ix (ix_seqK (K := K) rfl) (pv 0) pe_int (fun _ _ => rfl)) (pe_callB (call_lenK (K := K) rfl) (by rfl) B.len_ bo_len (pa_cons (pe_ix (ix_seqK (K := K) rfl) (pv 0) pe_int (fun _ _ => rfl)) pa_nil)) (nomark _))))) (pss_cons (ps_set (i := 2) nd rfl (Or.inl rfl) (pe_ix (ix_seqK (K := K) rfl) (pe_ix (ix_seqK (K := K) rfl) (pv 0) pe_int (fun _ _ => rfl)) (pe_ix (ix_seqK (K := K) rfl) (pv 0) pe_int (fun _ _ => rfl)) (fun _ _ => rfl)))
      (pss_cons (ps_asg (pe_op (op_addK (K := K) rfl) (pe_ix (ix_seqK (K := K) rfl) (pv 0) pe_int (fun _ _ => rfl)) pe_int) (pg_sub (pv 0) pe_int set_list))
      (pss_cons (ps_asg (pe_op op_mod (pe_callTy call_intA (by rfl) B.int_ bo_int (pa_cons (pe_op (op_addK (K := K) rfl) (pe_op (op_mulB (K := K) rfl) (pe_ix (ix_seqK (K := K) rfl) (pv 0) pe_int (fun _ _ => rfl)) pe_int) (pv 2)) pa_nil)) pe_int) (pg_sub (pv 0) pe_int set_list))
      (pss_one (ps_if (pt_cmpR op_ge (pv 2) (pe_op op_pow pe_int pe_int) (nomark _)) (pss_cons (ps_asg (pe_op op_sub (pv 2) (pe_op op_pow pe_int pe_int)) (pg_sub (pv 0) pe_int set_list))
      (pss_one (ps_asg pe_int (pg_sub (pv 0) pe_int set_list)))) pss_nil))))) pss_nil)
      (pss_cons (ps_if (PW.pt (pw_and (pt_cmpR op_gt (pe_ix (ix_seqK (K := K) rfl) (pv 0) pe_int (fun _ _ => rfl)) pe_int (nomark _)) (pw_and1 (pt_cmpR op_gt (pe_ix (ix_seqK (K := K) rfl) (pv 0) pe_int (fun _ _ => rfl)) pe_int (nomark _))))) (pss_cons (ps_set (i := 3) nd rfl (Or.inl rfl) (pe_op op_mod (pe_callTy call_intA (by rfl) B.int_ bo_int (pa_cons (pe_ix (ix_seqK (K := K) rfl) (pv 0) pe_int (fun _ _ => rfl)) pa_nil)) (pv 1)))
      (pss_cons (ps_asg (pe_op op_fdiv (pe_ix (ix_seqK (K := K) rfl) (pv 0) pe_int (fun _ _ => rfl)) (pv 1)) (pg_sub (pv 0) pe_int set_list))
      (pss_cons (ps_asg (pe_op op_sub (pe_ix (ix_seqK (K := K) rfl) (pv 0) pe_int (fun _ _ => rfl)) pe_int) (pg_sub (pv 0) pe_int set_list))
      (pss_one (ps_ret (pv 3)))))) pss_nil)
      (pss_cons (ps_asg pe_int (pg_sub (pv 0) pe_int set_list))
      (pss_cons (ps_asg (pe_op (op_addK (K := K) rfl) (pe_ix (ix_seqK (K := K) rfl) (pv 0) pe_int (fun _ _ => rfl)) pe_int) (pg_sub (pv 0) pe_int set_list))
      (pss_one (ps_ret (pe_op op_mod (pe_callTy call_intA (by rfl) B.int_ bo_int (pa_cons (pe_callC C__law_mix (hr.mono (by omega)) (by rfl) (pa_cons (pe_ix (ix_seqK (K := K) rfl) (pv 0) pe_int (fun _ _ => rfl)) (pa_cons (pe_ix (ix_seqK (K := K) rfl) (pv 0) pe_int (fun _ _ => rfl)) pa_nil))) pa_nil)) (pv 1))))))))), rfl, ?_⟩
    rw [← upd_id hb]
    refine q_cut (M := fun σ' H' => ∃ z x0 x1 x2 x3 x4, σ' = [some (.ref b), some (.int many), z, none] ∧ H' = upd H b (.lst [.int x0, .int x1, .int x2, .int x3, .int x4, .ref c]) ∧ 0 ≤ x2) ?_ ?_
    · walk_at "q"
      refine q_ifd (fun _ => ?_) (fun _ => ?_)
      · walk_at "q"
        refine q_lenC (Ex.sl (Ex.mut eG gb) hS) ?_
        walk_at "q"
        refine q_ifd (fun hl => ?_) (fun _ => ?_)
        · walk_at "q"
          refine q_ixInts (Ex.sl (Ex.mut eG gb) hS) h2 (by simpa using hl) (fun cell _ => ?_)
          walk_at "q"
          refine q_ifd (fun _ => ?_) (fun _ => ?_)
          · walk_at "q"
            exact ⟨_, _, _, _, _, _, rfl, rfl, by omega⟩
          · walk_at "q"
            exact ⟨_, _, _, _, _, _, rfl, rfl, by omega⟩
        · walk_at "q"
          exact ⟨_, _, _, _, _, _, rfl, rfl, by omega⟩
      · walk_at "q"
        exact ⟨_, _, _, _, _, _, rfl, rfl, by omega⟩
    · rintro _ _ ⟨z, x0, x1, x2, x3, x4, rfl, rfl, h2⟩
      obtain ⟨hm0, hm1⟩ := hmny
      walk_at "q"
      refine q_ifd (fun _ => ?_) (fun _ => ?_)
      · walk_at "q"
        refine q_ifd (fun _ => ?_) (fun _ => ?_)
        · walk_at "q"
          exact q _ _ (Int.emod_nonneg _ (by omega)) (Int.emod_lt_of_pos _ hm0) ⟨_, _, _, _, _, _, _, rfl, hS, h2⟩
        · walk_at "q"
          refine ⟨_, _, rfl, fun r _ => ?_⟩
          walk_at "q"
          exact q _ _ (Int.emod_nonneg _ (by omega)) (Int.emod_lt_of_pos _ hm0) ⟨_, _, _, _, _, _, _, rfl, hS, h2⟩
      · walk_at "q"
        refine ⟨_, _, rfl, fun r _ => ?_⟩
        walk_at "q"
        exact q _ _ (Int.emod_nonneg _ (by omega)) (Int.emod_lt_of_pos _ hm0) ⟨_, _, _, _, _, _, _, rfl, hS, h2⟩
abbrev s__law_alike : Stmt := topS 45
abbrev N__law_alike : List Str := ["told", "due", "k"]
theorem sc__law_alike : FnScope N__law_alike ["told", "due"] (defScope s__law_alike) := ⟨rfl, rfl, rfl, by decide +kernel, rfl, by decide +kernel, by decide +kernel⟩
/-- two values of one worth are alike -/
def sp_alike (K : PySem.W.Frag) (n : Nat) : Sp := fun vs H Q _ => ∃ (G : Hp) (v u : V) (d : PyData), vs = [v, u] ∧ Ex G H ∧ Rp K G v d ∧ Rp K G u d ∧ Sm n d ∧ ∀ H', Ex H H' → Q (.bl true) H'
theorem c_alike {f : Addr} {fd : FuncData} (F : FnP K "_law_alike" s__law_alike f fd) (hm : mg "_law_alike" = some (.ref f)) (B : Blt mg) (n : Nat) : Cal P w K mg base (n + 1) "_law_alike" ["told", "due"] (sp_alike K n) := by
  induction n with
  | zero => exact cal_never F hm (fun _ _ _ _ _ _ _ us hl => match us, hl with | [_, _], _ => rfl) (fun vs H Q E h => by
      obtain ⟨_, _, _, _, _, _, _, _, h, _⟩ := h
      exact h)
  | succ n C__law_alike =>
  refine cal_of F hm sc__law_alike (fun _ _ _ _ _ _ _ us hl => match us, hl with | [_, _], _ => rfl) (fun vs H Q E h => ?_) (fun cdv A outer s H vs Q E hr h => ?_)
  · obtain ⟨_, _, _, _, rfl, _⟩ := h
    rfl
  · obtain ⟨G, v, u, d, rfl, eG, hv, hu, hd, q⟩ := h
    have nd := sc__law_alike.nd
    refine ⟨_, [some _, some _, none], ((pss_cons (ps_if (pt_val (pe_callB (call_isiTQ (K := K) rfl) (by rfl) B.isinstance_ bo_isinstance (pa_cons (pv 1) (pa_cons (pe_tup (pa_cons (pe_bty (by rfl) B.tuple_ bo_tuple) (pa_cons (pe_bty (by rfl) B.list_ bo_list) pa_nil))) pa_nil)))) (pss_cons (ps_if (PW.pt (pw_or (pt_cmpR (op_neK (K := K) rfl (hu64 hr)) (pe_callB (call_isiQ (K := K) rfl) (by rfl) B.isinstance_ bo_isinstance (pa_cons (pv 0) (pa_cons (pe_bty (by rfl) B.tuple_ bo_tuple) pa_nil))) (pe_callB (call_isiQ (K := K) rfl) (by rfl) B.isinstance_ bo_isinstance (pa_cons (pv 1) (pa_cons (pe_bty (by rfl) B.tuple_ bo_tuple) pa_nil))) (nomark _)) (pw_or1 (pt_cmpR (op_neK (K := K) rfl (hu64 hr)) (pe_callB (call_isiQ (K := K) rfl) (by rfl) B.isinstance_ bo_isinstance (pa_cons (pv 0) (pa_cons (pe_bty (by rfl) B.list_ bo_list) pa_nil))) (pe_callB (call_isiQ (K := K) rfl) (by rfl) B.isinstance_ bo_isinstance (pa_cons (pv 1) (pa_cons (pe_bty (by rfl) B.list_ bo_list) pa_nil))) (nomark _))))) (pss_one (ps_ret pe_bl)) pss_nil)
      (pss_cons (ps_if (pt_cmpR (op_neK (K := K) rfl (hu64 hr)) (pe_callB (call_lenK (K := K) rfl) (by rfl) B.len_ bo_len (pa_cons (pv 0) pa_nil)) (pe_callB (call_lenK (K := K) rfl) (by rfl) B.len_ bo_len (pa_cons (pv 1) pa_nil)) (nomark _)) (pss_one (ps_ret pe_bl)) pss_nil)
      (pss_cons (ps_for PassesOwn.never rfl (pi_range1 (by rfl) B.range_ (pa_cons (pe_callB (call_lenK (K := K) rfl) (by rfl) B.len_ bo_len (pa_cons (pv 1) pa_nil)) pa_nil)) (pg_name (i := 2) nd rfl (by first | exact Or.inl rfl | exact Or.inr rfl)) (pss_one (ps_if (pt_not (pt_val (pe_callC C__law_alike (hr.mono (by omega)) (by rfl) (pa_cons (pe_ix (ix_seqK (K := K) rfl) (pv 0) (pv 2) (fun _ _ => rfl)) (pa_cons (pe_ix (ix_seqK (K := K) rfl) (pv 1) (pv 2) (fun _ _ => rfl)) pa_nil))))) (pss_one (ps_ret pe_bl)) pss_nil)))
      (pss_one (ps_ret pe_bl))))) pss_nil)
      (pss_cons (ps_if (pt_cmpR op_isA (pv 1) pe_non (nomark _)) (pss_one (ps_ret (pe_cmpR op_isA (pv 0) pe_non (nomark _)))) pss_nil)
      (pss_cons (ps_if (pt_val (pe_callB (call_isiQ (K := K) rfl) (by rfl) B.isinstance_ bo_isinstance (pa_cons (pv 1) (pa_cons (pe_bty (by rfl) B.bool_ bo_bool) pa_nil)))) (pss_one (ps_ret (pe_and (pe_callB (call_isiQ (K := K) rfl) (by rfl) B.isinstance_ bo_isinstance (pa_cons (pv 0) (pa_cons (pe_bty (by rfl) B.bool_ bo_bool) pa_nil))) (pe_one (pe_cmpR (op_eqK (K := K) rfl (hu64 hr)) (pv 0) (pv 1) (nomark _)))))) pss_nil)
      (pss_cons (ps_if (pt_val (pe_callB (call_isiQ (K := K) rfl) (by rfl) B.isinstance_ bo_isinstance (pa_cons (pv 1) (pa_cons (pe_bty (by rfl) B.str_ bo_str) pa_nil)))) (pss_one (ps_ret (pe_and (pe_callB (call_isiQ (K := K) rfl) (by rfl) B.isinstance_ bo_isinstance (pa_cons (pv 0) (pa_cons (pe_bty (by rfl) B.str_ bo_str) pa_nil))) (pe_one (pe_cmpR (op_eqK (K := K) rfl (hu64 hr)) (pv 0) (pv 1) (nomark _)))))) pss_nil)
      (pss_one (ps_ret (pe_and (pe_callB (call_isiQ (K := K) rfl) (by rfl) B.isinstance_ bo_isinstance (pa_cons (pv 0) (pa_cons (pe_bty (by rfl) B.int_ bo_int) pa_nil))) (pe_and (pe_not (pe_callB (call_isiQ (K := K) rfl) (by rfl) B.isinstance_ bo_isinstance (pa_cons (pv 0) (pa_cons (pe_bty (by rfl) B.bool_ bo_bool) pa_nil)))) (pe_one (pe_cmpR (op_eqK (K := K) rfl (hu64 hr)) (pv 0) (pv 1) (nomark _)))))))))))), rfl, ?_⟩
    walk_at "q"
    cases d with
    | none =>
      cases hv
      cases hu
      walk_at "q"
      exact q_bt (by simp) (q _ (by walk_at "ex"))
    | bool b =>
      cases hv
      cases hu
      walk_at "q"
      exact q_bt (by simp) (q _ (by walk_at "ex"))
    | int i =>
      cases hv
      cases hu
      walk_at "q"
      exact q_bt (by simp) (q _ (by walk_at "ex"))
    | str x =>
      cases hv
      cases hu
      walk_at "q"
      exact q_bt (by simp) (q _ (by walk_at "ex"))
    | list ds =>
      walk_at "q"
      obtain ⟨hl, hd⟩ := hd
      refine q_rng1 ds.length hl (fun _ σ' H' => ∃ z, σ' = [some v, some u, z] ∧ Ex H H') ⟨_, rfl, by walk_at "ex"⟩ ?_ ?_
      · rintro i _ H' hi ⟨z, rfl, eH⟩
        walk_at "q"
        refine q_ixRL hv (by walk_at "ex") (atI_at hi) (fun v1 hv1 => ?_)
        walk_at "q"
        refine q_ixRL hu (by walk_at "ex") (atI_at hi) (fun u1 hu1 => ?_)
        walk_at "q"
        refine ⟨G, v1, u1, _, rfl, by walk_at "ex", hv1, hu1, hd _ (List.getElem_mem hi), fun H2 e2 => ?_⟩
        walk_at "q"
        exact ⟨_, rfl, by walk_at "ex"⟩
      · rintro _ H' ⟨z, rfl, eH⟩
        walk_at "q"
        exact q _ eH
    | tuple ds =>
      walk_at "q"
      obtain ⟨hl, hd⟩ := hd
      refine q_rng1 ds.length hl (fun _ σ' H' => ∃ z, σ' = [some v, some u, z] ∧ Ex H H') ⟨_, rfl, by walk_at "ex"⟩ ?_ ?_
      · rintro i _ H' hi ⟨z, rfl, eH⟩
        walk_at "q"
        refine q_ixRT hv (by walk_at "ex") (atI_at hi) (fun v1 hv1 => ?_)
        walk_at "q"
        refine q_ixRT hu (by walk_at "ex") (atI_at hi) (fun u1 hu1 => ?_)
        walk_at "q"
        refine ⟨G, v1, u1, _, rfl, by walk_at "ex", hv1, hu1, hd _ (List.getElem_mem hi), fun H2 e2 => ?_⟩
        walk_at "q"
        exact ⟨_, rfl, by walk_at "ex"⟩
      · rintro _ H' ⟨z, rfl, eH⟩
        walk_at "q"
        exact q _ eH
    | dict ds => exact (by cases hv)
abbrev s__law_box : Stmt := topS 43
abbrev N__law_box : List Str := ["script", "at", "cell"]
theorem sc__law_box : FnScope N__law_box ["script", "at"] (defScope s__law_box) := ⟨rfl, rfl, rfl, by decide +kernel, rfl, by decide +kernel, by decide +kernel⟩
/-- a new box over the script -/
def sp_box (K : PySem.W.Frag) : Sp := fun vs H Q _ => ∃ (s : Addr) (ns : List Int) (at_ : Int), vs = [.ref s, .int at_] ∧ SqL K H s (ns.map V.int) ∧ ns.length ≤ 1000 ∧
  ∀ c b, H c = none → upd H c (.lst (ns.map V.int)) b = none → Q (.ref b) (upd (upd H c (.lst (ns.map V.int))) b (.lst [.int 0, .int 0, .int at_, .int 0, .int at_, .ref c]))
theorem c_box {f : Addr} {fd : FuncData} (F : FnP K "_law_box" s__law_box f fd) (hm : mg "_law_box" = some (.ref f)) (B : Blt mg) : Cal P w K mg base 1 "_law_box" ["script", "at"] (sp_box K) := by
  refine cal_of F hm sc__law_box (fun _ _ _ _ _ _ _ us hl => match us, hl with | [_, _], _ => rfl) (fun vs H Q E h => ?_) (fun cdv A outer s H vs Q E hr h => ?_)
  · obtain ⟨_, _, _, rfl, _⟩ := h
    rfl
  · obtain ⟨sc, ns, at_, rfl, hS, hl, q⟩ := h
    have nd := sc__law_box.nd
    refine ⟨_, [some _, some _, none], ((pss_one (ps_ret (pe_lst (pa_cons pe_int (pa_cons pe_int (pa_cons (pv 1) (pa_cons pe_int (pa_cons (pv 1) (pa_cons (pe_lc (own := [("cell", 2)]) rfl nd (pi_seqK (K := K) rfl (pv 0)) (blkOk_by (N := N__law_box) (sc := defScope s__law_box) (by decide +kernel)) (fun _ _ _ _ _ => (pg_name (i := 2) nd rfl (by first | exact Or.inl rfl | exact Or.inr rfl))) (fun _ _ _ _ _ => pts_nil) (fun _ _ _ _ _ => (pe_callTy call_intA (by rfl) B.int_ bo_int (pa_cons (pv 2) pa_nil)))) pa_nil)))))))))), rfl, ?_⟩
    walk_at "q"
    refine q_lcL ?_
    walk_at "q"
    refine q_lst_lc hS (fun D hD => ⟨fun i H' => H' = upd H D (.lst ((ns.take i).map V.int)), rfl, ?_, ?_, ?_⟩)
    · rintro i H' hi rfl
      exact Ex.sl (Ex.new hD) hS
    · rintro i x H' hx rfl
      obtain ⟨n, hn, rfl⟩ : ∃ n, ns[i]? = some n ∧ x = V.int n := by
        rw [List.getElem?_map] at hx
        cases e : ns[i]? with
        | none =>
          rw [e] at hx
          cases hx
        | some n =>
          rw [e] at hx
          exact ⟨n, rfl, (Option.some.inj hx).symm⟩
      walk_at "q"
      refine ⟨rfl, ?_⟩
      walk_at "q"
      refine ⟨_, upd_same, line_lt ?_, ?_⟩
      · simp
        omega
      · rw [upd_upd]
        have e : (ns.take (i + 1)).map V.int = (ns.take i).map V.int ++ [V.int n] := by
          rw [List.take_add_one, hn]
          simp
        show L2.upd H D _ = L2.upd H D _
        rw [e]
    · rintro H' rfl
      rw [List.length_map, List.take_length]
      walk_at "q"
      exact q _ _ hD (by assumption)
abbrev s_is_number : Stmt := topS 5
abbrev N_is_number : List Str := ["value"]
theorem sc_is_number : FnScope N_is_number ["value"] (defScope s_is_number) := ⟨rfl, rfl, rfl, by decide +kernel, rfl, by decide +kernel, by decide +kernel⟩
theorem c_is_number {f : Addr} {fd : FuncData} (F : FnP K "is_number" s_is_number f fd) (hm : mg "is_number" = some (.ref f)) (B : Blt mg) : Cal P w K mg base 1 "is_number" ["value"] (sp1 K isNum) := by
  refine cal_of F hm sc_is_number (fun _ _ _ _ _ _ _ us hl => match us, hl with | [_], _ => rfl) (fun vs H Q E h => ?_) (fun cdv A outer s H vs Q E hr h => ?_)
  · obtain ⟨_, _, _, rfl, _⟩ := h
    rfl
  · obtain ⟨G, v, d, rfl, eG, hv, hd, q⟩ := h
    have nd := sc_is_number.nd
    refine ⟨_, [some _], ((pss_one (ps_ret (pe_and (pe_callB (call_isiQ (K := K) rfl) (by rfl) B.isinstance_ bo_isinstance (pa_cons (pv 0) (pa_cons (pe_bty (by rfl) B.int_ bo_int) pa_nil))) (pe_and (pe_not (pe_callB (call_isiQ (K := K) rfl) (by rfl) B.isinstance_ bo_isinstance (pa_cons (pv 0) (pa_cons (pe_bty (by rfl) B.bool_ bo_bool) pa_nil)))) (pe_one (pe_cmpR op_ge (pv 0) pe_int (nomark _)))))))), rfl, ?_⟩
    walk_at "q"
    cases d with
    | int i => cases hv; walk_at "q"; exact q _ (by walk_at "ex")
    | dict _ => exact (rp_nodict hv).elim
    | _ => cases hv; walk_at "q"; exact q _ (by walk_at "ex")
abbrev s_is_below : Stmt := topS 6
abbrev N_is_below : List Str := ["value", "end"]
theorem sc_is_below : FnScope N_is_below ["value", "end"] (defScope s_is_below) := ⟨rfl, rfl, rfl, by decide +kernel, rfl, by decide +kernel, by decide +kernel⟩
theorem c_is_below {f : Addr} {fd : FuncData} (F : FnP K "is_below" s_is_below f fd) (hm : mg "is_below" = some (.ref f)) (C_is_number : Cal P w K mg base 1 "is_number" ["value"] (sp1 K isNum)) : Cal P w K mg base 2 "is_below" ["value", "end"] (sp2 K isBelow) := by
  refine cal_of F hm sc_is_below (fun _ _ _ _ _ _ _ us hl => match us, hl with | [_, _], _ => rfl) (fun vs H Q E h => ?_) (fun cdv A outer s H vs Q E hr h => ?_)
  · obtain ⟨_, _, _, _, rfl, _⟩ := h
    rfl
  · obtain ⟨G, v, n, d, rfl, eG, hv, hd, q⟩ := h
    have nd := sc_is_below.nd
    refine ⟨_, [some _, some _], ((pss_one (ps_ret (pe_and (pe_callC C_is_number (hr.mono (by omega)) (by rfl) (pa_cons (pv 0) pa_nil)) (pe_one (pe_cmpR op_lt (pv 0) (pv 1) (nomark _))))))), rfl, ?_⟩
    walk_at "q"
    refine ⟨G, v, d, rfl, eG, hv, hd, fun H1 e1 => ?_⟩
    walk_at "q"
    cases d with
    | int i =>
      cases hv
      refine q_ifb (fun h => ?_) (fun h => ?_)
      · walk_at "q"
        exact q_bt' (by show (decide (0 ≤ i) && decide (i < n)) = _; rw [show decide (0 ≤ i) = true from h, Bool.true_and]) (q _ (by walk_at "ex"))
      · exact q_bt' (by show (decide (0 ≤ i) && decide (i < n)) = _; rw [show decide (0 ≤ i) = false from h, Bool.false_and]) (q _ (by walk_at "ex"))
    | dict _ => exact (rp_nodict hv).elim
    | _ => walk_at "q"; exact q _ (by walk_at "ex")
abbrev s_is_sequence : Stmt := topS 7
abbrev N_is_sequence : List Str := ["value"]
theorem sc_is_sequence : FnScope N_is_sequence ["value"] (defScope s_is_sequence) := ⟨rfl, rfl, rfl, by decide +kernel, rfl, by decide +kernel, by decide +kernel⟩
theorem c_is_sequence {f : Addr} {fd : FuncData} (F : FnP K "is_sequence" s_is_sequence f fd) (hm : mg "is_sequence" = some (.ref f)) (B : Blt mg) : Cal P w K mg base 1 "is_sequence" ["value"] (sp1 K dSeq) := by
  refine cal_of F hm sc_is_sequence (fun _ _ _ _ _ _ _ us hl => match us, hl with | [_], _ => rfl) (fun vs H Q E h => ?_) (fun cdv A outer s H vs Q E hr h => ?_)
  · obtain ⟨_, _, _, rfl, _⟩ := h
    rfl
  · obtain ⟨G, v, d, rfl, eG, hv, hd, q⟩ := h
    have nd := sc_is_sequence.nd
    refine ⟨_, [some _], ((pss_one (ps_ret (pe_callB (call_isiTQ (K := K) rfl) (by rfl) B.isinstance_ bo_isinstance (pa_cons (pv 0) (pa_cons (pe_tup (pa_cons (pe_bty (by rfl) B.list_ bo_list) (pa_cons (pe_bty (by rfl) B.tuple_ bo_tuple) pa_nil))) pa_nil)))))), rfl, ?_⟩
    walk_at "q"
    exact q _ (by walk_at "ex")
abbrev s_is_row : Stmt := topS 8
abbrev N_is_row : List Str := ["value", "many"]
theorem sc_is_row : FnScope N_is_row ["value", "many"] (defScope s_is_row) := ⟨rfl, rfl, rfl, by decide +kernel, rfl, by decide +kernel, by decide +kernel⟩
theorem c_is_row {f : Addr} {fd : FuncData} (F : FnP K "is_row" s_is_row f fd) (hm : mg "is_row" = some (.ref f)) (B : Blt mg) (C_is_sequence : Cal P w K mg base 1 "is_sequence" ["value"] (sp1 K dSeq)) : Cal P w K mg base 2 "is_row" ["value", "many"] (sp2 K isRow) := by
  refine cal_of F hm sc_is_row (fun _ _ _ _ _ _ _ us hl => match us, hl with | [_, _], _ => rfl) (fun vs H Q E h => ?_) (fun cdv A outer s H vs Q E hr h => ?_)
  · obtain ⟨_, _, _, _, rfl, _⟩ := h
    rfl
  · obtain ⟨G, v, n, d, rfl, eG, hv, hd, q⟩ := h
    have nd := sc_is_row.nd
    refine ⟨_, [some _, some _], ((pss_one (ps_ret (pe_and (pe_callC C_is_sequence (hr.mono (by omega)) (by rfl) (pa_cons (pv 0) pa_nil)) (pe_one (pe_cmpR (op_eqK (K := K) rfl (hu64 hr)) (pe_callB (call_lenK (K := K) rfl) (by rfl) B.len_ bo_len (pa_cons (pv 0) pa_nil)) (pv 1) (nomark _))))))), rfl, ?_⟩
    walk_at "q"
    refine ⟨G, v, d, rfl, eG, hv, hd, fun H1 e1 => ?_⟩
    walk_at "q"
    cases d with
    | list ds => walk_at "q"; exact q _ (by walk_at "ex")
    | tuple ds => walk_at "q"; exact q _ (by walk_at "ex")
    | _ => walk_at "q"; exact q _ (by walk_at "ex")
end
end Cw

set_option maxHeartbeats 4000000
namespace Cw
open PySem PySem.Spec PyProof.Rows L2
structure Cst (K : PySem.W.Frag) (mg : Str → Option Value) where
  MOST_PROCESSES : ∃ t, mg "MOST_PROCESSES" = some (.int 5 t)
  MOST_STATES : ∃ t, mg "MOST_STATES" = some (.int 8 t)
  MOST_CHANNELS : ∃ t, mg "MOST_CHANNELS" = some (.int 8 t)
  MOST_RULES : ∃ t, mg "MOST_RULES" = some (.int 40 t)
  MANY_TOKENS : ∃ t, mg "MANY_TOKENS" = some (.int 10 t)
  LONGEST_NAME : ∃ t, mg "LONGEST_NAME" = some (.int 6 t)
  LETTERS : ∃ t, mg "LETTERS" = some (.str "abcdefghijklmnopqrstuvwxyz" t)
  ORDERED_a : Addr
  ORDERED : mg "ORDERED" = some (.ref ORDERED_a)
  ORDERED_s : ∀ H, SqT K H ORDERED_a [.str "order", .str "order lossy"]
  LOSSY_a : Addr
  LOSSY : mg "LOSSY" = some (.ref LOSSY_a)
  LOSSY_s : ∀ H, SqT K H LOSSY_a [.str "order lossy", .str "loose lossy"]
  KINDS_a : Addr
  KINDS : mg "KINDS" = some (.ref KINDS_a)
  KINDS_s : ∀ H, SqT K H KINDS_a [.str "order", .str "loose", .str "order lossy", .str "loose lossy"]
theorem Cst.ordered {K : PySem.W.Frag} {mg : Str → Option Value} (cs : Cst K mg) (G : Hp) : Rp K G (.ref cs.ORDERED_a) (.tuple [.str "order", .str "order lossy"]) := .tup (cs.ORDERED_s G) (.cons (.str _) (.cons (.str _) .nil))
theorem Cst.lossy {K : PySem.W.Frag} {mg : Str → Option Value} (cs : Cst K mg) (G : Hp) : Rp K G (.ref cs.LOSSY_a) (.tuple [.str "order lossy", .str "loose lossy"]) := .tup (cs.LOSSY_s G) (.cons (.str _) (.cons (.str _) .nil))
theorem Cst.kinds {K : PySem.W.Frag} {mg : Str → Option Value} (cs : Cst K mg) (G : Hp) : Rp K G (.ref cs.KINDS_a) (.tuple [.str "order", .str "loose", .str "order lossy", .str "loose lossy"]) := .tup (cs.KINDS_s G) (.cons (.str _) (.cons (.str _) (.cons (.str _) (.cons (.str _) .nil))))
section
variable {P : Program} {w : World} {K : PySem.W.Frag} {mg : Str → Option Value} {base : Heap}
abbrev s_is_name : Stmt := topS 21
abbrev N_is_name : List Str := ["value", "letter"]
theorem sc_is_name : FnScope N_is_name ["value"] (defScope s_is_name) := ⟨rfl, rfl, rfl, by decide +kernel, rfl, by decide +kernel, by decide +kernel⟩
theorem c_is_name {f : Addr} {fd : FuncData} (F : FnP K "is_name" s_is_name f fd) (hm : mg "is_name" = some (.ref f)) (B : Blt mg) (cs : Cst K mg) : Cal P w K mg base 1 "is_name" ["value"] (sp1 K isName) := by
  refine cal_of F hm sc_is_name (fun _ _ _ _ _ _ _ us hl => match us, hl with | [_], _ => rfl) (fun vs H Q E h => ?_) (fun cdv A outer s H vs Q E hr h => ?_)
  · obtain ⟨_, _, _, rfl, _⟩ := h
    rfl
  · obtain ⟨G, v, d, rfl, eG, hv, hd, q⟩ := h
    have nd := sc_is_name.nd
    refine ⟨_, [some _, none], ((pss_one (ps_ret (pe_and (pe_callB (call_isiQ (K := K) rfl) (by rfl) B.isinstance_ bo_isinstance (pa_cons (pv 0) (pa_cons (pe_bty (by rfl) B.str_ bo_str) pa_nil))) (pe_and (pe_chain op_le op_le pe_int (pe_callB (call_lenK (K := K) rfl) (by rfl) B.len_ bo_len (pa_cons (pv 0) pa_nil)) (pe_gint (by rfl) cs.LONGEST_NAME)) (pe_one (pe_callB (cr_all rfl) (by rfl) B.all_ bo_all (pa_cons (pe_lc (own := [("letter", 1)]) rfl nd (pi_seqK (K := K) rfl (pv 0)) (blkOk_by (N := N_is_name) (sc := defScope s_is_name) (by decide +kernel)) (fun _ _ _ _ _ => (pg_name (i := 1) nd rfl (by first | exact Or.inl rfl | exact Or.inr rfl))) (fun _ _ _ _ _ => pts_nil) (fun _ _ _ _ _ => (pe_cmpR (op_inB (K := K) rfl (hu65 hr)) (pv 1) (pe_gstr (by rfl) cs.LETTERS) (by with_unfolding_all rfl)))) pa_nil)))))))), rfl, ?_⟩
    cases d with
    | str z =>
      cases hv
      walk_at "q"
      have e0 : isName (.str z) = (decide (1 ≤ z.length) && decide (z.length ≤ 6) && z.cps.toList.all isLetter) := rfl
      refine q_ifd (fun h1 => ?_) (fun h1 => ?_)
      · walk_at "q"
        refine q_ifd (fun h2 => ?_) (fun h2 => ?_)
        · walk_at "q"
          refine q_lcS rfl eG (by omega) (R := fun i y _ => y = V.bl (optB isLetter z.cps.toList[i]?)) (fun _ _ _ _ _ h => h) (fun i c G' H' hc gr C N hC => ?_) (fun D ys G' H' gr hD _ _ hl hy => ?_)
          · have w1 := gr.w
            walk_at "q"
            refine ⟨rfl, ?_⟩
            walk_at "q"
            refine Cw.q_inS ?_
            refine hC _ G' _ (by walk_at "gro") ?_
            rw [Array.getElem?_toList, hc] <;> rfl
          · have k1 := gr.ex
            walk_at "q"
            rw [bls_of (G' := G') hl hy] at hD
            refine q_all hD ?_
            have hz : z.length = z.cps.toList.length := by rw [Array.length_toList] <;> rfl
            refine q_bt' ?_ (q _ (by walk_at "ex"))
            rw [e0, decide_eq_true (by omega), decide_eq_true (by omega), hz]
            exact (range_all isLetter z.cps.toList).symm
        · walk_at "q"
          exact q_bt' (by rw [e0, decide_eq_true (by omega), decide_eq_false (by omega)] <;> rfl) (q _ (by walk_at "ex"))
      · walk_at "q"
        exact q_bt' (by rw [e0, decide_eq_false (by omega)] <;> rfl) (q _ (by walk_at "ex"))
    | dict _ => exact (rp_nodict hv).elim
    | _ => walk_at "q"; exact q _ (by walk_at "ex")
abbrev s_are_unlike : Stmt := topS 22
abbrev N_are_unlike : List Str := ["names"]
theorem sc_are_unlike : FnScope N_are_unlike ["names"] (defScope s_are_unlike) := ⟨rfl, rfl, rfl, by decide +kernel, rfl, by decide +kernel, by decide +kernel⟩
def sp_unlike (K : PySem.W.Frag) : Sp := fun vs H Q _ => ∃ (l : Addr) (ys : List Str), vs = [.ref l] ∧ H l = some (.lst (ys.map V.str)) ∧ ys.length ≤ 4000 ∧ Q (.bl (decide ys.Nodup)) H
theorem c_are_unlike {f : Addr} {fd : FuncData} (F : FnP K "are_unlike" s_are_unlike f fd) (hm : mg "are_unlike" = some (.ref f)) (B : Blt mg) : Cal P w K mg base 1 "are_unlike" ["names"] (sp_unlike K) := by
  refine cal_of F hm sc_are_unlike (fun _ _ _ _ _ _ _ us hl => match us, hl with | [_], _ => rfl) (fun vs H Q E h => ?_) (fun cdv A outer s H vs Q E hr h => ?_)
  · obtain ⟨_, _, rfl, _⟩ := h
    rfl
  · obtain ⟨l, ys, rfl, hl, hn, q⟩ := h
    have nd := sc_are_unlike.nd
    refine ⟨_, [some _], ((pss_one (ps_ret (pe_cmpR (op_eqK (K := K) rfl (hu64 hr)) (pe_lenSetA (K := K) rfl rfl (by rfl) B.len_ (by rfl) B.set_ (pv 0)) (pe_callB (call_lenK (K := K) rfl) (by rfl) B.len_ bo_len (pa_cons (pv 0) pa_nil)) (nomark _))))), rfl, ?_⟩
    walk_at "q"
    refine ⟨l, ys, rfl, .inl (.inl hl), hn, ?_⟩
    walk_at "q"
    refine q_lenC (.inl (.inl hl)) ?_
    rw [List.length_map]
    walk_at "q"
    refine q_bt' ?_ q
    by_cases z : ys.Nodup
    · rw [decide_eq_true z, decide_eq_true (show ((dd ys).length : Int) = (ys.length : Int) from congrArg Int.ofNat ((dd_nodup ys).mpr z))]
    · rw [decide_eq_false z, decide_eq_false (fun y : ((dd ys).length : Int) = (ys.length : Int) => z ((dd_nodup ys).mp (Int.ofNat.inj y)))]
abbrev s_is_process : Stmt := topS 23
abbrev N_is_process : List Str := ["row"]
theorem sc_is_process : FnScope N_is_process ["row"] (defScope s_is_process) := ⟨rfl, rfl, rfl, by decide +kernel, rfl, by decide +kernel, by decide +kernel⟩
theorem c_is_process {f : Addr} {fd : FuncData} (F : FnP K "is_process" s_is_process f fd) (hm : mg "is_process" = some (.ref f)) (B : Blt mg) (cs : Cst K mg) (C_is_row : Cal P w K mg base 2 "is_row" ["value", "many"] (sp2 K isRow)) (C_is_name : Cal P w K mg base 1 "is_name" ["value"] (sp1 K isName))
    (C_is_below : Cal P w K mg base 2 "is_below" ["value", "end"] (sp2 K isBelow)) : Cal P w K mg base 3 "is_process" ["row"] (sp1 K isProcess) := by
  refine cal_of F hm sc_is_process (fun _ _ _ _ _ _ _ us hl => match us, hl with | [_], _ => rfl) (fun vs H Q E h => ?_) (fun cdv A outer s H vs Q E hr h => ?_)
  · obtain ⟨_, _, _, rfl, _⟩ := h
    rfl
  · obtain ⟨G, v, d, rfl, eG, hv, hd, q⟩ := h
    have nd := sc_is_process.nd
    refine ⟨_, [some _], ((pss_one (ps_ret (pe_and (pe_callC C_is_row (hr.mono (by omega)) (by rfl) (pa_cons (pv 0) (pa_cons pe_int pa_nil))) (pe_and (pe_callC C_is_name (hr.mono (by omega)) (by rfl) (pa_cons (pe_ix (ix_seqK (K := K) rfl) (pv 0) pe_int (fun _ _ => rfl)) pa_nil)) (pe_and (pe_callC C_is_below (hr.mono (by omega)) (by rfl) (pa_cons (pe_ix (ix_seqK (K := K) rfl) (pv 0) pe_int (fun _ _ => rfl)) (pa_cons (pe_op (op_addK (K := K) rfl) (pe_gint (by rfl) cs.MOST_STATES) pe_int) pa_nil))) (pe_one (pe_cmpR op_gt (pe_ix (ix_seqK (K := K) rfl) (pv 0) pe_int (fun _ _ => rfl)) pe_int (nomark _))))))))), rfl, ?_⟩
    walk_at "q"
    refine ⟨G, v, 2, d, rfl, eG, hv, hd, fun H1 e1 => ?_⟩
    walk_at "q"
    refine q_ifb (fun h => ?_) (fun h => ?_)
    · obtain ⟨a, b, hs⟩ := row2 h
      have ha := shp_mem hs hd a (by simp)
      have hb := shp_mem hs hd b (by simp)
      have ev := isProcess_eq hs
      walk_at "q"
      refine q_ixRS hv hs (by walk_at "ex") rfl (fun u hu => ?_)
      walk_at "q"
      refine ⟨G, u, a, rfl, by walk_at "ex", hu, ha, fun H2 e2 => ?_⟩
      walk_at "q"
      refine q_ifb (fun h1 => ?_) (fun h1 => ?_)
      · walk_at "q"
        refine q_ixRS hv hs (by walk_at "ex") rfl (fun u' hu' => ?_)
        walk_at "q"
        refine ⟨G, u', 9, b, rfl, by walk_at "ex", hu', hb, fun H3 e3 => ?_⟩
        walk_at "q"
        refine q_ifb (fun h2 => ?_) (fun h2 => ?_)
        · obtain ⟨i, rfl, h0, h9⟩ := below_int h2
          cases hu'
          walk_at "q"
          refine q_ixRS hv hs (by walk_at "ex") rfl (fun u2 hu2 => ?_)
          cases hu2
          walk_at "q"
          exact q_bt' (by rw [ev, h1, h2] <;> rfl) (q _ (by walk_at "ex"))
        · walk_at "q"
          exact q_bt' (by rw [ev, h1, h2] <;> rfl) (q _ (by walk_at "ex"))
      · walk_at "q"
        exact q_bt' (by rw [ev, h1] <;> rfl) (q _ (by walk_at "ex"))
    · walk_at "q"
      exact q_bt' (by rw [isProcess, h] <;> rfl) (q _ (by walk_at "ex"))
abbrev s_are_processes : Stmt := topS 24
abbrev N_are_processes : List Str := ["rows", "row"]
theorem sc_are_processes : FnScope N_are_processes ["rows"] (defScope s_are_processes) := ⟨rfl, rfl, rfl, by decide +kernel, rfl, by decide +kernel, by decide +kernel⟩
theorem c_are_processes {f : Addr} {fd : FuncData} (F : FnP K "are_processes" s_are_processes f fd) (hm : mg "are_processes" = some (.ref f)) (B : Blt mg) (cs : Cst K mg) (C_is_sequence : Cal P w K mg base 1 "is_sequence" ["value"] (sp1 K dSeq)) (C_is_process : Cal P w K mg base 3 "is_process" ["row"] (sp1 K isProcess))
    (C_are_unlike : Cal P w K mg base 1 "are_unlike" ["names"] (sp_unlike K)) : Cal P w K mg base 4 "are_processes" ["rows"] (sp1 K areProcs) := by
  refine cal_of F hm sc_are_processes (fun _ _ _ _ _ _ _ us hl => match us, hl with | [_], _ => rfl) (fun vs H Q E h => ?_) (fun cdv A outer s H vs Q E hr h => ?_)
  · obtain ⟨_, _, _, rfl, _⟩ := h
    rfl
  · obtain ⟨G, v, d, rfl, eG, hv, hd, q⟩ := h
    have nd := sc_are_processes.nd
    refine ⟨_, [some _, none], ((pss_one (ps_ret (pe_and (pe_callC C_is_sequence (hr.mono (by omega)) (by rfl) (pa_cons (pv 0) pa_nil)) (pe_and (pe_chain op_le op_le pe_int (pe_callB (call_lenK (K := K) rfl) (by rfl) B.len_ bo_len (pa_cons (pv 0) pa_nil)) (pe_gint (by rfl) cs.MOST_PROCESSES)) (pe_and (pe_callB (cr_all rfl) (by rfl) B.all_ bo_all (pa_cons (pe_lc (own := [("row", 1)]) rfl nd (pi_seqK (K := K) rfl (pv 0)) (blkOk_by (N := N_are_processes) (sc := defScope s_are_processes) (by decide +kernel)) (fun _ _ _ _ _ => (pg_name (i := 1) nd rfl (by first | exact Or.inl rfl | exact Or.inr rfl))) (fun _ _ _ _ _ => pts_nil) (fun _ _ _ _ _ => (pe_callC C_is_process (hr.mono (by omega)) (by rfl) (pa_cons (pv 1) pa_nil)))) pa_nil)) (pe_one (pe_callC C_are_unlike (hr.mono (by omega)) (by rfl) (pa_cons (pe_lc (own := [("row", 1)]) rfl nd (pi_seqK (K := K) rfl (pv 0)) (blkOk_by (N := N_are_processes) (sc := defScope s_are_processes) (by decide +kernel)) (fun _ _ _ _ _ => (pg_name (i := 1) nd rfl (by first | exact Or.inl rfl | exact Or.inr rfl))) (fun _ _ _ _ _ => pts_nil) (fun _ _ _ _ _ => (pe_ix (ix_seqK (K := K) rfl) (pv 1) pe_int (fun _ _ => rfl)))) pa_nil))))))))), rfl, ?_⟩
    walk_at "q"
    refine ⟨G, v, d, rfl, eG, hv, hd, fun H1 e1 => ?_⟩
    walk_at "q"
    refine q_ifb (fun h => ?_) (fun h => ?_)
    · obtain ⟨ds, hs⟩ := seq_of h
      have ev : areProcs d = (decide (1 ≤ ds.length) && decide (ds.length ≤ 5) && (ds.all isProcess && unlike ds)) := by
        unfold areProcs
        rw [hs.items]
      walk_at "q"
      refine q_lenRS hv hs (by walk_at "ex") ?_
      walk_at "q"
      refine q_ifd (fun h1 => ?_) (fun h1 => ?_)
      · walk_at "q"
        refine q_ifd (fun h2 => ?_) (fun h2 => ?_)
        · walk_at "q"
          refine q_lcV rfl hv hs (by walk_at "ex") (by omega) (R := fun i y _ => y = V.bl (optB isProcess ds[i]?)) (fun _ _ _ _ _ h => h) (fun i hi u G' H' gr ru C N hC => ?_) (fun D ys G' H' gr hD _ _ hl hy => ?_)
          · have w1 := gr.w
            walk_at "q"
            refine ⟨rfl, ?_⟩
            walk_at "q"
            refine ⟨G', u, _, rfl, by walk_at "ex", ru, shp_mem hs hd _ (List.getElem_mem hi), fun H2 e2 => ?_⟩
            exact hC _ G' _ (by walk_at "gro") (by show _ = V.bl (optB isProcess ds[i]?); rw [List.getElem?_eq_getElem hi] <;> rfl)
          · have k1 := gr.ex
            walk_at "q"
            rw [bls_of (G' := G') hl hy] at hD
            refine q_all hD ?_
            rw [range_all isProcess ds]
            walk_at "q"
            refine q_ifb (fun h3 => ?_) (fun h3 => ?_)
            · have h3' := List.all_eq_true.mp h3
              walk_at "q"
              refine q_lcV rfl hv hs (by walk_at "ex") (by omega) (R := fun i y _ => y = V.str (optS (fun c => strOf (atD c 0)) ds[i]?)) (fun _ _ _ _ _ h => h) (fun i hi u G2 H2 gr2 ru C N hC => ?_) (fun D2 ys2 G2 H2 gr2 hD2 _ _ hl2 hy2 => ?_)
              · have w2 := gr2.w
                have hp := h3' _ (List.getElem_mem hi)
                obtain ⟨a, b, hsi⟩ := row2 (bA hp).1
                rw [isProcess_eq hsi] at hp
                obtain ⟨z, rfl⟩ := name_str (bA hp).1
                walk_at "q"
                refine ⟨rfl, ?_⟩
                walk_at "q"
                refine q_ixRS ru hsi (by walk_at "ex") rfl (fun u' hu' => ?_)
                cases hu'
                exact hC _ G2 _ (by walk_at "gro") (by show _ = V.str (optS (fun c => strOf (atD c 0)) ds[i]?); rw [List.getElem?_eq_getElem hi]; show _ = V.str (strOf (atD ds[i] 0)); rw [Seq.at hsi] <;> rfl)
              · have k2 := gr2.ex
                walk_at "q"
                have ey : ys2 = (ds.map fun c => strOf (atD c 0)).map V.str := strs_of (G' := G2) (f := fun c => strOf (atD c 0)) hl2 hy2
                rw [ey] at hD2
                refine ⟨D2, _, rfl, hD2, by simp; omega, ?_⟩
                exact q_bt' (by rw [ev, h3, decide_eq_true (by omega), decide_eq_true (by omega)] <;> rfl) (q _ (by walk_at "ex"))
            · walk_at "q"
              exact q_bt' (by rw [ev, h3, decide_eq_true (by omega), decide_eq_true (by omega)] <;> rfl) (q _ (by walk_at "ex"))
        · walk_at "q"
          exact q_bt' (by rw [ev, decide_eq_true (by omega), decide_eq_false (by omega)] <;> rfl) (q _ (by walk_at "ex"))
      · walk_at "q"
        exact q_bt' (by rw [ev, decide_eq_false (by omega)] <;> rfl) (q _ (by walk_at "ex"))
    · walk_at "q"
      exact q_bt' (by unfold areProcs; rw [seq_no h]) (q _ (by walk_at "ex"))
abbrev s_is_channel : Stmt := topS 25
abbrev N_is_channel : List Str := ["processes", "row", "many"]
theorem sc_is_channel : FnScope N_is_channel ["processes", "row"] (defScope s_is_channel) := ⟨rfl, rfl, rfl, by decide +kernel, rfl, by decide +kernel, by decide +kernel⟩
def spN (K : PySem.W.Frag) (t : List PyData → PyData → Bool) : Sp := fun vs H Q _ => ∃ (G : Hp) (v u : V) (d e : PyData) (ps : List PyData), vs = [v, u] ∧ Ex G H ∧ Rp K G v d ∧ Seq d ps ∧ Shp d ∧ Rp K G u e ∧ Shp e ∧ ∀ H', Ex H H' → Q (.bl (t ps e)) H'
theorem shp_kinds : Shp (.tuple kindsD)   := by
  show okD 60 _ = true
  decide +kernel
theorem c_is_channel {f : Addr} {fd : FuncData} (F : FnP K "is_channel" s_is_channel f fd) (hm : mg "is_channel" = some (.ref f)) (B : Blt mg) (cs : Cst K mg) (C_is_row : Cal P w K mg base 2 "is_row" ["value", "many"] (sp2 K isRow)) (C_is_name : Cal P w K mg base 1 "is_name" ["value"] (sp1 K isName))
    (C_is_below : Cal P w K mg base 2 "is_below" ["value", "end"] (sp2 K isBelow)) : Cal P w K mg base 3 "is_channel" ["processes", "row"] (spN K fun ps => isChan ps.length) := by
  refine cal_of F hm sc_is_channel (fun _ _ _ _ _ _ _ us hl => match us, hl with | [_, _], _ => rfl) (fun vs H Q E h => ?_) (fun cdv A outer s H vs Q E hr h => ?_)
  · obtain ⟨_, _, _, _, _, _, rfl, _⟩ := h
    rfl
  · obtain ⟨G, vp, v, dp, d, ps, rfl, eG, hvp, hps, hdp, hv, hd, q⟩ := h
    have nd := sc_is_channel.nd
    replace q : ∀ H', Ex H H' → Q (.bl (isChan ps.length d)) H' := q
    refine ⟨_, [some _, some _, none], ((pss_cons (ps_set (i := 2) nd rfl (Or.inl rfl) (pe_callB (call_lenK (K := K) rfl) (by rfl) B.len_ bo_len (pa_cons (pv 0) pa_nil)))
      (pss_one (ps_ret (pe_and (pe_callC C_is_row (hr.mono (by omega)) (by rfl) (pa_cons (pv 1) (pa_cons pe_int pa_nil))) (pe_and (pe_callC C_is_name (hr.mono (by omega)) (by rfl) (pa_cons (pe_ix (ix_seqK (K := K) rfl) (pv 1) pe_int (fun _ _ => rfl)) pa_nil)) (pe_and (pe_callC C_is_below (hr.mono (by omega)) (by rfl) (pa_cons (pe_ix (ix_seqK (K := K) rfl) (pv 1) pe_int (fun _ _ => rfl)) (pa_cons (pv 2) pa_nil))) (pe_and (pe_callC C_is_below (hr.mono (by omega)) (by rfl) (pa_cons (pe_ix (ix_seqK (K := K) rfl) (pv 1) pe_int (fun _ _ => rfl)) (pa_cons (pv 2) pa_nil))) (pe_and (pe_cmpR (op_neK (K := K) rfl (hu64 hr)) (pe_ix (ix_seqK (K := K) rfl) (pv 1) pe_int (fun _ _ => rfl)) (pe_ix (ix_seqK (K := K) rfl) (pv 1) pe_int (fun _ _ => rfl)) (nomark _)) (pe_one (pe_cmpR (op_inB (K := K) rfl (hu65 hr)) (pe_ix (ix_seqK (K := K) rfl) (pv 1) pe_int (fun _ _ => rfl)) (pe_gref (by rfl) cs.KINDS) (by with_unfolding_all rfl)))))))))))), rfl, ?_⟩
    walk_at "q"
    refine q_lenRS hvp hps (by walk_at "ex") ?_
    walk_at "q"
    refine ⟨G, v, 4, d, rfl, eG, hv, hd, fun H1 e1 => ?_⟩
    walk_at "q"
    refine q_ifb (fun h => ?_) (fun h => ?_)
    · obtain ⟨a, b, c, e, hs⟩ := row4 h
      have ha := shp_mem hs hd a (by simp)
      have hb := shp_mem hs hd b (by simp)
      have hc := shp_mem hs hd c (by simp)
      have he := shp_mem hs hd e (by simp)
      have ev : isChan ps.length d = _ := isChan_eq hs
      walk_at "q"
      refine q_ixRS hv hs (by walk_at "ex") rfl (fun u hu => ?_)
      walk_at "q"
      refine ⟨G, u, a, rfl, by walk_at "ex", hu, ha, fun H2 e2 => ?_⟩
      walk_at "q"
      refine q_ifb (fun h1 => ?_) (fun h1 => ?_)
      · walk_at "q"
        refine q_ixRS hv hs (by walk_at "ex") rfl (fun u1 hu1 => ?_)
        walk_at "q"
        refine ⟨G, u1, _, b, rfl, by walk_at "ex", hu1, hb, fun H3 e3 => ?_⟩
        walk_at "q"
        refine q_ifb (fun h2 => ?_) (fun h2 => ?_)
        · walk_at "q"
          refine q_ixRS hv hs (by walk_at "ex") rfl (fun u2 hu2 => ?_)
          walk_at "q"
          refine ⟨G, u2, _, c, rfl, by walk_at "ex", hu2, hc, fun H4 e4 => ?_⟩
          walk_at "q"
          refine q_ifb (fun h3 => ?_) (fun h3 => ?_)
          · walk_at "q"
            refine q_ixRS hv hs (by walk_at "ex") rfl (fun u3 hu3 => ?_)
            walk_at "q"
            refine q_ixRS hv hs (by walk_at "ex") rfl (fun u4 hu4 => ?_)
            refine q_neR hu3 hu4 (by walk_at "ex") hb hc ?_
            walk_at "q"
            refine q_ifb (fun h4 => ?_) (fun h4 => ?_)
            · walk_at "q"
              refine q_ixRS hv hs (by walk_at "ex") rfl (fun u5 hu5 => ?_)
              walk_at "q"
              refine q_inT hu5 (cs.kinds G) (by walk_at "ex") he shp_kinds ?_
              exact q_bt' (by rw [ev, h1, h2, h3, h4] <;> rfl) (q _ (by walk_at "ex"))
            · walk_at "q"
              exact q_bt' (by rw [ev, h1, h2, h3, h4] <;> rfl) (q _ (by walk_at "ex"))
          · walk_at "q"
            exact q_bt' (by rw [ev, h1, h2, h3] <;> rfl) (q _ (by walk_at "ex"))
        · walk_at "q"
          exact q_bt' (by rw [ev, h1, h2] <;> rfl) (q _ (by walk_at "ex"))
      · walk_at "q"
        exact q_bt' (by rw [ev, h1] <;> rfl) (q _ (by walk_at "ex"))
    · walk_at "q"
      exact q_bt' (by rw [isChan, h] <;> rfl) (q _ (by walk_at "ex"))
abbrev s_are_channels : Stmt := topS 26
abbrev N_are_channels : List Str := ["processes", "rows", "row"]
theorem sc_are_channels : FnScope N_are_channels ["processes", "rows"] (defScope s_are_channels) := ⟨rfl, rfl, rfl, by decide +kernel, rfl, by decide +kernel, by decide +kernel⟩
theorem c_are_channels {f : Addr} {fd : FuncData} (F : FnP K "are_channels" s_are_channels f fd) (hm : mg "are_channels" = some (.ref f)) (B : Blt mg) (cs : Cst K mg) (C_is_sequence : Cal P w K mg base 1 "is_sequence" ["value"] (sp1 K dSeq)) (C_is_channel : Cal P w K mg base 3 "is_channel" ["processes", "row"] (spN K fun ps => isChan ps.length))
    (C_are_unlike : Cal P w K mg base 1 "are_unlike" ["names"] (sp_unlike K)) : Cal P w K mg base 4 "are_channels" ["processes", "rows"] (spN K fun ps => areChans ps.length) := by
  refine cal_of F hm sc_are_channels (fun _ _ _ _ _ _ _ us hl => match us, hl with | [_, _], _ => rfl) (fun vs H Q E h => ?_) (fun cdv A outer s H vs Q E hr h => ?_)
  · obtain ⟨_, _, _, _, _, _, rfl, _⟩ := h
    rfl
  · obtain ⟨G, vp, v, dp, d, ps, rfl, eG, hvp, hps, hdp, hv, hd, q⟩ := h
    have nd := sc_are_channels.nd
    replace q : ∀ H', Ex H H' → Q (.bl (areChans ps.length d)) H' := q
    refine ⟨_, [some _, some _, none], ((pss_one (ps_ret (pe_and (pe_callC C_is_sequence (hr.mono (by omega)) (by rfl) (pa_cons (pv 1) pa_nil)) (pe_and (pe_cmpR op_le (pe_callB (call_lenK (K := K) rfl) (by rfl) B.len_ bo_len (pa_cons (pv 1) pa_nil)) (pe_gint (by rfl) cs.MOST_CHANNELS) (nomark _)) (pe_and (pe_callB (cr_all rfl) (by rfl) B.all_ bo_all (pa_cons (pe_lc (own := [("row", 2)]) rfl nd (pi_seqK (K := K) rfl (pv 1)) (blkOk_by (N := N_are_channels) (sc := defScope s_are_channels) (by decide +kernel)) (fun _ _ _ _ _ => (pg_name (i := 2) nd rfl (by first | exact Or.inl rfl | exact Or.inr rfl))) (fun _ _ _ _ _ => pts_nil) (fun _ _ _ _ _ => (pe_callC C_is_channel (hr.mono (by omega)) (by rfl) (pa_cons (pv 0) (pa_cons (pv 2) pa_nil))))) pa_nil)) (pe_one (pe_callC C_are_unlike (hr.mono (by omega)) (by rfl) (pa_cons (pe_lc (own := [("row", 2)]) rfl nd (pi_seqK (K := K) rfl (pv 1)) (blkOk_by (N := N_are_channels) (sc := defScope s_are_channels) (by decide +kernel)) (fun _ _ _ _ _ => (pg_name (i := 2) nd rfl (by first | exact Or.inl rfl | exact Or.inr rfl))) (fun _ _ _ _ _ => pts_nil) (fun _ _ _ _ _ => (pe_ix (ix_seqK (K := K) rfl) (pv 2) pe_int (fun _ _ => rfl)))) pa_nil))))))))), rfl, ?_⟩
    walk_at "q"
    refine ⟨G, v, d, rfl, eG, hv, hd, fun H1 e1 => ?_⟩
    walk_at "q"
    refine q_ifb (fun h => ?_) (fun h => ?_)
    · obtain ⟨ds, hs⟩ := seq_of h
      have ev : areChans ps.length d = (decide (ds.length ≤ 8) && (ds.all (isChan ps.length) && unlike ds)) := by
        unfold areChans
        rw [hs.items]
      walk_at "q"
      refine q_lenRS hv hs (by walk_at "ex") ?_
      walk_at "q"
      refine q_ifd (fun h2 => ?_) (fun h2 => ?_)
      · walk_at "q"
        refine q_lcV rfl hv hs (by walk_at "ex") (by omega) (R := fun i y _ => y = V.bl (optB (isChan ps.length) ds[i]?)) (fun _ _ _ _ _ h => h) (fun i hi u G' H' gr ru C N hC => ?_) (fun D ys G' H' gr hD _ _ hl hy => ?_)
        · have w1 := gr.w
          walk_at "q"
          refine ⟨rfl, ?_⟩
          walk_at "q"
          refine ⟨G', vp, u, dp, _, ps, rfl, by walk_at "ex", hvp.mono gr.g, hps, hdp, ru, shp_mem hs hd _ (List.getElem_mem hi), fun H2 e2 => ?_⟩
          exact hC _ G' _ (by walk_at "gro") (by show _ = V.bl (optB (isChan ps.length) ds[i]?); rw [List.getElem?_eq_getElem hi] <;> rfl)
        · have k1 := gr.ex
          walk_at "q"
          rw [bls_of (G' := G') hl hy] at hD
          refine q_all hD ?_
          rw [range_all (isChan ps.length) ds]
          walk_at "q"
          refine q_ifb (fun h3 => ?_) (fun h3 => ?_)
          · have h3' := List.all_eq_true.mp h3
            walk_at "q"
            refine q_lcV rfl hv hs (by walk_at "ex") (by omega) (R := fun i y _ => y = V.str (optS (fun c => strOf (atD c 0)) ds[i]?)) (fun _ _ _ _ _ h => h) (fun i hi u G2 H2 gr2 ru C N hC => ?_) (fun D2 ys2 G2 H2 gr2 hD2 _ _ hl2 hy2 => ?_)
            · have w2 := gr2.w
              have hp := h3' _ (List.getElem_mem hi)
              obtain ⟨a, b, c, x, hsi⟩ := row4 (bA hp).1
              rw [isChan_eq hsi] at hp
              obtain ⟨z, rfl⟩ := name_str (bA hp).1
              walk_at "q"
              refine ⟨rfl, ?_⟩
              walk_at "q"
              refine q_ixRS ru hsi (by walk_at "ex") rfl (fun u' hu' => ?_)
              cases hu'
              exact hC _ G2 _ (by walk_at "gro") (by show _ = V.str (optS (fun c => strOf (atD c 0)) ds[i]?); rw [List.getElem?_eq_getElem hi]; show _ = V.str (strOf (atD ds[i] 0)); rw [Seq.at hsi] <;> rfl)
            · have k2 := gr2.ex
              walk_at "q"
              have ey : ys2 = (ds.map fun c => strOf (atD c 0)).map V.str := strs_of (G' := G2) (f := fun c => strOf (atD c 0)) hl2 hy2
              rw [ey] at hD2
              refine ⟨D2, _, rfl, hD2, by simp; omega, ?_⟩
              exact q_bt' (by rw [ev, h3, decide_eq_true (by omega)] <;> rfl) (q _ (by walk_at "ex"))
          · walk_at "q"
            exact q_bt' (by rw [ev, h3, decide_eq_true (by omega)] <;> rfl) (q _ (by walk_at "ex"))
      · walk_at "q"
        exact q_bt' (by rw [ev, decide_eq_false (by omega)] <;> rfl) (q _ (by walk_at "ex"))
    · walk_at "q"
      exact q_bt' (by unfold areChans; rw [seq_no h]) (q _ (by walk_at "ex"))
end
end Cw

set_option maxHeartbeats 4000000
namespace Cw
open PySem PySem.Spec PyProof.Rows L2
section
variable {P : Program} {w : World} {K : PySem.W.Frag} {mg : Str → Option Value} {base : Heap}
abbrev s_is_act : Stmt := topS 27
abbrev N_is_act : List Str := ["channels", "process", "act", "giver", "taker"]
theorem sc_is_act : FnScope N_is_act ["channels", "process", "act"] (defScope s_is_act) := ⟨rfl, rfl, rfl, by decide +kernel, rfl, by decide +kernel, by decide +kernel⟩
def sp_act (K : PySem.W.Frag) : Sp := fun vs H Q _ => ∃ (G : Hp) (v u : V) (p : Int) (d e : PyData) (cs : List PyData) (n : Nat), vs = [v, .int p, u] ∧ Ex G H ∧ Rp K G v d ∧ Seq d cs ∧ Shp d ∧ cs.all (isChan n) = true ∧ Rp K G u e ∧ Shp e ∧ ∀ H', Ex H H' → Q (.bl (isAct cs (.int p) e)) H'
theorem shp_word {z : Str} (h : okD 60 (.str z) = true) : Shp (.str z) := h
theorem c_is_act {f : Addr} {fd : FuncData} (F : FnP K "is_act" s_is_act f fd) (hm : mg "is_act" = some (.ref f)) (B : Blt mg) (cs : Cst K mg) (C_is_row : Cal P w K mg base 2 "is_row" ["value", "many"] (sp2 K isRow)) (C_is_below : Cal P w K mg base 2 "is_below" ["value", "end"] (sp2 K isBelow)) :
    Cal P w K mg base 3 "is_act" ["channels", "process", "act"] (sp_act K) := by
  refine cal_of F hm sc_is_act (fun _ _ _ _ _ _ _ us hl => match us, hl with | [_, _, _], _ => rfl) (fun vs H Q E h => ?_) (fun cdv A outer s H vs Q E hr h => ?_)
  · obtain ⟨_, _, _, _, _, _, _, _, rfl, _⟩ := h
    rfl
  · obtain ⟨G, vc, v, p, dc, d, chs, n, rfl, eG, hvc, hcs, hdc, hall, hv, hd, q⟩ := h
    have nd := sc_is_act.nd
    refine ⟨_, [some _, some _, some _, none, none], ((pss_cons (ps_if (pt_val (pe_callC C_is_row (hr.mono (by omega)) (by rfl) (pa_cons (pv 2) (pa_cons pe_int pa_nil)))) (pss_one (ps_ret (pe_cmpR (op_eqK (K := K) rfl (hu64 hr)) (pe_ix (ix_seqK (K := K) rfl) (pv 2) pe_int (fun _ _ => rfl)) pe_str (nomark _)))) pss_nil)
      (pss_cons (ps_if (PW.pt (pw_or (pt_not (pt_val (pe_callC C_is_row (hr.mono (by omega)) (by rfl) (pa_cons (pv 2) (pa_cons pe_int pa_nil))))) (pw_or (pt_not (pt_val (pe_callC C_is_below (hr.mono (by omega)) (by rfl) (pa_cons (pe_ix (ix_seqK (K := K) rfl) (pv 2) pe_int (fun _ _ => rfl)) (pa_cons (pe_callB (call_lenK (K := K) rfl) (by rfl) B.len_ bo_len (pa_cons (pv 0) pa_nil)) pa_nil))))) (pw_or1 (pt_not (pt_val (pe_callC C_is_below (hr.mono (by omega)) (by rfl) (pa_cons (pe_ix (ix_seqK (K := K) rfl) (pv 2) pe_int (fun _ _ => rfl)) (pa_cons (pe_gint (by rfl) cs.MANY_TOKENS) pa_nil))))))))) (pss_one (ps_ret pe_bl)) pss_nil)
      (pss_cons (ps_asg (pe_slice (sl_anyK (K := K) rfl) (pe_ix (ix_seqK (K := K) rfl) (pv 0) (pe_ix (ix_seqK (K := K) rfl) (pv 2) pe_int (fun _ _ => rfl)) (fun _ _ => rfl)) (po_some pe_int) (po_some pe_int)) (pg_seqK (K := K) (n := 2) rfl rfl (pgs_cons (pg_name (i := 3) nd rfl (by first | exact Or.inl rfl | exact Or.inr rfl)) (pgs_cons (pg_name (i := 4) nd rfl (by first | exact Or.inl rfl | exact Or.inr rfl)) pgs_nil))))
      (pss_one (ps_ret (pe_or (pe_and (pe_cmpR (op_eqK (K := K) rfl (hu64 hr)) (pe_ix (ix_seqK (K := K) rfl) (pv 2) pe_int (fun _ _ => rfl)) pe_str (nomark _)) (pe_one (pe_cmpR (op_eqK (K := K) rfl (hu64 hr)) (pv 1) (pv 3) (nomark _)))) (pe_one (pe_and (pe_cmpR (op_eqK (K := K) rfl (hu64 hr)) (pe_ix (ix_seqK (K := K) rfl) (pv 2) pe_int (fun _ _ => rfl)) pe_str (nomark _)) (pe_one (pe_cmpR (op_eqK (K := K) rfl (hu64 hr)) (pv 1) (pv 4) (nomark _)))))))))))), rfl, ?_⟩
    walk_at "q"
    refine ⟨G, v, 1, d, rfl, eG, hv, hd, fun H1 e1 => ?_⟩
    walk_at "q"
    refine q_ifb (fun h => ?_) (fun h => ?_)
    · obtain ⟨a, hs⟩ := row1 h
      walk_at "q"
      refine q_ixRS hv hs (by walk_at "ex") rfl (fun u hu => ?_)
      walk_at "q"
      refine q_eqR hu (.str _) (by walk_at "ex") (shp_mem hs hd a (by simp)) (shp_word (by decide +kernel)) ?_
      exact q_bt' (by rw [isAct, h, if_pos rfl, Seq.at hs] <;> rfl) (q _ (by walk_at "ex"))
    · walk_at "q"
      refine ⟨G, v, 3, d, rfl, by walk_at "ex", hv, hd, fun H2 e2 => ?_⟩
      walk_at "q"
      refine q_ifb (fun h2 => ?_) (fun h2 => ?_)
      · walk_at "q"
        exact q_bt' (by rw [isAct, h, if_neg Bool.false_ne_true, h2] <;> rfl) (q _ (by walk_at "ex"))
      · have h2' : isRow 3 d = true := by simpa using h2
        obtain ⟨a, b, c, hs⟩ := row3 h2'
        have ha := shp_mem hs hd a (by simp)
        have hb := shp_mem hs hd b (by simp)
        have hc := shp_mem hs hd c (by simp)
        have ea : atD d 0 = a := Seq.at hs 0
        have eb : atD d 1 = b := Seq.at hs 1
        have ec : atD d 2 = c := Seq.at hs 2
        walk_at "q"
        refine q_ixRS hv hs (by walk_at "ex") rfl (fun u hu => ?_)
        walk_at "q"
        refine q_lenRS hvc hcs (by walk_at "ex") ?_
        walk_at "q"
        refine ⟨G, u, _, b, rfl, by walk_at "ex", hu, hb, fun H3 e3 => ?_⟩
        walk_at "q"
        refine q_ifb (fun h3 => ?_) (fun h3 => ?_)
        · walk_at "q"
          exact q_bt' (by rw [isAct, h, if_neg Bool.false_ne_true, h2', eb, h3] <;> rfl) (q _ (by walk_at "ex"))
        · have h3' : isBelow chs.length b = true := by simpa using h3
          walk_at "q"
          refine q_ixRS hv hs (by walk_at "ex") rfl (fun u2 hu2 => ?_)
          walk_at "q"
          refine ⟨G, u2, 10, c, rfl, by walk_at "ex", hu2, hc, fun H4 e4 => ?_⟩
          walk_at "q"
          refine q_ifb (fun h4 => ?_) (fun h4 => ?_)
          · walk_at "q"
            exact q_bt' (by rw [isAct, h, if_neg Bool.false_ne_true, h2', eb, h3', ec, h4] <;> rfl) (q _ (by walk_at "ex"))
          · have h4' : isBelow 10 c = true := by simpa using h4
            obtain ⟨i, rfl, i0, i1⟩ := below_int h3'
            cases hu
            obtain ⟨k, rfl⟩ := Int.eq_ofNat_of_zero_le i0
            have hk : k < chs.length := by omega
            obtain ⟨n1, n2, n3, n4, hch⟩ := row4 (bA (List.all_eq_true.mp hall _ (List.getElem_mem hk))).1
            have hrow := List.all_eq_true.mp hall _ (List.getElem_mem hk)
            rw [isChan_eq hch] at hrow
            obtain ⟨r1, hrow⟩ := bA hrow
            obtain ⟨r2, hrow⟩ := bA hrow
            obtain ⟨r3, hrow⟩ := bA hrow
            obtain ⟨g, rfl, _, _⟩ := below_int r2
            obtain ⟨tk, rfl, _, _⟩ := below_int r3
            have ev : isAct chs (.int p) d = (PyData.eqv a (.str "send") && decide (p = g) || PyData.eqv a (.str "take") && decide (p = tk)) := by
              have e1 : chs.getD k .none = chs[k] := by rw [List.getD_eq_getElem?_getD, List.getElem?_eq_getElem hk] <;> rfl
              have e2 : atD chs[k] 1 = .int g := Seq.at hch 1
              have e3 : atD chs[k] 2 = .int tk := Seq.at hch 2
              rw [isAct, h, if_neg Bool.false_ne_true, h2', eb, h3', ec, h4', if_neg (by decide), ea]
              show (_ && PyData.eqv (.int p) (atD (chs.getD k .none) 1) || _ && PyData.eqv (.int p) (atD (chs.getD k .none) 2)) = _
              rw [e1, e2, e3]
              have e4 : ∀ x y : Int, PyData.eqv (.int x) (.int y) = decide (x = y) := fun x y => by
                rw [PyData.eqv]
                by_cases z : x = y <;> simp [z]
              rw [e4, e4]
            walk_at "q"
            refine q_ixRS hv hs (by walk_at "ex") rfl (fun u3 hu3 => ?_)
            cases hu3
            refine q_ixRS hvc hcs (by walk_at "ex") (atI_at hk) (fun u4 hu4 => ?_)
            walk_at "q"
            refine q_sl13 hu4 hch (by walk_at "ex") (fun G2 H5 t d2 gr rt hd2 => ?_)
            have w1 := gr.w
            have k1 := gr.ex
            have g1 := gr.g
            walk_at "q"
            refine q_gSeq rt hd2 (by walk_at "ex") rfl (fun us hus => ?_)
            obtain ⟨u5, _, rfl, r5, hus⟩ := rps_cons hus
            obtain ⟨u6, _, rfl, r6, hus⟩ := rps_cons hus
            obtain rfl := rps_nil hus
            cases r5
            cases r6
            walk_at "q"
            refine q_ixRS (hv.mono g1) hs (by walk_at "ex") rfl (fun u7 hu7 => ?_)
            walk_at "q"
            refine q_eqR hu7 (.str _) (by walk_at "ex") ha (shp_word (by decide +kernel)) ?_
            walk_at "q"
            refine q_ifb (fun h5 => ?_) (fun h5 => ?_)
            · walk_at "q"
              refine q_ifd (fun h6 => ?_) (fun h6 => ?_)
              · exact q_bt' (by rw [ev, h5, decide_eq_true h6] <;> rfl) (q _ (by walk_at "ex"))
              · walk_at "q"
                refine q_ixRS (hv.mono g1) hs (by walk_at "ex") rfl (fun u8 hu8 => ?_)
                walk_at "q"
                refine q_eqR hu8 (.str _) (by walk_at "ex") ha (shp_word (by decide +kernel)) ?_
                walk_at "q"
                refine q_ifb (fun h7 => ?_) (fun h7 => ?_)
                · walk_at "q"
                  exact q_bt' (by rw [ev, h5, h7, decide_eq_false h6] <;> rfl) (q _ (by walk_at "ex"))
                · walk_at "q"
                  exact q_bt' (by rw [ev, h5, h7, decide_eq_false h6] <;> rfl) (q _ (by walk_at "ex"))
            · walk_at "q"
              refine q_ixRS (hv.mono g1) hs (by walk_at "ex") rfl (fun u8 hu8 => ?_)
              walk_at "q"
              refine q_eqR hu8 (.str _) (by walk_at "ex") ha (shp_word (by decide +kernel)) ?_
              walk_at "q"
              refine q_ifb (fun h7 => ?_) (fun h7 => ?_)
              · walk_at "q"
                exact q_bt' (by rw [ev, h5, h7] <;> rfl) (q _ (by walk_at "ex"))
              · walk_at "q"
                exact q_bt' (by rw [ev, h5, h7] <;> rfl) (q _ (by walk_at "ex"))
abbrev s_is_rule : Stmt := topS 28
abbrev N_is_rule : List Str := ["processes", "channels", "row", "states"]
theorem sc_is_rule : FnScope N_is_rule ["processes", "channels", "row"] (defScope s_is_rule) := ⟨rfl, rfl, rfl, by decide +kernel, rfl, by decide +kernel, by decide +kernel⟩
def sp_rule (K : PySem.W.Frag) (t : List PyData → List PyData → PyData → Bool) : Sp := fun vs H Q _ => ∃ (G : Hp) (v1 v2 u : V) (d1 d2 e : PyData) (ps cs : List PyData) (n : Nat), vs = [v1, v2, u] ∧ Ex G H ∧ Rp K G v1 d1 ∧ Seq d1 ps ∧ Shp d1 ∧ ps.all isProcess = true ∧ Rp K G v2 d2 ∧ Seq d2 cs ∧ Shp d2 ∧ cs.all (isChan n) = true ∧ Rp K G u e ∧ Shp e ∧
  ∀ H', Ex H H' → Q (.bl (t ps cs e)) H'
theorem c_is_rule {f : Addr} {fd : FuncData} (F : FnP K "is_rule" s_is_rule f fd) (hm : mg "is_rule" = some (.ref f)) (B : Blt mg) (C_is_row : Cal P w K mg base 2 "is_row" ["value", "many"] (sp2 K isRow)) (C_is_below : Cal P w K mg base 2 "is_below" ["value", "end"] (sp2 K isBelow))
    (C_is_act : Cal P w K mg base 3 "is_act" ["channels", "process", "act"] (sp_act K)) : Cal P w K mg base 4 "is_rule" ["processes", "channels", "row"] (sp_rule K isRule) := by
  refine cal_of F hm sc_is_rule (fun _ _ _ _ _ _ _ us hl => match us, hl with | [_, _, _], _ => rfl) (fun vs H Q E h => ?_) (fun cdv A outer s H vs Q E hr h => ?_)
  · obtain ⟨_, _, _, _, _, _, _, _, _, _, rfl, _⟩ := h
    rfl
  · obtain ⟨G, vp, vc, v, dp, dc, d, ps, chs, n, rfl, eG, hvp, hps, hdp, hpa, hvc, hcs, hdc, hca, hv, hd, q⟩ := h
    have nd := sc_is_rule.nd
    refine ⟨_, [some _, some _, some _, none], ((pss_cons (ps_if (PW.pt (pw_or (pt_not (pt_val (pe_callC C_is_row (hr.mono (by omega)) (by rfl) (pa_cons (pv 2) (pa_cons pe_int pa_nil))))) (pw_or1 (pt_not (pt_val (pe_callC C_is_below (hr.mono (by omega)) (by rfl) (pa_cons (pe_ix (ix_seqK (K := K) rfl) (pv 2) pe_int (fun _ _ => rfl)) (pa_cons (pe_callB (call_lenK (K := K) rfl) (by rfl) B.len_ bo_len (pa_cons (pv 0) pa_nil)) pa_nil)))))))) (pss_one (ps_ret pe_bl)) pss_nil)
      (pss_cons (ps_set (i := 3) nd rfl (Or.inl rfl) (pe_ix (ix_seqK (K := K) rfl) (pe_ix (ix_seqK (K := K) rfl) (pv 0) (pe_ix (ix_seqK (K := K) rfl) (pv 2) pe_int (fun _ _ => rfl)) (fun _ _ => rfl)) pe_int (fun _ _ => rfl)))
      (pss_one (ps_ret (pe_and (pe_callC C_is_below (hr.mono (by omega)) (by rfl) (pa_cons (pe_ix (ix_seqK (K := K) rfl) (pv 2) pe_int (fun _ _ => rfl)) (pa_cons (pv 3) pa_nil))) (pe_and (pe_callC C_is_act (hr.mono (by omega)) (by rfl) (pa_cons (pv 1) (pa_cons (pe_ix (ix_seqK (K := K) rfl) (pv 2) pe_int (fun _ _ => rfl)) (pa_cons (pe_ix (ix_seqK (K := K) rfl) (pv 2) pe_int (fun _ _ => rfl)) pa_nil)))) (pe_one (pe_callC C_is_below (hr.mono (by omega)) (by rfl) (pa_cons (pe_ix (ix_seqK (K := K) rfl) (pv 2) pe_int (fun _ _ => rfl)) (pa_cons (pv 3) pa_nil))))))))))), rfl, ?_⟩
    walk_at "q"
    refine ⟨G, v, 4, d, rfl, eG, hv, hd, fun H1 e1 => ?_⟩
    walk_at "q"
    refine q_ifb (fun h => ?_) (fun h => ?_)
    · walk_at "q"
      exact q_bt' (by rw [isRule, h] <;> rfl) (q _ (by walk_at "ex"))
    · have h' : isRow 4 d = true := by simpa using h
      obtain ⟨a, b, c, e, hs⟩ := row4 h'
      have ha := shp_mem hs hd a (by simp)
      have hb := shp_mem hs hd b (by simp)
      have hc := shp_mem hs hd c (by simp)
      have he := shp_mem hs hd e (by simp)
      have ea : atD d 0 = a := Seq.at hs 0
      have eb : atD d 1 = b := Seq.at hs 1
      have ec : atD d 2 = c := Seq.at hs 2
      have ee : atD d 3 = e := Seq.at hs 3
      walk_at "q"
      refine q_ixRS hv hs (by walk_at "ex") rfl (fun u hu => ?_)
      walk_at "q"
      refine q_lenRS hvp hps (by walk_at "ex") ?_
      walk_at "q"
      refine ⟨G, u, _, a, rfl, by walk_at "ex", hu, ha, fun H2 e2 => ?_⟩
      walk_at "q"
      refine q_ifb (fun h2 => ?_) (fun h2 => ?_)
      · walk_at "q"
        exact q_bt' (by rw [isRule, h', ea, h2] <;> rfl) (q _ (by walk_at "ex"))
      · have h2' : isBelow ps.length a = true := by simpa using h2
        obtain ⟨i, rfl, i0, i1⟩ := below_int h2'
        cases hu
        obtain ⟨k, rfl⟩ := Int.eq_ofNat_of_zero_le i0
        have hk : k < ps.length := by omega
        have hrow := List.all_eq_true.mp hpa _ (List.getElem_mem hk)
        obtain ⟨n1, n2, hch⟩ := row2 (bA hrow).1
        rw [isProcess_eq hch] at hrow
        obtain ⟨r1, hrow⟩ := bA hrow
        obtain ⟨r2, hrow⟩ := bA hrow
        obtain ⟨st, rfl, _, _⟩ := below_int r2
        have ev : isRule ps chs d = (isBelow st b && (isAct chs (.int k) c && isBelow st e)) := by
          have e1 : ps.getD k .none = ps[k] := by rw [List.getD_eq_getElem?_getD, List.getElem?_eq_getElem hk] <;> rfl
          have e2 : atD ps[k] 1 = .int st := Seq.at hch 1
          have e3 : natD (.int (k : Int)) = k := rfl
          rw [isRule, h', ea, h2', if_neg (by decide), e3, e1, e2, eb, ec, ee]
        walk_at "q"
        refine q_ixRS hv hs (by walk_at "ex") rfl (fun u2 hu2 => ?_)
        cases hu2
        refine q_ixRS hvp hps (by walk_at "ex") (atI_at hk) (fun u3 hu3 => ?_)
        walk_at "q"
        refine q_ixRS hu3 hch (by walk_at "ex") rfl (fun u4 hu4 => ?_)
        cases hu4
        walk_at "q"
        refine q_ixRS hv hs (by walk_at "ex") rfl (fun u5 hu5 => ?_)
        walk_at "q"
        refine ⟨G, u5, st, b, rfl, by walk_at "ex", hu5, hb, fun H3 e3 => ?_⟩
        walk_at "q"
        refine q_ifb (fun h3 => ?_) (fun h3 => ?_)
        · walk_at "q"
          refine q_ixRS hv hs (by walk_at "ex") rfl (fun u6 hu6 => ?_)
          cases hu6
          walk_at "q"
          refine q_ixRS hv hs (by walk_at "ex") rfl (fun u7 hu7 => ?_)
          walk_at "q"
          refine ⟨G, vc, u7, _, dc, c, chs, n, rfl, by walk_at "ex", hvc, hcs, hdc, hca, hu7, hc, fun H4 e4 => ?_⟩
          walk_at "q"
          refine q_ifb (fun h4 => ?_) (fun h4 => ?_)
          · walk_at "q"
            refine q_ixRS hv hs (by walk_at "ex") rfl (fun u8 hu8 => ?_)
            walk_at "q"
            refine ⟨G, u8, st, e, rfl, by walk_at "ex", hu8, he, fun H5 e5 => ?_⟩
            exact q_bt' (by rw [ev, h3, h4] <;> rfl) (q _ (by walk_at "ex"))
          · walk_at "q"
            exact q_bt' (by rw [ev, h3, h4] <;> rfl) (q _ (by walk_at "ex"))
        · walk_at "q"
          exact q_bt' (by rw [ev, h3] <;> rfl) (q _ (by walk_at "ex"))
abbrev s_are_rules : Stmt := topS 29
abbrev N_are_rules : List Str := ["processes", "channels", "rows", "row"]
theorem sc_are_rules : FnScope N_are_rules ["processes", "channels", "rows"] (defScope s_are_rules) := ⟨rfl, rfl, rfl, by decide +kernel, rfl, by decide +kernel, by decide +kernel⟩
theorem c_are_rules {f : Addr} {fd : FuncData} (F : FnP K "are_rules" s_are_rules f fd) (hm : mg "are_rules" = some (.ref f)) (B : Blt mg) (cs : Cst K mg) (C_is_sequence : Cal P w K mg base 1 "is_sequence" ["value"] (sp1 K dSeq)) (C_is_rule : Cal P w K mg base 4 "is_rule" ["processes", "channels", "row"] (sp_rule K isRule)) :
    Cal P w K mg base 5 "are_rules" ["processes", "channels", "rows"] (sp_rule K areRules) := by
  refine cal_of F hm sc_are_rules (fun _ _ _ _ _ _ _ us hl => match us, hl with | [_, _, _], _ => rfl) (fun vs H Q E h => ?_) (fun cdv A outer s H vs Q E hr h => ?_)
  · obtain ⟨_, _, _, _, _, _, _, _, _, _, rfl, _⟩ := h
    rfl
  · obtain ⟨G, vp, vc, v, dp, dc, d, ps, chs, n, rfl, eG, hvp, hps, hdp, hpa, hvc, hcs, hdc, hca, hv, hd, q⟩ := h
    have nd := sc_are_rules.nd
    refine ⟨_, [some _, some _, some _, none], ((pss_one (ps_ret (pe_and (pe_callC C_is_sequence (hr.mono (by omega)) (by rfl) (pa_cons (pv 2) pa_nil)) (pe_and (pe_cmpR op_le (pe_callB (call_lenK (K := K) rfl) (by rfl) B.len_ bo_len (pa_cons (pv 2) pa_nil)) (pe_gint (by rfl) cs.MOST_RULES) (nomark _)) (pe_one (pe_callB (cr_all rfl) (by rfl) B.all_ bo_all (pa_cons (pe_lc (own := [("row", 3)]) rfl nd (pi_seqK (K := K) rfl (pv 2)) (blkOk_by (N := N_are_rules) (sc := defScope s_are_rules) (by decide +kernel)) (fun _ _ _ _ _ => (pg_name (i := 3) nd rfl (by first | exact Or.inl rfl | exact Or.inr rfl))) (fun _ _ _ _ _ => pts_nil) (fun _ _ _ _ _ => (pe_callC C_is_rule (hr.mono (by omega)) (by rfl) (pa_cons (pv 0) (pa_cons (pv 1) (pa_cons (pv 3) pa_nil)))))) pa_nil)))))))), rfl, ?_⟩
    walk_at "q"
    refine ⟨G, v, d, rfl, eG, hv, hd, fun H1 e1 => ?_⟩
    walk_at "q"
    refine q_ifb (fun h => ?_) (fun h => ?_)
    · obtain ⟨ds, hs⟩ := seq_of h
      have ev : areRules ps chs d = (decide (ds.length ≤ 40) && ds.all (isRule ps chs)) := by
        unfold areRules
        rw [hs.items]
      walk_at "q"
      refine q_lenRS hv hs (by walk_at "ex") ?_
      walk_at "q"
      refine q_ifd (fun h2 => ?_) (fun h2 => ?_)
      · walk_at "q"
        refine q_lcV rfl hv hs (by walk_at "ex") (by omega) (R := fun i y _ => y = V.bl (optB (isRule ps chs) ds[i]?)) (fun _ _ _ _ _ h => h) (fun i hi u G' H' gr ru C N hC => ?_) (fun D ys G' H' gr hD _ _ hl hy => ?_)
        · have w1 := gr.w
          walk_at "q"
          refine ⟨rfl, ?_⟩
          walk_at "q"
          refine ⟨G', vp, vc, u, dp, dc, _, ps, chs, n, rfl, by walk_at "ex", hvp.mono gr.g, hps, hdp, hpa, hvc.mono gr.g, hcs, hdc, hca, ru, shp_mem hs hd _ (List.getElem_mem hi), fun H2 e2 => ?_⟩
          exact hC _ G' _ (by walk_at "gro") (by show _ = V.bl (optB (isRule ps chs) ds[i]?); rw [List.getElem?_eq_getElem hi] <;> rfl)
        · have k1 := gr.ex
          walk_at "q"
          rw [bls_of (G' := G') hl hy] at hD
          refine q_all hD ?_
          rw [range_all (isRule ps chs) ds]
          exact q_bt' (by rw [ev, decide_eq_true (by omega)] <;> rfl) (q _ (by walk_at "ex"))
      · walk_at "q"
        exact q_bt' (by rw [ev, decide_eq_false (by omega)] <;> rfl) (q _ (by walk_at "ex"))
    · walk_at "q"
      exact q_bt' (by unfold areRules; rw [seq_no h]) (q _ (by walk_at "ex"))
end
end Cw

set_option maxHeartbeats 4000000
namespace Cw
open PySem PySem.Spec PyProof.Rows L2
section
variable {P : Program} {w : World} {K : PySem.W.Frag} {mg : Str → Option Value} {base : Heap}
abbrev s_Net___init__ : Stmt := clsInit (topS 20) 0
abbrev N_Net___init__ : List Str := ["self", "processes", "channels", "rules", "row", "process", "state", "act", "then"]
theorem sc_Net___init__ : FnScope N_Net___init__ ["self", "processes", "channels", "rules"] (defScope s_Net___init__) := ⟨rfl, rfl, rfl, by decide +kernel, rfl, by decide +kernel, by decide +kernel⟩
theorem c_Net {C CB f : Addr} {fd : FuncData} (F : FunD K "__init__" "Net.__init__" (defArgs s_Net___init__) (defBody s_Net___init__) (defScope s_Net___init__) [] [] f fd) (M : L2.Mk K C f) (nt : NtC K mg C) (B : Blt mg) (T_BadValue : Xn K mg "BadValue" "at" CB) (C_are_processes : Cal P w K mg base 4 "are_processes" ["rows"] (sp1 K areProcs))
    (C_are_channels : Cal P w K mg base 4 "are_channels" ["processes", "rows"] (spN K fun ps => areChans ps.length)) (C_are_rules : Cal P w K mg base 5 "are_rules" ["processes", "channels", "rows"] (sp_rule K areRules)) : Mkx P w K mg base 6 "Net" C ["self", "processes", "channels", "rules"] (sp_net K C CB) := by
  refine mkx_of F M nt.g sc_Net___init__ (fun _ _ _ _ _ _ _ us hl => match us, hl with | [_, _, _, _], _ => rfl) (fun vs H Q E h => ?_) (fun cdv A outer s H vs Q E hr h => ?_)
  · obtain ⟨_, _, _, _, _, _, _, _, _, rfl, _⟩ := h
    rfl
  · obtain ⟨G, a, dx, v1, v2, v3, d1, d2, d3, rfl, eG, ga, hA, h1, s1, h2, s2, h3, s3, bad, good⟩ := h
    have nd := sc_Net___init__.nd
    refine ⟨_, [some _, some _, some _, some _, none, none, none, none, none], ((pss_cons (ps_if (pt_not (pt_val (pe_callC C_are_processes (hr.mono (by omega)) (by rfl) (pa_cons (pv 1) pa_nil)))) (pss_one (ps_raiseX rfl T_BadValue hr (takes_of rfl rfl rfl rfl) (pa_cons pe_int pa_nil) (by rfl))) pss_nil)
      (pss_cons (ps_if (pt_not (pt_val (pe_callC C_are_channels (hr.mono (by omega)) (by rfl) (pa_cons (pv 1) (pa_cons (pv 2) pa_nil))))) (pss_one (ps_raiseX rfl T_BadValue hr (takes_of rfl rfl rfl rfl) (pa_cons pe_int pa_nil) (by rfl))) pss_nil)
      (pss_cons (ps_if (pt_not (pt_val (pe_callC C_are_rules (hr.mono (by omega)) (by rfl) (pa_cons (pv 1) (pa_cons (pv 2) (pa_cons (pv 3) pa_nil)))))) (pss_one (ps_raiseX rfl T_BadValue hr (takes_of rfl rfl rfl rfl) (pa_cons pe_int pa_nil) (by rfl))) pss_nil)
      (pss_cons (ps_fldK (K := K) rfl (pv 0) (pe_callTy (call_tupK (K := K) rfl) (by rfl) B.tuple_ bo_tuple (pa_cons (pe_lc (own := [("row", 4)]) rfl nd (pi_seqK (K := K) rfl (pv 1)) (blkOk_by (N := N_Net___init__) (sc := defScope s_Net___init__) (by decide +kernel)) (fun _ _ _ _ _ => (pg_name (i := 4) nd rfl (by first | exact Or.inl rfl | exact Or.inr rfl))) (fun _ _ _ _ _ => pts_nil) (fun _ _ _ _ _ => (pe_callTy (call_tupK (K := K) rfl) (by rfl) B.tuple_ bo_tuple (pa_cons (pv 4) pa_nil)))) pa_nil)) rfl)
      (pss_cons (ps_fldK (K := K) rfl (pv 0) (pe_callTy (call_tupK (K := K) rfl) (by rfl) B.tuple_ bo_tuple (pa_cons (pe_lc (own := [("row", 4)]) rfl nd (pi_seqK (K := K) rfl (pv 2)) (blkOk_by (N := N_Net___init__) (sc := defScope s_Net___init__) (by decide +kernel)) (fun _ _ _ _ _ => (pg_name (i := 4) nd rfl (by first | exact Or.inl rfl | exact Or.inr rfl))) (fun _ _ _ _ _ => pts_nil) (fun _ _ _ _ _ => (pe_callTy (call_tupK (K := K) rfl) (by rfl) B.tuple_ bo_tuple (pa_cons (pv 4) pa_nil)))) pa_nil)) rfl)
      (pss_one (ps_fldK (K := K) rfl (pv 0) (pe_callTy (call_tupK (K := K) rfl) (by rfl) B.tuple_ bo_tuple (pa_cons (pe_lc (own := [("process", 5), ("state", 6), ("act", 7), ("then", 8)]) rfl nd (pi_seqK (K := K) rfl (pv 3)) (blkOk_by (N := N_Net___init__) (sc := defScope s_Net___init__) (by decide +kernel)) (fun _ _ _ _ _ => (pg_seqK (K := K) (n := 4) rfl rfl (pgs_cons (pg_name (i := 5) nd rfl (by first | exact Or.inl rfl | exact Or.inr rfl)) (pgs_cons (pg_name (i := 6) nd rfl (by first | exact Or.inl rfl | exact Or.inr rfl)) (pgs_cons (pg_name (i := 7) nd rfl (by first | exact Or.inl rfl | exact Or.inr rfl)) (pgs_cons (pg_name (i := 8) nd rfl (by first | exact Or.inl rfl | exact Or.inr rfl)) pgs_nil)))))) (fun _ _ _ _ _ => pts_nil) (fun _ _ _ _ _ => (pe_tup (pa_cons (pv 5) (pa_cons (pv 6) (pa_cons (pe_callTy (call_tupK (K := K) rfl) (by rfl) B.tuple_ bo_tuple (pa_cons (pv 7) pa_nil)) (pa_cons (pv 8) pa_nil))))))) pa_nil)) rfl)))))))), rfl, ?_⟩
    walk_at "q"
    refine ⟨G, v1, d1, rfl, eG, h1, s1, fun H1 e1 => ?_⟩
    walk_at "q"
    refine q_ifb (fun t1 => ?_) (fun t1 => ?_)
    · walk_at "q"
      exact fun d hd => bad 0 _ d (by rw [netBad, if_pos (by simpa using t1)]) (by walk_at "ex") hd
    · have t1' : areProcs d1 = true := by simpa using t1
      obtain ⟨ps, q1, l1, p1⟩ := procs_seq t1'
      have n1 : netBad d1 d2 d3 = if areChans ps.length d2 = false then some 1 else if areRules ps (itemsD d2) d3 = false then some 2 else none := by
        rw [netBad, if_neg (by rw [t1']; decide), Seq.it q1]
      walk_at "q"
      refine ⟨G, v1, v2, d1, d2, ps, rfl, by walk_at "ex", h1, q1, s1, h2, s2, fun H2 e2 => ?_⟩
      walk_at "q"
      refine q_ifb (fun t2 => ?_) (fun t2 => ?_)
      · walk_at "q"
        exact fun d hd => bad 1 _ d (by rw [n1, if_pos (by simpa using t2)]) (by walk_at "ex") hd
      · have t2' : areChans ps.length d2 = true := by simpa using t2
        obtain ⟨chs, q2, l2, p2⟩ := chans_seq t2'
        rw [if_neg (by rw [t2']; decide), Seq.it q2] at n1
        walk_at "q"
        refine ⟨G, v1, v2, v3, d1, d2, d3, ps, chs, ps.length, rfl, by walk_at "ex", h1, q1, s1, p1, h2, q2, s2, p2, h3, s3, fun H3 e3 => ?_⟩
        walk_at "q"
        refine q_ifb (fun t3 => ?_) (fun t3 => ?_)
        · walk_at "q"
          exact fun d hd => bad 2 _ d (by rw [n1, if_pos (by simpa using t3)]) (by walk_at "ex") hd
        · have t3' : areRules ps chs d3 = true := by simpa using t3
          obtain ⟨rs, q3, l3, p3⟩ := rules_seq t3'
          rw [if_neg (by rw [t3']; decide)] at n1
          have e0 : netOf d1 d2 d3 = ⟨ps.map rowT, chs.map rowT, rs.map ruleT⟩ := by
            unfold netOf
            rw [Seq.it q1, Seq.it q2, Seq.it q3]
          have good' := good n1
          rw [e0] at good'
          walk_at "q"
          have g0 : Gro (some a) G H G H3 := Gro.start eG (by walk_at "ex")
          have hA3 : H3 a = some (.ins C dx []) := by walk_at "at"
          refine q_lcV rfl h1 q1 (by walk_at "ex") (by omega) (R := fun i y G' => Rp K G' y (optD rowT ps[i]?)) (fun _ _ _ _ x h => h.mono x) (fun i hi u G' H' gr ru C N hC => ?_) (fun D ys G1 H4 gr1 hD _ _ hl hy => ?_)
          · have w1 := gr.w
            walk_at "q"
            refine ⟨rfl, ?_⟩
            walk_at "q"
            obtain ⟨_, _, hsi⟩ := row2 (bA (List.all_eq_true.mp p1 _ (List.getElem_mem hi))).1
            refine q_tupRS ru hsi (by walk_at "ex") (fun G2 H2 t g2 rt => hC _ G2 _ g2 ?_)
            rw [List.getElem?_eq_getElem hi]
            show Rp K G2 _ (.tuple (itemsD ps[i]))
            rw [Seq.it hsi]
            exact rt
          · walk_at "q"
            refine q_tupNew hD gr1.w (rps_of hl hy) (fun G2 H5 t1 gr2 rt1 => ?_)
            have ga2 := (g0.then_ gr1 (by rw [hA3]; exact fun z => nomatch z)).then_ gr2 (by rw [gr1.ex _ _ hA3]; exact fun z => nomatch z)
            have hA5 := gr2.ex _ _ (gr1.ex _ _ hA3)
            have na2 : G2 a = none := ga2.n a (by rw [hA]; exact fun z => nomatch z) ga
            walk_at "q"
            refine ⟨a, C, dx, _, rfl, hA5, nt.c, nt.n1, by decide, ?_⟩
            have g6 := ga2.put (o := .ins C dx (putF "processes" (.ref t1) [])) na2
            have hA6 : L2.upd H5 a (.ins C dx (putF "processes" (.ref t1) [])) a = some (.ins C dx [("processes", .ref t1)]) := upd_same
            generalize L2.upd H5 a (.ins C dx (putF "processes" (.ref t1) [])) = H6 at g6 hA6 ⊢
            walk_at "q"
            refine q_lcV rfl (h2.mono g6.g) q2 g6.w (by omega) (R := fun i y G' => Rp K G' y (optD rowT chs[i]?)) (fun _ _ _ _ x h => h.mono x) (fun i hi u G' H' gr ru C N hC => ?_) (fun D ys G7 H7 gr7 hD _ _ hl hy => ?_)
            · have w1 := gr.w
              walk_at "q"
              refine ⟨rfl, ?_⟩
              walk_at "q"
              obtain ⟨_, _, _, _, hsi⟩ := row4 (bA (List.all_eq_true.mp p2 _ (List.getElem_mem hi))).1
              refine q_tupRS ru hsi (by walk_at "ex") (fun G2 H2 t g2 rt => hC _ G2 _ g2 ?_)
              rw [List.getElem?_eq_getElem hi]
              show Rp K G2 _ (.tuple (itemsD chs[i]))
              rw [Seq.it hsi]
              exact rt
            · walk_at "q"
              refine q_tupNew hD gr7.w (rps_of hl hy) (fun G8 H8 t2 gr8 rt2 => ?_)
              have ga8 := (g6.then_ gr7 (by rw [hA6]; exact fun z => nomatch z)).then_ gr8 (by rw [gr7.ex _ _ hA6]; exact fun z => nomatch z)
              have hA8 := gr8.ex _ _ (gr7.ex _ _ hA6)
              have na8 : G8 a = none := ga8.n a (by rw [hA]; exact fun z => nomatch z) ga
              walk_at "q"
              refine ⟨a, C, dx, _, rfl, hA8, nt.c, nt.n2, by simp, ?_⟩
              have g9 := ga8.put (o := .ins C dx (putF "channels" (.ref t2) [("processes", .ref t1)])) na8
              have hA9 : L2.upd H8 a (.ins C dx (putF "channels" (.ref t2) [("processes", .ref t1)])) a = some (.ins C dx [("processes", .ref t1), ("channels", .ref t2)]) := upd_same
              generalize L2.upd H8 a (.ins C dx (putF "channels" (.ref t2) [("processes", .ref t1)])) = H9 at g9 hA9 ⊢
              walk_at "q"
              refine q_lcV rfl (h3.mono g9.g) q3 g9.w (by omega) (R := fun i y G' => Rp K G' y (optD ruleT rs[i]?)) (fun _ _ _ _ x h => h.mono x) (fun i hi u G' H' gr ru C N hC => ?_) (fun D ys G10 H10 gr10 hD _ _ hl hy => ?_)
              · have w1 := gr.w
                obtain ⟨r4, as, has⟩ := rule_parts (List.all_eq_true.mp p3 _ (List.getElem_mem hi))
                obtain ⟨x0, x1, x2, x3, hsi⟩ := row4 r4
                walk_at "q"
                refine q_gSeq ru hsi (by walk_at "ex") rfl (fun us hus => ?_)
                obtain ⟨u0, u1, u2, u3, rfl, r0, r1, r2, r3⟩ := rps4 hus
                walk_at "q"
                refine ⟨rfl, ?_⟩
                walk_at "q"
                rw [show atD rs[i] 2 = x2 from Seq.at hsi 2] at has
                refine q_tupRS r2 has (by walk_at "ex") (fun G2 H2 t g2 rt => ?_)
                walk_at "q"
                rename_i p hp
                refine hC _ (L2.upd G2 p (.tup [u0, u1, .ref t, u3])) _ (g2.trans0 (Gro.new g2.w hp)) ?_
                have nx := Ex.new (o := .tup [u0, u1, .ref t, u3]) (g2.w.back hp)
                rw [List.getElem?_eq_getElem hi]
                show Rp K _ _ (.tuple [atD rs[i] 0, atD rs[i] 1, .tuple (itemsD (atD rs[i] 2)), atD rs[i] 3])
                rw [show atD rs[i] 0 = x0 from Seq.at hsi 0, show atD rs[i] 1 = x1 from Seq.at hsi 1, show atD rs[i] 2 = x2 from Seq.at hsi 2, show atD rs[i] 3 = x3 from Seq.at hsi 3, Seq.it has]
                exact .tup (.inl (.inl upd_same)) (.cons (r0.mono (g2.g.trans nx)) (.cons (r1.mono (g2.g.trans nx)) (.cons (rt.mono nx) (.cons (r3.mono (g2.g.trans nx)) .nil))))
              · walk_at "q"
                refine q_tupNew hD gr10.w (rps_of hl hy) (fun G11 H11 t3 gr11 rt3 => ?_)
                have ga11 := (g9.then_ gr10 (by rw [hA9]; exact fun z => nomatch z)).then_ gr11 (by rw [gr10.ex _ _ hA9]; exact fun z => nomatch z)
                have hA11 := gr11.ex _ _ (gr10.ex _ _ hA9)
                have na11 : G11 a = none := ga11.n a (by rw [hA]; exact fun z => nomatch z) ga
                walk_at "q"
                refine ⟨a, C, dx, _, rfl, hA11, nt.c, nt.n3, by simp, ?_⟩
                exact good' G11 _ (.ref t1) (.ref t2) (.ref t3) (ga11.put na11) upd_same (rt1.mono (gr7.g.trans (gr8.g.trans (gr10.g.trans gr11.g)))) (rt2.mono (gr10.g.trans gr11.g)) rt3
end
end Cw

set_option maxHeartbeats 4000000
namespace Cw
open PySem PySem.Spec PyProof.Rows L2
section
variable {P : Program} {w : World} {K : PySem.W.Frag} {mg : Str → Option Value} {base : Heap}
abbrev s_act_word : Stmt := topS 32
abbrev N_act_word : List Str := ["net", "rule"]
theorem sc_act_word : FnScope N_act_word ["net", "rule"] (defScope s_act_word) := ⟨rfl, rfl, rfl, by decide +kernel, rfl, by decide +kernel, by decide +kernel⟩
def spNet (K : PySem.W.Frag) (C : Addr) (Rv : NetD → PyData → PyData) : Sp := fun vs H Q _ => ∃ (G : Hp) (a : Addr) (N : NetD) (v : V) (d : PyData), vs = [.ref a, v] ∧ Ex G H ∧ NetAt K C G a N ∧ NOk N ∧ Rp K G v d ∧ Shp d ∧ ∀ H' u, Ex H H' → Rp K G u (Rv N d) → Q u H'
theorem c_act_word {C f : Addr} {fd : FuncData} (F : FnP K "act_word" s_act_word f fd) (hm : mg "act_word" = some (.ref f)) (B : Blt mg) (nt : NtC K mg C) (C_is_below : Cal P w K mg base 2 "is_below" ["value", "end"] (sp2 K isBelow)) : Cal P w K mg base 3 "act_word" ["net", "rule"] (spNet K C wordD) := by
  refine cal_of F hm sc_act_word (fun _ _ _ _ _ _ _ us hl => match us, hl with | [_, _], _ => rfl) (fun vs H Q E h => ?_) (fun cdv A outer s H vs Q E hr h => ?_)
  · obtain ⟨_, _, _, _, _, rfl, _⟩ := h
    rfl
  · obtain ⟨G, a, N, v, d, rfl, eG, hN, ok, hv, hd, q⟩ := h
    have nd := sc_act_word.nd
    refine ⟨_, [some _, some _], ((pss_one (ps_ret (pe_ifExp (pt_val (pe_callC C_is_below (hr.mono (by omega)) (by rfl) (pa_cons (pv 1) (pa_cons (pe_callB (call_lenK (K := K) rfl) (by rfl) B.len_ bo_len (pa_cons (pe_fldK (K := K) rfl (pv 0)) pa_nil)) pa_nil)))) (pe_ix (ix_seqK (K := K) rfl) (pe_ix (ix_seqK (K := K) rfl) (pe_ix (ix_seqK (K := K) rfl) (pe_fldK (K := K) rfl (pv 0)) (pv 1) (fun _ _ => rfl)) pe_int (fun _ _ => rfl)) pe_int (fun _ _ => rfl)) pe_non)))), rfl, ?_⟩
    walk_at "q"
    refine ⟨G, v, _, d, rfl, by walk_at "ex", hv, hd, fun H1 e1 => ?_⟩
    walk_at "q"
    refine q_ifb (fun h => ?_) (fun h => ?_)
    · obtain ⟨i, rfl, i0, i1⟩ := below_int h
      cases hv
      obtain ⟨k, rfl⟩ := Int.eq_ofNat_of_zero_le i0
      have hk : k < N.r.length := by omega
      obtain ⟨p, st, wd, as, t, er⟩ := ok.r _ (List.getElem_mem hk)
      walk_at "q"
      rename_i vr2 hvr2
      refine q_ixRT hvr2 (by walk_at "ex") (atI_at hk) (fun u1 hu1 => ?_)
      rw [er] at hu1
      walk_at "q"
      refine q_ixRT hu1 (by walk_at "ex") rfl (fun u2 hu2 => ?_)
      walk_at "q"
      refine q_ixRT hu2 (by walk_at "ex") (atI_nat (j := 0) (v := PyData.str wd) rfl) (fun u3 hu3 => ?_)
      refine q _ _ (by walk_at "ex") ?_
      have e : wordD N (.int k) = .str wd := by
        rw [wordD, h, if_pos rfl]
        show atD (atD (N.r.getD k .none) 2) 0 = _
        rw [List.getD_eq_getElem?_getD, List.getElem?_eq_getElem hk]
        show atD (atD N.r[k] 2) 0 = _
        rw [er] <;> rfl
      rw [e]
      exact hu3
    · walk_at "q"
      refine q _ _ (by walk_at "ex") ?_
      rw [wordD, h, if_neg Bool.false_ne_true]
      exact .non
abbrev s_is_deed : Stmt := topS 31
abbrev N_is_deed : List Str := ["net", "deed"]
theorem sc_is_deed : FnScope N_is_deed ["net", "deed"] (defScope s_is_deed) := ⟨rfl, rfl, rfl, by decide +kernel, rfl, by decide +kernel, by decide +kernel⟩
def spNetB (K : PySem.W.Frag) (C : Addr) (Rv : NetD → PyData → Bool) : Sp := fun vs H Q _ => ∃ (G : Hp) (a : Addr) (N : NetD) (v : V) (d : PyData), vs = [.ref a, v] ∧ Ex G H ∧ NetAt K C G a N ∧ NOk N ∧ Rp K G v d ∧ Shp d ∧ ∀ H', Ex H H' → Q (.bl (Rv N d)) H'
theorem wordD_shp {N : NetD} (ok : NOk N) (d : PyData) : Shp (wordD N d) := by
  unfold wordD
  by_cases h : isBelow N.r.length d = true
  · obtain ⟨i, rfl, i0, i1⟩ := below_int h
    obtain ⟨k, rfl⟩ := Int.eq_ofNat_of_zero_le i0
    have hk : k < N.r.length := by omega
    obtain ⟨p, st, wd, as, t, er⟩ := ok.r _ (List.getElem_mem hk)
    have s1 := shp_mem (.inr rfl) ok.sr _ (List.getElem_mem hk)
    rw [er] at s1
    have s2 := shp_mem (.inr rfl) s1 (.tuple (.str wd :: as)) (by simp)
    have s3 := shp_mem (.inr rfl) s2 (.str wd) (by simp)
    rw [if_pos h]
    show Shp (atD (atD (N.r.getD k .none) 2) 0)
    rw [List.getD_eq_getElem?_getD, List.getElem?_eq_getElem hk]
    show Shp (atD (atD N.r[k] 2) 0)
    rw [er]
    exact s3
  · rw [if_neg h]
    exact shp_none
theorem shp_pair : Shp (.tuple [.str "do", .str "send"]) := by
  show okD 60 _ = true
  decide +kernel
theorem shp_lossy : Shp (.tuple [.str "order lossy", .str "loose lossy"]) := by
  show okD 60 _ = true
  decide +kernel
theorem c_is_deed {C f : Addr} {fd : FuncData} (F : FnP K "is_deed" s_is_deed f fd) (hm : mg "is_deed" = some (.ref f)) (B : Blt mg) (cs : Cst K mg) (nt : NtC K mg C) (C_is_row : Cal P w K mg base 2 "is_row" ["value", "many"] (sp2 K isRow)) (C_is_below : Cal P w K mg base 2 "is_below" ["value", "end"] (sp2 K isBelow))
    (C_is_number : Cal P w K mg base 1 "is_number" ["value"] (sp1 K isNum)) (C_act_word : Cal P w K mg base 3 "act_word" ["net", "rule"] (spNet K C wordD)) : Cal P w K mg base 4 "is_deed" ["net", "deed"] (spNetB K C isDeedD) := by
  refine cal_of F hm sc_is_deed (fun _ _ _ _ _ _ _ us hl => match us, hl with | [_, _], _ => rfl) (fun vs H Q E h => ?_) (fun cdv A outer s H vs Q E hr h => ?_)
  · obtain ⟨_, _, _, _, _, rfl, _⟩ := h
    rfl
  · obtain ⟨G, a, N, v, d, rfl, eG, hN, ok, hv, hd, q⟩ := h
    have nd := sc_is_deed.nd
    refine ⟨_, [some _, some _], ((pss_cons (ps_if (pt_val (pe_callC C_is_row (hr.mono (by omega)) (by rfl) (pa_cons (pv 1) (pa_cons pe_int pa_nil)))) (pss_one (ps_ret (pe_and (pe_cmpR (op_eqK (K := K) rfl (hu64 hr)) (pe_ix (ix_seqK (K := K) rfl) (pv 1) pe_int (fun _ _ => rfl)) pe_str (nomark _)) (pe_one (pe_cmpR (op_inB (K := K) rfl (hu65 hr)) (pe_callC C_act_word (hr.mono (by omega)) (by rfl) (pa_cons (pv 0) (pa_cons (pe_ix (ix_seqK (K := K) rfl) (pv 1) pe_int (fun _ _ => rfl)) pa_nil))) (pe_tup (pa_cons pe_str (pa_cons pe_str pa_nil))) (by with_unfolding_all rfl)))))) pss_nil)
      (pss_cons (ps_if (PW.pt (pw_or (pt_not (pt_val (pe_callC C_is_row (hr.mono (by omega)) (by rfl) (pa_cons (pv 1) (pa_cons pe_int pa_nil))))) (pw_or1 (pt_not (pt_val (pe_callC C_is_number (hr.mono (by omega)) (by rfl) (pa_cons (pe_ix (ix_seqK (K := K) rfl) (pv 1) pe_int (fun _ _ => rfl)) pa_nil))))))) (pss_one (ps_ret pe_bl)) pss_nil)
      (pss_cons (ps_if (pt_cmpR (op_eqK (K := K) rfl (hu64 hr)) (pe_ix (ix_seqK (K := K) rfl) (pv 1) pe_int (fun _ _ => rfl)) pe_str (nomark _)) (pss_one (ps_ret (pe_cmpR (op_eqK (K := K) rfl (hu64 hr)) (pe_callC C_act_word (hr.mono (by omega)) (by rfl) (pa_cons (pv 0) (pa_cons (pe_ix (ix_seqK (K := K) rfl) (pv 1) pe_int (fun _ _ => rfl)) pa_nil))) pe_str (nomark _)))) pss_nil)
      (pss_one (ps_ret (pe_and (pe_cmpR (op_eqK (K := K) rfl (hu64 hr)) (pe_ix (ix_seqK (K := K) rfl) (pv 1) pe_int (fun _ _ => rfl)) pe_str (nomark _)) (pe_and (pe_callC C_is_below (hr.mono (by omega)) (by rfl) (pa_cons (pe_ix (ix_seqK (K := K) rfl) (pv 1) pe_int (fun _ _ => rfl)) (pa_cons (pe_callB (call_lenK (K := K) rfl) (by rfl) B.len_ bo_len (pa_cons (pe_fldK (K := K) rfl (pv 0)) pa_nil)) pa_nil))) (pe_one (pe_cmpR (op_inB (K := K) rfl (hu65 hr)) (pe_ix (ix_seqK (K := K) rfl) (pe_ix (ix_seqK (K := K) rfl) (pe_fldK (K := K) rfl (pv 0)) (pe_ix (ix_seqK (K := K) rfl) (pv 1) pe_int (fun _ _ => rfl)) (fun _ _ => rfl)) pe_int (fun _ _ => rfl)) (pe_gref (by rfl) cs.LOSSY) (by with_unfolding_all rfl))))))))))), rfl, ?_⟩
    walk_at "q"
    refine ⟨G, v, 2, d, rfl, eG, hv, hd, fun H1 e1 => ?_⟩
    walk_at "q"
    refine q_ifb (fun h => ?_) (fun h => ?_)
    · obtain ⟨x0, x1, hs⟩ := row2 h
      have h0 := shp_mem hs hd x0 (by simp)
      have h1 := shp_mem hs hd x1 (by simp)
      have ev : isDeedD N d = (PyData.eqv x0 (.str "act") && [PyData.str "do", .str "send"].any fun k => PyData.eqv k (wordD N x1)) := by
        rw [isDeedD, h, if_pos rfl, show atD d 0 = x0 from Seq.at hs 0, show atD d 1 = x1 from Seq.at hs 1]
      walk_at "q"
      refine q_ixRS hv hs (by walk_at "ex") rfl (fun u hu => ?_)
      walk_at "q"
      refine q_eqR hu (.str _) (by walk_at "ex") h0 (shp_word (by decide +kernel)) ?_
      walk_at "q"
      refine q_ifb (fun h2 => ?_) (fun h2 => ?_)
      · walk_at "q"
        refine q_ixRS hv hs (by walk_at "ex") rfl (fun u1 hu1 => ?_)
        walk_at "q"
        refine ⟨G, a, N, u1, x1, rfl, by walk_at "ex", hN, ok, hu1, h1, fun H2 u2 e2 hu2 => ?_⟩
        walk_at "q"
        rename_i p hp
        have x2 : Ex G H2 := by walk_at "ex"
        refine q_inT (hu2.mono (Ex.new (x2.back hp))) (.tup (.inl (.inl upd_same)) (.cons (.str _) (.cons (.str _) .nil))) (Ex.add (x2.trans (Ex.new hp)) upd_same) (wordD_shp ok x1) shp_pair ?_
        clear x2
        exact q_bt' (by rw [ev, h2] <;> rfl) (q _ (by walk_at "ex"))
      · walk_at "q"
        exact q_bt' (by rw [ev, h2] <;> rfl) (q _ (by walk_at "ex"))
    · walk_at "q"
      refine ⟨G, v, 3, d, rfl, by walk_at "ex", hv, hd, fun H2 e2 => ?_⟩
      walk_at "q"
      refine q_ifb (fun h2 => ?_) (fun h2 => ?_)
      · walk_at "q"
        exact q_bt' (by rw [isDeedD, h, if_neg Bool.false_ne_true, h2] <;> rfl) (q _ (by walk_at "ex"))
      · have h2' : isRow 3 d = true := by simpa using h2
        obtain ⟨x0, x1, x2, hs⟩ := row3 h2'
        have h0 := shp_mem hs hd x0 (by simp)
        have h1 := shp_mem hs hd x1 (by simp)
        have h3 := shp_mem hs hd x2 (by simp)
        have ev : isDeedD N d = if (!isNum x2) = true then false else if PyData.eqv x0 (.str "take") then PyData.eqv (wordD N x1) (.str "take") else PyData.eqv x0 (.str "lose") && (isBelow N.c.length x1 && [PyData.str "order lossy", .str "loose lossy"].any fun k => PyData.eqv k (atD (chanAt N (natD x1)) 3)) := by
          rw [isDeedD, h, if_neg Bool.false_ne_true, h2', show atD d 0 = x0 from Seq.at hs 0, show atD d 1 = x1 from Seq.at hs 1, show atD d 2 = x2 from Seq.at hs 2] <;> rfl
        walk_at "q"
        refine q_ixRS hv hs (by walk_at "ex") rfl (fun u hu => ?_)
        walk_at "q"
        refine ⟨G, u, x2, rfl, by walk_at "ex", hu, h3, fun H3 e3 => ?_⟩
        walk_at "q"
        refine q_ifb (fun h4 => ?_) (fun h4 => ?_)
        · walk_at "q"
          exact q_bt' (by rw [ev, if_pos h4]) (q _ (by walk_at "ex"))
        · rw [if_neg (by rw [h4]; decide)] at ev
          walk_at "q"
          refine q_ixRS hv hs (by walk_at "ex") rfl (fun u1 hu1 => ?_)
          walk_at "q"
          refine q_eqR hu1 (.str _) (by walk_at "ex") h0 (shp_word (by decide +kernel)) ?_
          walk_at "q"
          refine q_ifb (fun h5 => ?_) (fun h5 => ?_)
          · walk_at "q"
            refine q_ixRS hv hs (by walk_at "ex") rfl (fun u2 hu2 => ?_)
            walk_at "q"
            refine ⟨G, a, N, u2, x1, rfl, by walk_at "ex", hN, ok, hu2, h1, fun H4 u3 e4 hu3 => ?_⟩
            walk_at "q"
            refine q_eqR hu3 (.str _) (by walk_at "ex") (wordD_shp ok x1) (shp_word (by decide +kernel)) ?_
            exact q_bt' (by rw [ev, h5, if_pos rfl]) (q _ (by walk_at "ex"))
          · rw [h5, if_neg Bool.false_ne_true] at ev
            walk_at "q"
            refine q_ixRS hv hs (by walk_at "ex") rfl (fun u2 hu2 => ?_)
            walk_at "q"
            refine q_eqR hu2 (.str _) (by walk_at "ex") h0 (shp_word (by decide +kernel)) ?_
            walk_at "q"
            refine q_ifb (fun h6 => ?_) (fun h6 => ?_)
            · walk_at "q"
              refine q_ixRS hv hs (by walk_at "ex") rfl (fun u3 hu3 => ?_)
              walk_at "q"
              refine ⟨G, u3, _, x1, rfl, by walk_at "ex", hu3, h1, fun H4 e4 => ?_⟩
              walk_at "q"
              refine q_ifb (fun h7 => ?_) (fun h7 => ?_)
              · obtain ⟨i, rfl, i0, i1⟩ := below_int h7
                cases hu3
                obtain ⟨k, rfl⟩ := Int.eq_ofNat_of_zero_le i0
                have hk : k < N.c.length := by omega
                obtain ⟨z, gv, tk, kd, ec⟩ := ok.c _ (List.getElem_mem hk)
                have ek : atD (chanAt N (natD (.int (k : Int)))) 3 = .str kd := by
                  show atD (N.c.getD k .none) 3 = _
                  rw [List.getD_eq_getElem?_getD, List.getElem?_eq_getElem hk]
                  show atD N.c[k] 3 = _
                  rw [ec] <;> rfl
                have sk : Shp (.str kd) := by
                  have s1 := shp_mem (.inr rfl) ok.sc _ (List.getElem_mem hk)
                  rw [ec] at s1
                  exact shp_mem (.inr rfl) s1 (.str kd) (by simp)
                walk_at "q"
                rename_i vc hvc
                refine q_ixRS hv hs (by walk_at "ex") rfl (fun u4 hu4 => ?_)
                cases hu4
                refine q_ixRT hvc (by walk_at "ex") (atI_at hk) (fun u5 hu5 => ?_)
                rw [ec] at hu5
                walk_at "q"
                refine q_ixRT hu5 (by walk_at "ex") rfl (fun u6 hu6 => ?_)
                walk_at "q"
                refine q_inT hu6 (cs.lossy G) (by walk_at "ex") sk shp_lossy ?_
                exact q_bt' (by rw [ev, h6, h7, ek] <;> rfl) (q _ (by walk_at "ex"))
              · walk_at "q"
                exact q_bt' (by rw [ev, h6, h7] <;> rfl) (q _ (by walk_at "ex"))
            · walk_at "q"
              exact q_bt' (by rw [ev, h6] <;> rfl) (q _ (by walk_at "ex"))
end
end Cw

set_option maxHeartbeats 4000000
namespace Cw
open PySem PySem.Spec PyProof.Rows L2
section
variable {P : Program} {w : World} {K : PySem.W.Frag} {mg : Str → Option Value} {base : Heap}
abbrev s__law_names : Stmt := topS 46
abbrev N__law_names : List Str := ["box", "pool", "many", "left", "names", "k"]
theorem sc__law_names : FnScope N__law_names ["box", "pool", "many"] (defScope s__law_names) := ⟨rfl, rfl, rfl, by decide +kernel, rfl, by decide +kernel, by decide +kernel⟩
/-- names drawn out of a pool -/
def sp_names (K : PySem.W.Frag) : Sp := fun vs H Q _ => ∃ (G : Hp) (b p : Addr) (xs : List V) (ys : List Str) (m : Nat), vs = [.ref b, .ref p, .int (m : Nat)] ∧ Ex G H ∧ G b = none ∧ H b = some (.lst xs) ∧ BoxL K G xs ∧ p ≠ b ∧ H p = some (.lst (ys.map V.str)) ∧ ys.Nodup ∧ m ≤ ys.length ∧ ys.length ≤ 1000 ∧
  ∀ (l : Addr) (zs : List Str) (us : List V) (H' : Hp), zs.length = m → zs.Nodup → (∀ z ∈ zs, z ∈ ys) → BoxL K G us → Mut b H H' → H' b = some (.lst us) → H l = none → H' l = some (.lst (zs.map V.str)) → Q (.ref l) H'
theorem c_names {f : Addr} {fd : FuncData} (F : FnP K "_law_names" s__law_names f fd) (hm : mg "_law_names" = some (.ref f)) (B : Blt mg) (C__law_draw : Cal P w K mg base 2 "_law_draw" ["box", "many"] (sp_draw K)) : Cal P w K mg base 3 "_law_names" ["box", "pool", "many"] (sp_names K) := by
  refine cal_of F hm sc__law_names (fun _ _ _ _ _ _ _ us hl => match us, hl with | [_, _, _], _ => rfl) (fun vs H Q E h => ?_) (fun cdv A outer s H vs Q E hr h => ?_)
  · obtain ⟨_, _, _, _, _, _, rfl, _⟩ := h
    rfl
  · obtain ⟨G, b, p, xs, ys, m, rfl, eG, gb, hb, hB, npb, hp, nys, hmy, hys, q⟩ := h
    have nd := sc__law_names.nd
    refine ⟨_, [some _, some _, some _, none, none, none], ((pss_cons (ps_set (i := 3) nd rfl (Or.inl rfl) (pe_callTy (call_listK (K := K) rfl) (by rfl) B.list_ bo_list (pa_cons (pv 1) pa_nil)))
      (pss_cons (ps_set (i := 4) nd rfl (Or.inl rfl) (pe_lst pa_nil))
      (pss_cons (ps_for PassesOwn.never rfl (pi_range1 (by rfl) B.range_ (pa_cons (pv 2) pa_nil)) (pg_name (i := 5) nd rfl (by first | exact Or.inl rfl | exact Or.inr rfl)) (pss_one (ps_expr (pe_bmK (K := K) rfl PySem.F.plainAttrs_list PySem.F.slot_list_append PySem.F.type_list_append mt_append (pv 4) (pa_cons (pe_bmK (K := K) rfl PySem.F.plainAttrs_list PySem.F.slot_list_pop PySem.F.type_list_pop mt_popA (pv 3) (pa_cons (pe_callC C__law_draw (hr.mono (by omega)) (by rfl) (pa_cons (pv 0) (pa_cons (pe_callB (call_lenK (K := K) rfl) (by rfl) B.len_ bo_len (pa_cons (pv 3) pa_nil)) pa_nil))) pa_nil)) pa_nil)))))
      (pss_one (ps_ret (pv 4))))))), rfl, ?_⟩
    walk_at "q"
    refine ⟨p, _, rfl, .inl (.inl (.inl hp)), fun l hl => ?_⟩
    walk_at "q"
    rename_i n hn
    have nln := ne_of_none (H := L2.upd H l (.lst (ys.map V.str))) upd_same hn
    have nbl := ne_of_none hb hl
    have hHn : H n = none := by
      rw [upd_ne (Ne.symm nln)] at hn
      exact hn
    have nbn := ne_of_none hb hHn
    refine q_rng1 m (by omega) (fun i σ' H' => ∃ z us ls zs, σ' = [some (.ref b), some (.ref p), some (.int m), some (.ref l), some (.ref n), z] ∧ H' l = some (.lst (ls.map V.str)) ∧ H' n = some (.lst (zs.map V.str)) ∧ H' b = some (.lst us) ∧ BoxL K G us ∧
      zs.length = i ∧ List.Perm ys (ls ++ zs) ∧ Mut b H H') ?_ ?_ ?_
    · exact ⟨none, xs, ys, [], rfl, upd_old upd_same hn, upd_same, upd_old (upd_old hb hl) hn, hB, rfl, by simp, ((Mut.refl b H).new hl).new hn⟩
    · rintro i _ H' hi ⟨z, us, ls, zs, rfl, h1, h2, h3, h4, h5, h6, h7⟩
      have hlen := h6.length_eq
      rw [List.length_append] at hlen
      walk_at "q"
      refine q_lenC (.inl (.inl h1)) ?_
      walk_at "q"
      refine ⟨G, b, _, us, rfl, eG.mu gb h7, gb, h3, h4, by rw [List.length_map]; omega, fun r us2 r0 r1 hB2 => ?_⟩
      rw [List.length_map] at r1
      obtain ⟨k, rfl⟩ := Int.eq_ofNat_of_zero_le r0
      have hk : k < ls.length := by omega
      have hk2 : (ls.map V.str)[k]? = some (V.str ls[k]) := by
        rw [List.getElem?_map, List.getElem?_eq_getElem hk] <;> rfl
      walk_at "q"
      have hl2 : L2.upd H' b (.lst us2) l = some (.lst (ls.map V.str)) := upd_mu h1 (Ne.symm nbl)
      refine q_popAt hl2 (by rw [List.length_map]; omega) hk2 ?_
      rw [erase_map]
      have hn2 : L2.upd (L2.upd H' b (.lst us2)) l (.lst ((ls.eraseIdx k).map V.str)) n = some (.lst (zs.map V.str)) := upd_mu (upd_mu h2 (Ne.symm nbn)) (Ne.symm nln)
      walk_at "q"
      refine q_append hn2 (line_lt (by rw [List.length_map]; omega)) ?_
      walk_at "q"
      have pe := erase_perm (List.getElem?_eq_getElem hk)
      refine ⟨_, us2, ls.eraseIdx k, zs ++ [ls[k]], rfl, upd_mu upd_same nln, by rw [List.map_append]; exact upd_same, upd_mu (upd_mu upd_same nbl) nbn, hB2, by rw [List.length_append, h5] <;> rfl, ?_, ?_⟩
      · refine h6.trans ((pe.append_right zs).trans ?_)
        rw [← List.append_assoc]
        exact (List.perm_append_singleton ls[k] (ls.eraseIdx k ++ zs)).symm
      · exact (h7.upd.acc hl).acc hHn
    · rintro _ H' ⟨z, us, ls, zs, rfl, h1, h2, h3, h4, h5, h6, h7⟩
      walk_at "q"
      have nz : (ls ++ zs).Nodup := h6.nodup_iff.mp nys
      exact q n zs us H' h5 (List.nodup_append.mp nz).2.1 (fun z hz => h6.symm.subset (List.mem_append_right _ hz)) h4 h7 h3 hHn h2
abbrev s__law_channels : Stmt := topS 47
abbrev N__law_channels : List Str := ["box", "many", "channels", "count", "name", "giver", "taker", "kind"]
theorem sc__law_channels : FnScope N__law_channels ["box", "many"] (defScope s__law_channels) := ⟨rfl, rfl, rfl, by decide +kernel, rfl, by decide +kernel, by decide +kernel⟩
theorem BoxL.mono {G G' : Hp} {xs : List V} (h : BoxL K G xs) (e : Ex G G') : BoxL K G' xs := by
  obtain ⟨x0, x1, x2, x3, x4, c, ns, e1, hS, h2⟩ := h
  exact ⟨x0, x1, x2, x3, x4, c, ns, e1, Ex.sl e hS, h2⟩
def sp_channels (K : PySem.W.Frag) : Sp := fun vs H Q _ => ∃ (G : Hp) (b : Addr) (xs : List V) (m : Nat), vs = [.ref b, .int (m : Nat)] ∧ Ex G H ∧ G b = none ∧ H b = some (.lst xs) ∧ BoxL K G xs ∧ 1 ≤ m ∧ m ≤ 5 ∧
  ∀ (l : Addr) (cs : List PyData) (us : List V) (G' H' : Hp), Gro (some b) G H G' H' → G' b = none → H' b = some (.lst us) → BoxL K G' us → Rp K G' (.ref l) (.list cs) → cs.length ≤ 8 → (∀ c ∈ cs, ChOk poolC m c) → (cs.map fun c => strOf (atD c 0)).Nodup → Q (.ref l) H'
theorem c_channels {f : Addr} {fd : FuncData} (F : FnP K "_law_channels" s__law_channels f fd) (hm : mg "_law_channels" = some (.ref f)) (B : Blt mg) (C__law_draw : Cal P w K mg base 2 "_law_draw" ["box", "many"] (sp_draw K)) (C__law_names : Cal P w K mg base 3 "_law_names" ["box", "pool", "many"] (sp_names K)) :
    Cal P w K mg base 4 "_law_channels" ["box", "many"] (sp_channels K) := by
  refine cal_of F hm sc__law_channels (fun _ _ _ _ _ _ _ us hl => match us, hl with | [_, _], _ => rfl) (fun vs H Q E h => ?_) (fun cdv A outer s H vs Q E hr h => ?_)
  · obtain ⟨_, _, _, _, rfl, _⟩ := h
    rfl
  · obtain ⟨G, b, xs, m, rfl, eG, gb, hb, hB, m1, m5, q⟩ := h
    have nd := sc__law_channels.nd
    refine ⟨_, [some _, some _, none, none, none, none, none, none], ((pss_cons (ps_set (i := 2) nd rfl (Or.inl rfl) (pe_lst pa_nil))
      (pss_cut (ps_if (pt_cmpR op_gt (pv 1) pe_int (nomark _)) (pss_cons (ps_set (i := 3) nd rfl (Or.inl rfl) (pe_callC C__law_draw (hr.mono (by omega)) (by rfl) (pa_cons (pv 0) (pa_cons (pe_ix (ix_seqK (K := K) rfl) (pe_lst (pa_cons pe_int (pa_cons pe_int pa_nil))) (pe_callTy call_intA (by rfl) B.int_ bo_int (pa_cons (pe_cmpR (op_eqK (K := K) rfl (hu64 hr)) (pe_callC C__law_draw (hr.mono (by omega)) (by rfl) (pa_cons (pv 0) (pa_cons pe_int pa_nil))) pe_int (nomark _)) pa_nil)) (fun _ _ => rfl)) pa_nil))))
      (pss_one (ps_for PassesOwn.never rfl (pi_seqK (K := K) rfl (pe_callC C__law_names (hr.mono (by omega)) (by rfl) (pa_cons (pv 0) (pa_cons (pe_lst (pa_cons pe_str (pa_cons pe_str (pa_cons pe_str (pa_cons pe_str (pa_cons pe_str (pa_cons pe_str (pa_cons pe_str (pa_cons pe_str (pa_cons pe_str pa_nil)))))))))) (pa_cons (pv 3) pa_nil))))) (pg_name (i := 4) nd rfl (by first | exact Or.inl rfl | exact Or.inr rfl)) (pss_cons (ps_set (i := 5) nd rfl (Or.inl rfl) (pe_callC C__law_draw (hr.mono (by omega)) (by rfl) (pa_cons (pv 0) (pa_cons (pv 1) pa_nil))))
      (pss_cons (ps_set (i := 6) nd rfl (Or.inl rfl) (pe_op op_mod (pe_callTy call_intA (by rfl) B.int_ bo_int (pa_cons (pe_op (op_addK (K := K) rfl) (pe_op (op_addK (K := K) rfl) (pv 5) pe_int) (pe_callC C__law_draw (hr.mono (by omega)) (by rfl) (pa_cons (pv 0) (pa_cons (pe_op op_sub (pv 1) pe_int) pa_nil)))) pa_nil)) (pv 1)))
      (pss_cons (ps_set (i := 7) nd rfl (Or.inl rfl) (pe_ix (ix_seqK (K := K) rfl) (pe_lst (pa_cons pe_str (pa_cons pe_str (pa_cons pe_str (pa_cons pe_str pa_nil))))) (pe_callC C__law_draw (hr.mono (by omega)) (by rfl) (pa_cons (pv 0) (pa_cons pe_int pa_nil))) (fun _ _ => rfl)))
      (pss_one (ps_expr (pe_bmK (K := K) rfl PySem.F.plainAttrs_list PySem.F.slot_list_append PySem.F.type_list_append mt_append (pv 2) (pa_cons (pe_tup (pa_cons (pv 4) (pa_cons (pv 5) (pa_cons (pv 6) (pa_cons (pv 7) pa_nil))))) pa_nil)))))))))) pss_nil)
      (pss_one (ps_ret (pv 2)))))), rfl, ?_⟩
    walk_at "q"
    rename_i l hl
    refine q_cut (M := fun σ' H' => ∃ z3 z4 z5 z6 z7 vs cs us G', σ' = [some (.ref b), some (.int (m : Nat)), some (.ref l), z3, z4, z5, z6, z7] ∧ Gro (some b) G H G' H' ∧ G' b = none ∧ G' l = none ∧ H' b = some (.lst us) ∧ BoxL K G' us ∧
      H' l = some (.lst vs) ∧ Rps K G' vs cs ∧ cs.length ≤ 8 ∧ (∀ c ∈ cs, ChOk poolC m c) ∧ (cs.map fun c => strOf (atD c 0)).Nodup) ?_ ?_
    · walk_at "q"
      have e1 : Ex G (L2.upd H l (.lst [])) := eG.trans (Ex.new hl)
      have b1 : L2.upd H l (.lst []) b = some (.lst xs) := upd_old hb hl
      have gl : G l = none := eG.back hl
      have nbl := ne_of_none hb hl
      refine q_ifd (fun h1 => ?_) (fun h1 => ?_)
      · walk_at "q"
        rename_i p hp
        refine ⟨G, b, 5, xs, rfl, e1.trans (Ex.new hp), gb, upd_old b1 hp, hB, by decide, fun r us r0 r1 hB1 => ?_⟩
        have npb := ne_of_none b1 hp
        walk_at "q"
        refine q_ixIf (upd_mu upd_same (Ne.symm npb)) (fun v hv => ?_)
        obtain ⟨mm, rfl, hmm⟩ : ∃ mm : Int, v = .int mm ∧ 5 ≤ mm ∧ mm ≤ 9 := by
          rcases hv with rfl | rfl
          · exact ⟨5, rfl, by decide, by decide⟩
          · exact ⟨9, rfl, by decide, by decide⟩
        have e2 : Ex G (L2.upd (L2.upd (L2.upd H l (.lst [])) p (.lst [.int 5, .int 9])) b (.lst us)) := Ex.mut (e1.trans (Ex.new hp)) gb
        have g2 : Gro (some b) G H G (L2.upd (L2.upd (L2.upd H l (.lst [])) p (.lst [.int 5, .int 9])) b (.lst us)) := (Gro.start eG ((Ex.new hl).trans (Ex.new hp))).put gb
        have l2 : L2.upd (L2.upd (L2.upd H l (.lst [])) p (.lst [.int 5, .int 9])) b (.lst us) l = some (.lst []) := upd_mu (upd_old upd_same hp) (Ne.symm nbl)
        have b2 : L2.upd (L2.upd (L2.upd H l (.lst [])) p (.lst [.int 5, .int 9])) b (.lst us) b = some (.lst us) := upd_same
        generalize L2.upd (L2.upd (L2.upd H l (.lst [])) p (.lst [.int 5, .int 9])) b (.lst us) = H2 at e2 g2 l2 b2 ⊢
        walk_at "q"
        refine ⟨G, b, mm, us, rfl, e2, gb, b2, hB1, by omega, fun r2 us2 r20 r21 hB2 => ?_⟩
        obtain ⟨n, rfl⟩ := Int.eq_ofNat_of_zero_le r20
        have g3 : Gro (some b) G H G (L2.upd H2 b (.lst us2)) := g2.put gb
        have l3 : L2.upd H2 b (.lst us2) l = some (.lst []) := upd_mu l2 (Ne.symm nbl)
        have b3 : L2.upd H2 b (.lst us2) b = some (.lst us2) := upd_same
        generalize L2.upd H2 b (.lst us2) = H3 at g3 l3 b3 ⊢
        walk_at "q"
        refine q_forL ?_
        walk_at "q"
        rename_i p4 hp4
        have npb4 := ne_of_none b3 hp4
        refine ⟨G, b, p4, us2, poolC, n, rfl, g3.w.trans (Ex.new hp4), gb, upd_old b3 hp4, hB2, Ne.symm npb4, upd_same, by decide +kernel, by (show n ≤ 9); omega, by decide, fun l2 zs us3 H4 hz nz hzp hB3 m4 b4 hl2n hl2 => ?_⟩
        have l4 : H4 l = some (.lst []) := m4 _ _ (Ne.symm nbl) (upd_old l3 hp4)
        have g4 : Gro (some b) G H G H4 := Gro.mutb (Gro.up g3.w (Ex.new hp4) |> fun x => g3.then_ x (by rw [b3]; exact fun z => nomatch z)) m4 gb
        have nll : l ≠ l2 := ne_of_none (upd_old l3 hp4) hl2n
        have nbl2 : b ≠ l2 := ne_of_none (upd_old b3 hp4) hl2n
        have hHl2 : H l2 = none := (g3.then_ (Gro.up g3.w (Ex.new hp4)) (by rw [b3]; exact fun z => nomatch z)).fresh hl2n (Ne.symm nbl2)
        refine q_lst_for (xs := zs.map V.str) (.inl (.inl hl2)) (fun i σ' H' => ∃ z4 z5 z6 z7 vs cs us G', σ' = [some (.ref b), some (.int (m : Nat)), some (.ref l), some (.int n), z4, z5, z6, z7] ∧ Gro (some b) G H G' H' ∧ G' b = none ∧ G' l = none ∧ H' b = some (.lst us) ∧ BoxL K G' us ∧
          H' l = some (.lst vs) ∧ Rps K G' vs cs ∧ (∀ c ∈ cs, ChOk poolC m c) ∧ (cs.map fun c => strOf (atD c 0)) = zs.take i ∧ H' l2 = some (.lst (zs.map V.str)) ∧ i ≤ zs.length) ?_ ?_ ?_ ?_
        · exact ⟨none, none, none, none, [], [], us3, G, rfl, g4, gb, gl, b4, hB3, l4, .nil, by simp, rfl, hl2, Nat.zero_le _⟩
        · rintro i σ' H' _ ⟨_, _, _, _, _, _, _, _, _, _, _, _, _, _, _, _, _, _, h, _⟩
          exact .inl (.inl h)
        · rintro i x σ' H' hx ⟨z4, z5, z6, z7, vs, cs, us, G', rfl, gr, gb', gl', hb', hB', hl', hr', hk', hn', hl2', hi'⟩
          have hi : i < zs.length := by
            have := (List.getElem?_eq_some_iff.mp hx).1
            rw [List.length_map] at this
            exact this
          obtain rfl : x = V.str zs[i] := by
            rw [List.getElem?_map, List.getElem?_eq_getElem hi] at hx
            exact (Option.some.inj hx).symm
          have lcs : cs.length = i := by
            have := congrArg List.length hn'
            rw [List.length_map, List.length_take] at this
            omega
          walk_at "q"
          refine ⟨G', b, m, us, rfl, gr.w, gb', hb', hB', by omega, fun g us5 g0 g1 hB5 => ?_⟩
          walk_at "q"
          refine ⟨G', b, (m : Int) - 1, us5, rfl, Ex.mut gr.w gb', gb', upd_same, hB5, by omega, fun r us6 r0 r1 hB6 => ?_⟩
          rw [upd_upd]
          obtain ⟨gn, rfl⟩ := Int.eq_ofNat_of_zero_le g0
          walk_at "q"
          rename_i p5 hp5
          have ht : ∃ t : Nat, ((gn : Int) + 1 + r) % m = t ∧ t < m ∧ gn ≠ t := by
            have k1 := Int.emod_lt_of_pos ((gn : Int) + 1 + r) (show (0 : Int) < m by omega)
            have k2 := Int.emod_nonneg ((gn : Int) + 1 + r) (show (m : Int) ≠ 0 by omega)
            rcases mod_step (a := (gn : Int) + 1 + r) (m := m) (by omega) (by omega) with h | h
            · exact ⟨((gn : Int) + 1 + r).toNat, by omega, by omega, by omega⟩
            · exact ⟨((gn : Int) + 1 + r - m).toNat, by omega, by omega, by omega⟩
          obtain ⟨t, et, ht1, ht2⟩ := ht
          rw [et]
          have npb5 := ne_of_none (H := L2.upd H' b (.lst us6)) upd_same hp5
          refine ⟨G', b, 4, us6, rfl, (Ex.mut gr.w gb').trans (Ex.new hp5), gb', upd_old upd_same hp5, hB6, by decide, fun r7 us7 r70 r71 hB7 => ?_⟩
          refine q_ixLn (xs := [.str "order", .str "loose", .str "order lossy", .str "loose lossy"]) (.inl (.inl (upd_mu upd_same (Ne.symm npb5)))) r70 r71 (fun v hv => ?_)
          obtain ⟨kd, rfl, hkd⟩ : ∃ kd : Str, v = .str kd ∧ kd ∈ (["order", "loose", "order lossy", "loose lossy"] : List Str) := by
            simp only [List.mem_cons, List.mem_nil_iff, or_false] at hv
            rcases hv with rfl | rfl | rfl | rfl
            · exact ⟨_, rfl, by simp⟩
            · exact ⟨_, rfl, by simp⟩
            · exact ⟨_, rfl, by simp⟩
            · exact ⟨_, rfl, by simp⟩
          have g7 : Gro (some b) G H G' (L2.upd (L2.upd (L2.upd H' b (.lst us6)) p5 (.lst [.str "order", .str "loose", .str "order lossy", .str "loose lossy"])) b (.lst us7)) :=
            ((gr.put gb').then_ (Gro.up (gr.put gb').w (Ex.new hp5)) (by rw [upd_same]; exact fun z => nomatch z)).put gb'
          have l7 : L2.upd (L2.upd (L2.upd H' b (.lst us6)) p5 (.lst [.str "order", .str "loose", .str "order lossy", .str "loose lossy"])) b (.lst us7) l = some (.lst vs) := upd_mu (upd_old (upd_mu hl' (Ne.symm nbl)) hp5) (Ne.symm nbl)
          have l27 : L2.upd (L2.upd (L2.upd H' b (.lst us6)) p5 (.lst [.str "order", .str "loose", .str "order lossy", .str "loose lossy"])) b (.lst us7) l2 = some (.lst (zs.map V.str)) := upd_mu (upd_old (upd_mu hl2' (Ne.symm nbl2)) hp5) (Ne.symm nbl2)
          have b7 : L2.upd (L2.upd (L2.upd H' b (.lst us6)) p5 (.lst [.str "order", .str "loose", .str "order lossy", .str "loose lossy"])) b (.lst us7) b = some (.lst us7) := upd_same
          generalize L2.upd (L2.upd (L2.upd H' b (.lst us6)) p5 (.lst [.str "order", .str "loose", .str "order lossy", .str "loose lossy"])) b (.lst us7) = H7 at g7 l7 l27 b7 ⊢
          walk_at "q"
          rename_i p6 hp6
          have hHp6 : H p6 = none := g7.fresh hp6 (fun z => by rw [z, b7] at hp6; cases hp6)
          have nl6 : l ≠ p6 := ne_of_none l7 hp6
          refine q_append (upd_old l7 hp6) (line_lt (by rw [hr'.len]; omega)) ?_
          walk_at "q"
          have g8 := (g7.newb (o := .tup [.str zs[i], .int gn, .int t, .str kd]) hp6 hHp6).cell (l := l) (o := .lst (vs ++ [.ref p6])) (by rw [upd_ne nl6]; exact gl') hl
          have np6b : b ≠ p6 := ne_of_none b7 hp6
          refine ⟨_, _, _, _, vs ++ [.ref p6], cs ++ [.tuple [.str zs[i], .int gn, .int t, .str kd]], us7, _, rfl, g8, by rw [upd_ne np6b]; exact gb', by rw [upd_ne nl6]; exact gl', upd_mu (upd_old b7 hp6) nbl, hB7.mono (Ex.new (g7.w.back hp6)), upd_same, ?_, ?_, ?_, upd_mu (upd_old l27 hp6) (Ne.symm nll), by omega⟩
          · exact (hr'.mono (Ex.new (g7.w.back hp6))).app (Rps.one (.tup (.inl (.inl upd_same)) (.cons (.str _) (.cons (.int _) (.cons (.int _) (.cons (.str _) .nil))))))
          · intro c hc
            rcases List.mem_append.mp hc with h | h
            · exact hk' c h
            · rw [List.mem_singleton.mp h]
              exact ⟨zs[i], gn, t, kd, rfl, hzp _ (List.getElem_mem hi), by omega, ht1, ht2, hkd⟩
          · rw [List.map_append, hn', List.take_add_one, List.getElem?_eq_getElem hi]
            rfl
        · rintro σ' H' ⟨z4, z5, z6, z7, vs, cs, us, G', rfl, gr, gb', gl', hb', hB', hl', hr', hk', hn', hl2', hi'⟩
          rw [List.length_map, List.take_length] at hn'
          have lcs : cs.length = zs.length := by
            have := congrArg List.length hn'
            rw [List.length_map] at this
            exact this
          exact ⟨_, _, _, _, _, vs, cs, us, G', rfl, gr, gb', gl', hb', hB', hl', hr', by omega, hk', by rw [hn']; exact nz⟩
      · walk_at "q"
        exact ⟨none, none, none, none, none, [], [], xs, G, rfl, Gro.start eG (Ex.new hl), gb, gl, b1, hB, upd_same, .nil, by simp, by simp, by simp⟩
    · rintro _ H' ⟨z3, z4, z5, z6, z7, vs, cs, us, G', rfl, gr, gb', gl', hb', hB', hl', hr', hc, hk, hn⟩
      walk_at "q"
      have gr2 : Gro (some b) G H (L2.upd G' l (.lst vs)) H' := ⟨gr.g.trans (Ex.new gl'), Ex.add gr.w hl', gr.k, fun a ha ga => by
        have na : a ≠ l := fun z => ha (by rw [z]; exact hl)
        rw [upd_ne na]
        exact gr.n a ha ga⟩
      refine q l cs us _ H' gr2 (by rw [upd_ne (ne_of_none hb hl).symm.symm]; exact gb') hb' (hB'.mono (Ex.new gl')) (.lst upd_same (hr'.mono (Ex.new gl'))) hc hk hn
abbrev s__law_rule : Stmt := topS 48
abbrev N__law_rule : List Str := ["box", "processes", "channels", "tokens", "process", "states", "act", "mine", "c"]
theorem sc__law_rule : FnScope N__law_rule ["box", "processes", "channels", "tokens"] (defScope s__law_rule) := ⟨rfl, rfl, rfl, by decide +kernel, rfl, by decide +kernel, by decide +kernel⟩
def sp_lrule (K : PySem.W.Frag) : Sp := fun vs H Q _ => ∃ (G : Hp) (b : Addr) (xs : List V) (v1 v2 : V) (ps cs : List PyData) (T : Int) (pp pc : List Str), vs = [.ref b, v1, v2, .int T] ∧ Ex G H ∧ G b = none ∧ H b = some (.lst xs) ∧ BoxL K G xs ∧ Rp K G v1 (.list ps) ∧ Rp K G v2 (.list cs) ∧
  0 < ps.length ∧ ps.length ≤ 5 ∧ (∀ p ∈ ps, PrOk pp p) ∧ cs.length ≤ 8 ∧ (∀ c ∈ cs, ChOk pc ps.length c) ∧ 0 < T ∧ T ≤ 10 ∧
  ∀ (u : V) (d : PyData) (us : List V) (G' H' : Hp), Gro (some b) G H G' H' → G' b = none → H' b = some (.lst us) → BoxL K G' us → Rp K G' u d → RuOk ps cs d → Q u H'
theorem c_lrule {f : Addr} {fd : FuncData} (F : FnP K "_law_rule" s__law_rule f fd) (hm : mg "_law_rule" = some (.ref f)) (B : Blt mg) (C__law_draw : Cal P w K mg base 2 "_law_draw" ["box", "many"] (sp_draw K)) :
    Cal P w K mg base 3 "_law_rule" ["box", "processes", "channels", "tokens"] (sp_lrule K) := by
  refine cal_of F hm sc__law_rule (fun _ _ _ _ _ _ _ us hl => match us, hl with | [_, _, _, _], _ => rfl) (fun vs H Q E h => ?_) (fun cdv A outer s H vs Q E hr h => ?_)
  · obtain ⟨_, _, _, _, _, _, _, _, _, _, rfl, _⟩ := h
    rfl
  · obtain ⟨G, b, xs, v1, v2, ps, cs, T, pp, pc, rfl, eG, gb, hb, hB, r1, r2, p1, p5, hps, c8, hcs, t0, t10, q⟩ := h
    have nd := sc__law_rule.nd
    refine ⟨_, [some _, some _, some _, some _, none, none, none, none, none], ((pss_cons (ps_set (i := 4) nd rfl (Or.inr rfl) (pe_callC C__law_draw (hr.mono (by omega)) (by rfl) (pa_cons (pv 0) (pa_cons (pe_callB (call_lenK (K := K) rfl) (by rfl) B.len_ bo_len (pa_cons (pv 1) pa_nil)) pa_nil))))
      (pss_cons (ps_set (i := 5) nd rfl (Or.inl rfl) (pe_ix (ix_seqK (K := K) rfl) (pe_ix (ix_seqK (K := K) rfl) (pv 1) (pv 4) (fun _ _ => rfl)) pe_int (fun _ _ => rfl)))
      (pss_cons (ps_set (i := 6) nd rfl (Or.inl rfl) (pe_tup (pa_cons pe_str pa_nil)))
      (pss_cons (ps_setLc (i := 7) (own := [("c", 8)]) rfl nd rfl rfl (sw_true rfl rfl rfl (by decide +kernel)) (pi_range1 (by rfl) B.range_ (pa_cons (pe_callB (call_lenK (K := K) rfl) (by rfl) B.len_ bo_len (pa_cons (pv 2) pa_nil)) pa_nil)) (blkOk_by (N := N__law_rule) (sc := defScope s__law_rule) (by decide +kernel)) (fun _ _ _ _ _ => (pg_name (i := 8) nd rfl (by first | exact Or.inl rfl | exact Or.inr rfl))) (fun _ _ _ _ _ => (pts_one (pt_cmpR (op_inB (K := K) rfl (hu65 hr)) (pv 4) (pe_slice (sl_anyK (K := K) rfl) (pe_ix (ix_seqK (K := K) rfl) (pv 2) (pv 8) (fun _ _ => rfl)) (po_some pe_int) (po_some pe_int)) (by with_unfolding_all rfl)))) (fun _ _ _ _ _ => (pv 8)))
      (pss_cut (ps_if (PW.pt (pw_and (pt_cmpR op_gt (pe_callB (call_lenK (K := K) rfl) (by rfl) B.len_ bo_len (pa_cons (pv 7) pa_nil)) pe_int (nomark _)) (pw_and1 (pt_cmpR op_gt (pe_callC C__law_draw (hr.mono (by omega)) (by rfl) (pa_cons (pv 0) (pa_cons pe_int pa_nil))) pe_int (nomark _))))) (pss_cons (ps_set (i := 8) nd rfl (Or.inl rfl) (pe_ix (ix_seqK (K := K) rfl) (pv 7) (pe_callC C__law_draw (hr.mono (by omega)) (by rfl) (pa_cons (pv 0) (pa_cons (pe_callB (call_lenK (K := K) rfl) (by rfl) B.len_ bo_len (pa_cons (pv 7) pa_nil)) pa_nil))) (fun _ _ => rfl)))
      (pss_one (ps_set (i := 6) nd rfl (Or.inl rfl) (pe_tup (pa_cons (pe_ix (ix_seqK (K := K) rfl) (pe_lst (pa_cons pe_str (pa_cons pe_str pa_nil))) (pe_callTy call_intA (by rfl) B.int_ bo_int (pa_cons (pe_cmpR (op_eqK (K := K) rfl (hu64 hr)) (pe_ix (ix_seqK (K := K) rfl) (pe_ix (ix_seqK (K := K) rfl) (pv 2) (pv 8) (fun _ _ => rfl)) pe_int (fun _ _ => rfl)) (pv 4) (nomark _)) pa_nil)) (fun _ _ => rfl)) (pa_cons (pv 8) (pa_cons (pe_callC C__law_draw (hr.mono (by omega)) (by rfl) (pa_cons (pv 0) (pa_cons (pv 3) pa_nil))) pa_nil))))))) pss_nil)
      (pss_one (ps_ret (pe_tup (pa_cons (pv 4) (pa_cons (pe_callC C__law_draw (hr.mono (by omega)) (by rfl) (pa_cons (pv 0) (pa_cons (pv 5) pa_nil))) (pa_cons (pv 6) (pa_cons (pe_callC C__law_draw (hr.mono (by omega)) (by rfl) (pa_cons (pv 0) (pa_cons (pv 5) pa_nil))) pa_nil))))))))))))), rfl, ?_⟩
    walk_at "q"
    refine ⟨G, b, _, xs, rfl, eG, gb, hb, hB, by omega, fun r us r0 rl hB1 => ?_⟩
    obtain ⟨p, rfl⟩ := Int.eq_ofNat_of_zero_le r0
    have hp : p < ps.length := by omega
    obtain ⟨z, st, ep, hz, hs1, hs8⟩ := hps _ (List.getElem_mem hp)
    have e1 : Ex G (L2.upd H b (.lst us)) := Ex.mut eG gb
    walk_at "q"
    refine q_ixRL r1 e1 (atI_at hp) (fun u1 hu1 => ?_)
    rw [ep] at hu1
    walk_at "q"
    refine q_ixRT hu1 e1 rfl (fun u2 hu2 => ?_)
    cases hu2
    walk_at "q"
    rename_i pa hpa
    have nbpa := ne_of_none (H := L2.upd H b (.lst us)) upd_same hpa
    have nxa := Ex.new (o := .tup [.str "do"]) (e1.back hpa)
    have g2 : Gro (some b) G H (L2.upd G pa (.tup [.str "do"])) (L2.upd (L2.upd H b (.lst us)) pa (.tup [.str "do"])) := ((Gro.start eG (Ex.refl H)).put gb).newb hpa (((Gro.start eG (Ex.refl H)).put (o := .lst us) gb).fresh hpa (Ne.symm nbpa))
    have ra0 : Rp K (L2.upd G pa (.tup [.str "do"])) (.ref pa) (.tuple [.str "do"]) := .tup (.inl (.inl upd_same)) (.cons (.str _) .nil)
    have hBa := hB1.mono nxa
    have gba : L2.upd G pa (.tup [.str "do"]) b = none := by rw [upd_ne nbpa]; exact gb
    have b2 : L2.upd (L2.upd H b (.lst us)) pa (.tup [.str "do"]) b = some (.lst us) := upd_old upd_same hpa
    have r2a := r2.mono nxa
    generalize L2.upd (L2.upd H b (.lst us)) pa (.tup [.str "do"]) = H2 at g2 b2 ⊢
    generalize L2.upd G pa (.tup [.str "do"]) = G2 at g2 ra0 hBa gba r2a
    refine q_lcRF cs.length (by omega) g2.w (meB cs p) (fun _ => rfl) (fun _ => rfl) (fun i hi G' H' gr C hC => ?_) (fun D G3 H3 g3 gD hHD hD => ?_)
    · obtain ⟨y, g, tk, kd, ec, _, _, _, _, _⟩ := hcs _ (List.getElem_mem hi)
      have w1 := gr.w
      have k1 := gr.ex
      walk_at "q"
      refine q_ixRL (r2a.mono gr.g) w1 (atI_at hi) (fun u3 hu3 => ?_)
      rw [ec] at hu3
      walk_at "q"
      refine q_sl13 hu3 (.inr rfl) w1 (fun G4 H4 pz d2 gr4 rt hd2 => ?_)
      have w4 := gr4.w
      walk_at "q"
      have e1c : atD (cs.getD i .none) 1 = .int g := by
        rw [List.getD_eq_getElem?_getD, List.getElem?_eq_getElem hi]
        show atD cs[i] 1 = _
        rw [ec] <;> rfl
      have e2c : atD (cs.getD i .none) 2 = .int tk := by
        rw [List.getD_eq_getElem?_getD, List.getElem?_eq_getElem hi]
        show atD cs[i] 2 = _
        rw [ec] <;> rfl
      have sgt : Shp (.tuple [.int g, .int tk]) := by
        show okD 60 _ = true
        rw [okD]
        simp [okD]
      have sgl : Shp (.list [.int g, .int tk]) := by
        show okD 60 _ = true
        rw [okD]
        simp [okD]
      have fin : C ([PyData.int g, .int tk].any fun z => PyData.eqv z (.int p)) H4 := by
        have h := hC _ _ gr4
        unfold meB at h
        rw [e1c, e2c] at h
        exact h
      rcases hd2 with rfl | rfl
      · refine q_inL (.int (p : Nat)) rt w4 (shp_int _) sgl ?_
        walk_at "q"
        exact fin
      · refine q_inT (.int (p : Nat)) rt w4 (shp_int _) sgt ?_
        walk_at "q"
        exact fin
    · walk_at "q"
      have gr3 := g2.then_ g3 (by rw [b2]; exact fun z => nomatch z)
      have b3 := g3.ex _ _ b2
      have ra := ra0.mono g3.g
      have gb3 : G3 b = none := gr3.n b (by rw [hb]; exact fun z => nomatch z) gb
      have hB3 := hBa.mono g3.g
      have r2b := r2a.mono g3.g
      refine q_cut (M := fun σ' H' => ∃ z8 a pact us' G', σ' = [some (.ref b), some v1, some v2, some (.int T), some (.int p), some (.int st), some pact, some (.ref D), z8] ∧ Gro (some b) G H G' H' ∧ G' b = none ∧ H' b = some (.lst us') ∧ BoxL K G' us' ∧ Rp K G' pact a ∧
        (a = .tuple [.str "do"] ∨ ∃ (c k : Nat) (y : Str) (g tk : Nat) (kd : Str), cs[c]? = some (.tuple [.str y, .int g, .int tk, .str kd]) ∧ k < 10 ∧ ((a = .tuple [.str "send", .int c, .int k] ∧ g = p) ∨ (a = .tuple [.str "take", .int c, .int k] ∧ tk = p)))) ?_ ?_
      · walk_at "q"
        refine q_lenC (.inl (.inl hD)) ?_
        walk_at "q"
        refine q_ifd (fun h1 => ?_) (fun h1 => ?_)
        · walk_at "q"
          refine ⟨G3, b, 6, us, rfl, gr3.w, gb3, b3, hB3, by decide, fun s1 us1 s10 s11 hB1 => ?_⟩
          walk_at "q"
          have nbD := ne_of_none b2 hHD
          have D4 : L2.upd H3 b (.lst us1) D = some (.lst (((List.range cs.length).filter (meB cs p)).map fun i => V.int (i : Nat))) := upd_mu hD (Ne.symm nbD)
          refine q_ifd (fun h2 => ?_) (fun h2 => ?_)
          · walk_at "q"
            refine q_lenC (.inl (.inl D4)) ?_
            walk_at "q"
            refine ⟨G3, b, _, us1, rfl, Ex.mut gr3.w gb3, gb3, upd_same, hB1, by
              rw [List.length_map] at h1 ⊢
              have := List.length_filter_le (meB cs p) (List.range cs.length)
              rw [List.length_range] at this
              omega, fun s2 us2 s20 s21 hB2 => ?_⟩
            rw [upd_upd]
            have D5 : L2.upd H3 b (.lst us2) D = some (.lst (((List.range cs.length).filter (meB cs p)).map fun i => V.int (i : Nat))) := upd_mu hD (Ne.symm nbD)
            refine q_ixLn (.inl (.inl D5)) s20 s21 (fun v hv => ?_)
            obtain ⟨c, hc, rfl⟩ := List.mem_map.mp hv
            obtain ⟨hc1, hc2⟩ := List.mem_filter.mp hc
            have hcl : c < cs.length := List.mem_range.mp hc1
            obtain ⟨y, g, tk, kd, ec, _, _, _, gt, _⟩ := hcs _ (List.getElem_mem hcl)
            have hme : decide ((g : Int) = p) = true ∨ decide ((tk : Int) = p) = true := by
              have e1c : atD (cs.getD c .none) 1 = .int g := by
                rw [List.getD_eq_getElem?_getD, List.getElem?_eq_getElem hcl]
                show atD cs[c] 1 = _
                rw [ec] <;> rfl
              have e2c : atD (cs.getD c .none) 2 = .int tk := by
                rw [List.getD_eq_getElem?_getD, List.getElem?_eq_getElem hcl]
                show atD cs[c] 2 = _
                rw [ec] <;> rfl
              unfold meB at hc2
              rw [e1c, e2c] at hc2
              simpa [eqv_int] using hc2
            walk_at "q"
            rename_i pk hpk
            have x6 : Ex G3 (L2.upd (L2.upd H3 b (.lst us2)) pk (.lst [.str "take", .str "send"])) := (Ex.mut gr3.w gb3).trans (Ex.new hpk)
            refine q_ixRL r2b x6 (atI_at hcl) (fun u3 hu3 => ?_)
            rw [ec] at hu3
            walk_at "q"
            refine q_ixRT hu3 x6 rfl (fun u4 hu4 => ?_)
            cases hu4
            walk_at "q"
            have nbk := ne_of_none (H := L2.upd H3 b (.lst us2)) upd_same hpk
            have b6 : L2.upd (L2.upd H3 b (.lst us2)) pk (.lst [.str "take", .str "send"]) b = some (.lst us2) := upd_old upd_same hpk
            have g6 : Gro (some b) G H G3 (L2.upd (L2.upd H3 b (.lst us2)) pk (.lst [.str "take", .str "send"])) := (gr3.put gb3).then_ (Gro.up (gr3.put gb3).w (Ex.new hpk)) (by rw [upd_same]; exact fun z => nomatch z)
            obtain ⟨wd, hwd, hx⟩ : ∃ wd : Str, ((wd = "send" ∧ g = p) ∨ (wd = "take" ∧ tk = p)) ∧ atI [V.str "take", V.str "send"] (if decide ((g : Int) = (p : Int)) = true then 1 else 0) = some (.str wd) := by
              by_cases z : (g : Int) = p
              · exact ⟨"send", .inl ⟨rfl, Int.ofNat.inj z⟩, by rw [if_pos (decide_eq_true z)] <;> rfl⟩
              · refine ⟨"take", .inr ⟨rfl, ?_⟩, by rw [if_neg (by rw [decide_eq_false z]; decide)] <;> rfl⟩
                rcases hme with h | h
                · exact absurd (of_decide_eq_true h) z
                · exact Int.ofNat.inj (of_decide_eq_true h)
            refine q_ixC upd_same hx ?_
            walk_at "q"
            refine ⟨G3, b, T, us2, rfl, x6, gb3, b6, hB2, ⟨t0, by omega⟩, fun s3 us3 s30 s31 hB3' => ?_⟩
            have g7 := g6.put (o := .lst us3) gb3
            have b7 : L2.upd (L2.upd (L2.upd H3 b (.lst us2)) pk (.lst [.str "take", .str "send"])) b (.lst us3) b = some (.lst us3) := upd_same
            generalize L2.upd (L2.upd (L2.upd H3 b (.lst us2)) pk (.lst [.str "take", .str "send"])) b (.lst us3) = H7 at g7 b7 ⊢
            obtain ⟨n3, rfl⟩ := Int.eq_ofNat_of_zero_le s30
            walk_at "q"
            rename_i pt hpt
            have nbt := ne_of_none b7 hpt
            have nx := Ex.new (o := .tup [.str wd, .int c, .int n3]) (g7.w.back hpt)
            refine ⟨_, .tuple [.str wd, .int c, .int n3], .ref pt, us3, _, rfl, g7.newb hpt (g7.fresh hpt (Ne.symm nbt)), by rw [upd_ne nbt]; exact gb3, upd_old b7 hpt, hB3'.mono nx, .tup (.inl (.inl upd_same)) (.cons (.str _) (.cons (.int _) (.cons (.int _) .nil))), .inr ⟨c, n3, y, g, tk, kd, by rw [List.getElem?_eq_getElem hcl, ec], by omega, ?_⟩⟩
            rcases hwd with ⟨rfl, h⟩ | ⟨rfl, h⟩
            · exact .inl ⟨rfl, h⟩
            · exact .inr ⟨rfl, h⟩
          · walk_at "q"
            exact ⟨none, _, _, us1, G3, rfl, gr3.put gb3, gb3, upd_same, hB1, ra, .inl rfl⟩
        · walk_at "q"
          exact ⟨none, _, _, us, G3, rfl, gr3, gb3, b3, hB3, ra, .inl rfl⟩
      · rintro _ H' ⟨z8, a, pact, us', G', rfl, gr, gb', hb', hB', ra', ha⟩
        walk_at "q"
        refine ⟨G', b, st, us', rfl, gr.w, gb', hb', hB', by omega, fun s1 us1 s10 s11 hB1 => ?_⟩
        walk_at "q"
        refine ⟨G', b, st, us1, rfl, Ex.mut gr.w gb', gb', upd_same, hB1, by omega, fun s2 us2 s20 s21 hB2 => ?_⟩
        rw [upd_upd]
        walk_at "q"
        rename_i pr hpr
        obtain ⟨n1, rfl⟩ := Int.eq_ofNat_of_zero_le s10
        obtain ⟨n2, rfl⟩ := Int.eq_ofNat_of_zero_le s20
        have g9 := gr.put (o := .lst us2) gb'
        have nbr := ne_of_none (H := L2.upd H' b (.lst us2)) upd_same hpr
        have hHpr := g9.fresh hpr (Ne.symm nbr)
        have nx := Ex.new (o := .tup [.int p, .int n1, pact, .int n2]) (g9.w.back hpr)
        refine q (.ref pr) (.tuple [.int p, .int n1, a, .int n2]) us2 _ _ (g9.newb hpr hHpr) (by rw [upd_ne nbr]; exact gb') (upd_old upd_same hpr) (hB2.mono nx) (.tup (.inl (.inl upd_same)) (.cons (.int _) (.cons (.int _) (.cons (ra'.mono nx) (.cons (.int _) .nil))))) ?_
        exact ⟨p, n1, n2, a, z, st, rfl, by rw [List.getElem?_eq_getElem hp, ep], by omega, by omega, ha⟩
end
end Cw

set_option maxHeartbeats 4000000
namespace Cw
open PySem PySem.Spec PyProof.Rows L2
section
variable {P : Program} {w : World} {K : PySem.W.Frag} {mg : Str → Option Value} {base : Heap}
abbrev s__law_net : Stmt := topS 49
abbrev N__law_net : List Str := ["box", "many", "processes", "name", "channels", "tokens", "count", "rules", "k"]
theorem sc__law_net : FnScope N__law_net ["box"] (defScope s__law_net) := ⟨rfl, rfl, rfl, by decide +kernel, rfl, by decide +kernel, by decide +kernel⟩
def sp_lnet (K : PySem.W.Frag) : Sp := fun vs H Q _ => ∃ (G : Hp) (b : Addr) (xs : List V), vs = [.ref b] ∧ Ex G H ∧ G b = none ∧ H b = some (.lst xs) ∧ BoxL K G xs ∧
  ∀ (u : V) (ps cs rs : List PyData) (us : List V) (G' H' : Hp), Gro (some b) G H G' H' → G' b = none → H' b = some (.lst us) → BoxL K G' us → Rp K G' u (.tuple [.tuple ps, .tuple cs, .tuple rs]) → LNet ps cs rs → Q u H'
theorem c_lnet {f : Addr} {fd : FuncData} (F : FnP K "_law_net" s__law_net f fd) (hm : mg "_law_net" = some (.ref f)) (B : Blt mg) (C__law_draw : Cal P w K mg base 2 "_law_draw" ["box", "many"] (sp_draw K)) (C__law_names : Cal P w K mg base 3 "_law_names" ["box", "pool", "many"] (sp_names K))
    (C__law_channels : Cal P w K mg base 4 "_law_channels" ["box", "many"] (sp_channels K)) (C__law_rule : Cal P w K mg base 3 "_law_rule" ["box", "processes", "channels", "tokens"] (sp_lrule K)) : Cal P w K mg base 5 "_law_net" ["box"] (sp_lnet K) := by
  refine cal_of F hm sc__law_net (fun _ _ _ _ _ _ _ us hl => match us, hl with | [_], _ => rfl) (fun vs H Q E h => ?_) (fun cdv A outer s H vs Q E hr h => ?_)
  · obtain ⟨_, _, _, rfl, _⟩ := h
    rfl
  · obtain ⟨G, b, xs, rfl, eG, gb, hb, hB, q⟩ := h
    have nd := sc__law_net.nd
    refine ⟨_, [some _, none, none, none, none, none, none, none, none], ((pss_cons (ps_set (i := 1) nd rfl (Or.inl rfl) (pe_op (op_addK (K := K) rfl) pe_int (pe_callC C__law_draw (hr.mono (by omega)) (by rfl) (pa_cons (pv 0) (pa_cons (pe_ix (ix_seqK (K := K) rfl) (pe_lst (pa_cons pe_int (pa_cons pe_int pa_nil))) (pe_callTy call_intA (by rfl) B.int_ bo_int (pa_cons (pe_cmpR (op_eqK (K := K) rfl (hu64 hr)) (pe_callC C__law_draw (hr.mono (by omega)) (by rfl) (pa_cons (pv 0) (pa_cons pe_int pa_nil))) pe_int (nomark _)) pa_nil)) (fun _ _ => rfl)) pa_nil)))))
      (pss_cut (ps_if (PW.pt (pw_and (pt_cmpR (op_eqK (K := K) rfl (hu64 hr)) (pv 1) pe_int (nomark _)) (pw_and1 (pt_cmpR (op_eqK (K := K) rfl (hu64 hr)) (pe_callC C__law_draw (hr.mono (by omega)) (by rfl) (pa_cons (pv 0) (pa_cons pe_int pa_nil))) pe_int (nomark _))))) (pss_one (ps_set (i := 1) nd rfl (Or.inl rfl) pe_int)) pss_nil)
      (pss_cons (ps_set (i := 2) nd rfl (Or.inr rfl) (pe_lst pa_nil))
      (pss_cons (ps_for PassesOwn.never rfl (pi_seqK (K := K) rfl (pe_callC C__law_names (hr.mono (by omega)) (by rfl) (pa_cons (pv 0) (pa_cons (pe_lst (pa_cons pe_str (pa_cons pe_str (pa_cons pe_str (pa_cons pe_str (pa_cons pe_str (pa_cons pe_str (pa_cons pe_str pa_nil)))))))) (pa_cons (pv 1) pa_nil))))) (pg_name (i := 3) nd rfl (by first | exact Or.inl rfl | exact Or.inr rfl)) (pss_one (ps_expr (pe_bmK (K := K) rfl PySem.F.plainAttrs_list PySem.F.slot_list_append PySem.F.type_list_append mt_append (pv 2) (pa_cons (pe_tup (pa_cons (pv 3) (pa_cons (pe_op (op_addK (K := K) rfl) pe_int (pe_callC C__law_draw (hr.mono (by omega)) (by rfl) (pa_cons (pv 0) (pa_cons (pe_ix (ix_seqK (K := K) rfl) (pe_lst (pa_cons pe_int (pa_cons pe_int pa_nil))) (pe_callTy call_intA (by rfl) B.int_ bo_int (pa_cons (pe_cmpR (op_eqK (K := K) rfl (hu64 hr)) (pe_callC C__law_draw (hr.mono (by omega)) (by rfl) (pa_cons (pv 0) (pa_cons pe_int pa_nil))) pe_int (nomark _)) pa_nil)) (fun _ _ => rfl)) pa_nil)))) pa_nil))) pa_nil)))))
      (pss_cons (ps_set (i := 4) nd rfl (Or.inr rfl) (pe_callC C__law_channels (hr.mono (by omega)) (by rfl) (pa_cons (pv 0) (pa_cons (pv 1) pa_nil))))
      (pss_cons (ps_set (i := 5) nd rfl (Or.inr rfl) (pe_ix (ix_seqK (K := K) rfl) (pe_lst (pa_cons pe_int (pa_cons pe_int (pa_cons pe_int pa_nil)))) (pe_callC C__law_draw (hr.mono (by omega)) (by rfl) (pa_cons (pv 0) (pa_cons pe_int pa_nil))) (fun _ _ => rfl)))
      (pss_cons (ps_set (i := 6) nd rfl (Or.inl rfl) (pe_callC C__law_draw (hr.mono (by omega)) (by rfl) (pa_cons (pv 0) (pa_cons (pe_ix (ix_seqK (K := K) rfl) (pe_lst (pa_cons pe_int (pa_cons pe_int (pa_cons pe_int pa_nil)))) (pe_callC C__law_draw (hr.mono (by omega)) (by rfl) (pa_cons (pv 0) (pa_cons pe_int pa_nil))) (fun _ _ => rfl)) pa_nil))))
      (pss_cons (ps_setLc (i := 7) (own := [("k", 8)]) rfl nd rfl rfl (sw_true rfl rfl rfl (by decide +kernel)) (pi_range1 (by rfl) B.range_ (pa_cons (pv 6) pa_nil)) (blkOk_by (N := N__law_net) (sc := defScope s__law_net) (by decide +kernel)) (fun _ _ _ _ _ => (pg_name (i := 8) nd rfl (by first | exact Or.inl rfl | exact Or.inr rfl))) (fun _ _ _ _ _ => pts_nil) (fun _ _ _ _ _ => (pe_callC C__law_rule (hr.mono (by omega)) (by rfl) (pa_cons (pv 0) (pa_cons (pv 2) (pa_cons (pv 4) (pa_cons (pv 5) pa_nil)))))))
      (pss_one (ps_ret (pe_tup (pa_cons (pe_callTy (call_tupK (K := K) rfl) (by rfl) B.tuple_ bo_tuple (pa_cons (pv 2) pa_nil)) (pa_cons (pe_callTy (call_tupK (K := K) rfl) (by rfl) B.tuple_ bo_tuple (pa_cons (pv 4) pa_nil)) (pa_cons (pe_callTy (call_tupK (K := K) rfl) (by rfl) B.tuple_ bo_tuple (pa_cons (pv 7) pa_nil)) pa_nil))))))))))))))), rfl, ?_⟩
    walk_at "q"
    rename_i p hp
    refine ⟨G, b, 6, xs, rfl, eG.trans (Ex.new hp), gb, upd_old hb hp, hB, by decide, fun r us r0 r1 hB1 => ?_⟩
    have npb := ne_of_none hb hp
    walk_at "q"
    refine q_ixIf (upd_mu upd_same (Ne.symm npb)) (fun v hv => ?_)
    obtain ⟨mm, rfl, hmm⟩ : ∃ mm : Int, v = .int mm ∧ 3 ≤ mm ∧ mm ≤ 5 := by
      rcases hv with rfl | rfl
      · exact ⟨3, rfl, by decide, by decide⟩
      · exact ⟨5, rfl, by decide, by decide⟩
    have g2 : Gro (some b) G H G (L2.upd (L2.upd H p (.lst [.int 3, .int 5])) b (.lst us)) := (Gro.start eG (Ex.new hp)).put gb
    have b2 : L2.upd (L2.upd H p (.lst [.int 3, .int 5])) b (.lst us) b = some (.lst us) := upd_same
    generalize L2.upd (L2.upd H p (.lst [.int 3, .int 5])) b (.lst us) = H2 at g2 b2 ⊢
    walk_at "q"
    refine ⟨G, b, mm, us, rfl, g2.w, gb, b2, hB1, by omega, fun r2 us2 r20 r21 hB2 => ?_⟩
    obtain ⟨n, rfl⟩ := Int.eq_ofNat_of_zero_le r20
    have g3 : Gro (some b) G H G (L2.upd H2 b (.lst us2)) := g2.put gb
    have b3 : L2.upd H2 b (.lst us2) b = some (.lst us2) := upd_same
    generalize L2.upd H2 b (.lst us2) = H3 at g3 b3 ⊢
    walk_at "q"
    refine q_cut (M := fun σ' H' => ∃ (m : Nat) (us' : List V), σ' = [some (.ref b), some (.int (m : Nat)), none, none, none, none, none, none, none] ∧ 1 ≤ m ∧ m ≤ 5 ∧ Gro (some b) G H G H' ∧ H' b = some (.lst us') ∧ BoxL K G us') ?_ ?_
    · walk_at "q"
      refine q_ifd (fun h1 => ?_) (fun h1 => ?_)
      · walk_at "q"
        refine ⟨G, b, 2, us2, rfl, g3.w, gb, b3, hB2, by decide, fun r3 us3 r30 r31 hB3 => ?_⟩
        walk_at "q"
        refine q_ifd (fun h2 => ?_) (fun h2 => ?_)
        · walk_at "q"
          exact ⟨2, us3, rfl, by decide, by decide, g3.put gb, upd_same, hB3⟩
        · walk_at "q"
          exact ⟨1 + n, us3, by rw [show ((1 + n : Nat) : Int) = 1 + (n : Int) by omega] <;> rfl, by omega, by omega, g3.put gb, upd_same, hB3⟩
      · walk_at "q"
        exact ⟨1 + n, us2, by rw [show ((1 + n : Nat) : Int) = 1 + (n : Int) by omega] <;> rfl, by omega, by omega, g3, b3, hB2⟩
    · rintro _ H4 ⟨m, us4, rfl, m1, m5, g4, b4, hB4⟩
      walk_at "q"
      rename_i l hl4
      have nbl := ne_of_none b4 hl4
      have hl : H l = none := g4.fresh hl4 (Ne.symm nbl)
      have gl : G l = none := g4.w.back hl4
      have g5 : Gro (some b) G H G (L2.upd H4 l (.lst [])) := g4.then_ (Gro.up g4.w (Ex.new hl4)) (by rw [b4]; exact fun z => nomatch z)
      have l5 : L2.upd H4 l (.lst []) l = some (.lst []) := upd_same
      have b5 : L2.upd H4 l (.lst []) b = some (.lst us4) := upd_old b4 hl4
      generalize L2.upd H4 l (.lst []) = H5 at g5 l5 b5 ⊢
      refine q_forL ?_
      walk_at "q"
      rename_i p4 hp4
      have npb4 := ne_of_none b5 hp4
      refine ⟨G, b, p4, us4, poolP, m, rfl, g5.w.trans (Ex.new hp4), gb, upd_old b5 hp4, hB4, Ne.symm npb4, upd_same, by decide +kernel, by (show m ≤ 7); omega, by decide, fun l2 zs us6 H6 hz nz hzp hB6 m6 b6 hl2n hl2 => ?_⟩
      have l6 : H6 l = some (.lst []) := m6 _ _ (Ne.symm nbl) (upd_old l5 hp4)
      have g5a : Gro (some b) G H G (L2.upd H5 p4 (.lst (poolP.map V.str))) := g5.then_ (Gro.up g5.w (Ex.new hp4)) (by rw [b5]; exact fun z => nomatch z)
      have g6 : Gro (some b) G H G H6 := Gro.mutb g5a m6 gb
      have nll : l ≠ l2 := ne_of_none (upd_old l5 hp4) hl2n
      have nbl2 : b ≠ l2 := ne_of_none (upd_old b5 hp4) hl2n
      refine q_lst_for (xs := zs.map V.str) (.inl (.inl hl2)) (fun i σ' H' => ∃ z3 vs ps us G', σ' = [some (.ref b), some (.int (m : Nat)), some (.ref l), z3, none, none, none, none, none] ∧ Gro (some b) G H G' H' ∧ G' b = none ∧ G' l = none ∧ H' b = some (.lst us) ∧ BoxL K G' us ∧
          H' l = some (.lst vs) ∧ Rps K G' vs ps ∧ (∀ c ∈ ps, PrOk poolP c) ∧ (ps.map fun c => strOf (atD c 0)) = zs.take i ∧ H' l2 = some (.lst (zs.map V.str)) ∧ i ≤ zs.length) ?_ ?_ ?_ ?_
      · exact ⟨none, [], [], us6, G, rfl, g6, gb, gl, b6, hB6, l6, .nil, by simp, rfl, hl2, Nat.zero_le _⟩
      · rintro i σ' H' _ ⟨_, _, _, _, _, _, _, _, _, _, _, _, _, _, _, h, _⟩
        exact .inl (.inl h)
      · rintro i x σ' H' hx ⟨z3, vs, ps, us, G', rfl, gr, gb', gl', hb', hB', hl', hr', hk', hn', hl2', hi'⟩
        have hi : i < zs.length := by
          have := (List.getElem?_eq_some_iff.mp hx).1
          rw [List.length_map] at this
          exact this
        obtain rfl : x = V.str zs[i] := by
          rw [List.getElem?_map, List.getElem?_eq_getElem hi] at hx
          exact (Option.some.inj hx).symm
        have lps : ps.length = i := by
          have := congrArg List.length hn'
          rw [List.length_map, List.length_take] at this
          omega
        walk_at "q"
        rename_i p5 hp5
        have npb5 := ne_of_none hb' hp5
        refine ⟨G', b, 4, us, rfl, gr.w.trans (Ex.new hp5), gb', upd_old hb' hp5, hB', by decide, fun r7 us7 r70 r71 hB7 => ?_⟩
        walk_at "q"
        refine q_ixIf (upd_mu upd_same (Ne.symm npb5)) (fun v hv => ?_)
        obtain ⟨mm, rfl, hmm⟩ : ∃ mm : Int, v = .int mm ∧ 3 ≤ mm ∧ mm ≤ 8 := by
          rcases hv with rfl | rfl
          · exact ⟨3, rfl, by decide, by decide⟩
          · exact ⟨8, rfl, by decide, by decide⟩
        have g7 : Gro (some b) G H G' (L2.upd (L2.upd H' p5 (.lst [.int 3, .int 8])) b (.lst us7)) := (gr.then_ (Gro.up gr.w (Ex.new hp5)) (by rw [hb']; exact fun z => nomatch z)).put gb'
        have l7 : L2.upd (L2.upd H' p5 (.lst [.int 3, .int 8])) b (.lst us7) l = some (.lst vs) := upd_mu (upd_old hl' hp5) (Ne.symm nbl)
        have l27 : L2.upd (L2.upd H' p5 (.lst [.int 3, .int 8])) b (.lst us7) l2 = some (.lst (zs.map V.str)) := upd_mu (upd_old hl2' hp5) (Ne.symm nbl2)
        have b7 : L2.upd (L2.upd H' p5 (.lst [.int 3, .int 8])) b (.lst us7) b = some (.lst us7) := upd_same
        generalize L2.upd (L2.upd H' p5 (.lst [.int 3, .int 8])) b (.lst us7) = H7 at g7 l7 l27 b7 ⊢
        walk_at "q"
        refine ⟨G', b, mm, us7, rfl, g7.w, gb', b7, hB7, by omega, fun r8 us8 r80 r81 hB8 => ?_⟩
        obtain ⟨st, rfl⟩ := Int.eq_ofNat_of_zero_le r80
        have g8 := g7.put (o := .lst us8) gb'
        have l8 : L2.upd H7 b (.lst us8) l = some (.lst vs) := upd_mu l7 (Ne.symm nbl)
        have l28 : L2.upd H7 b (.lst us8) l2 = some (.lst (zs.map V.str)) := upd_mu l27 (Ne.symm nbl2)
        have b8 : L2.upd H7 b (.lst us8) b = some (.lst us8) := upd_same
        generalize L2.upd H7 b (.lst us8) = H8 at g8 l8 l28 b8 ⊢
        walk_at "q"
        rename_i p6 hp6
        have hHp6 : H p6 = none := g8.fresh hp6 (fun z => by rw [z, b8] at hp6; cases hp6)
        have nl6 : l ≠ p6 := ne_of_none l8 hp6
        have np6b : b ≠ p6 := ne_of_none b8 hp6
        rw [show (1 : Int) + (st : Int) = ((1 + st : Nat) : Int) by omega]
        refine q_append (upd_old l8 hp6) (line_lt (by rw [hr'.len]; omega)) ?_
        walk_at "q"
        have g9 := (g8.newb (o := .tup [.str zs[i], .int ((1 + st : Nat) : Int)]) hp6 hHp6).cell (l := l) (o := .lst (vs ++ [.ref p6])) (by rw [upd_ne nl6]; exact gl') hl
        refine ⟨_, vs ++ [.ref p6], ps ++ [.tuple [.str zs[i], .int ((1 + st : Nat) : Int)]], us8, _, rfl, g9, by rw [upd_ne np6b]; exact gb', by rw [upd_ne nl6]; exact gl', upd_mu (upd_old b8 hp6) nbl, hB8.mono (Ex.new (g8.w.back hp6)), upd_same, ?_, ?_, ?_, upd_mu (upd_old l28 hp6) (Ne.symm nll), by omega⟩
        · exact (hr'.mono (Ex.new (g8.w.back hp6))).app (Rps.one (.tup (.inl (.inl upd_same)) (.cons (.str _) (.cons (.int _) .nil))))
        · intro c hc
          rcases List.mem_append.mp hc with h | h
          · exact hk' c h
          · rw [List.mem_singleton.mp h]
            exact ⟨zs[i], 1 + st, rfl, hzp _ (List.getElem_mem hi), by omega, by omega⟩
        · rw [List.map_append, hn', List.take_add_one, List.getElem?_eq_getElem hi]
          rfl
      · rintro σ' H9 ⟨z3, vs, ps, us9, G9, rfl, gr9, gb9, gl9, b9, hB9, l9, hr9, hk9, hn9, _, _⟩
        rw [List.length_map, List.take_length] at hn9
        have lps : ps.length = m := by
          have := congrArg List.length hn9
          rw [List.length_map] at this
          omega
        walk_at "q"
        have g10 := gr9.know gl9 hl l9
        have r10 : Rp K (L2.upd G9 l (.lst vs)) (.ref l) (.list ps) := .lst upd_same (hr9.mono (Ex.new gl9))
        have gb10 : L2.upd G9 l (.lst vs) b = none := by rw [upd_ne nbl]; exact gb9
        have hB10 := hB9.mono (Ex.new (o := .lst vs) gl9)
        generalize L2.upd G9 l (.lst vs) = G10 at g10 r10 gb10 hB10
        refine ⟨G10, b, us9, m, rfl, g10.w, gb10, b9, hB10, m1, m5, fun lc cs us11 G11 H11 g11 gb11 b11 hB11 rc lcs kcs ncs => ?_⟩
        have g12 := g10.thenB g11 (by rw [b9]; exact fun z => nomatch z)
        have r12 := r10.mono g11.g
        walk_at "q"
        rename_i p13 hp13
        have npb13 := ne_of_none b11 hp13
        refine ⟨G11, b, 3, us11, rfl, g12.w.trans (Ex.new hp13), gb11, upd_old b11 hp13, hB11, by decide, fun r14 us14 r140 r141 hB14 => ?_⟩
        refine q_ixLn (xs := [.int 2, .int 3, .int 10]) (.inl (.inl (upd_mu upd_same (Ne.symm npb13)))) r140 r141 (fun v hv => ?_)
        obtain ⟨T, rfl, hT⟩ : ∃ T : Int, v = .int T ∧ 0 < T ∧ T ≤ 10 := by
          simp only [List.mem_cons, List.mem_nil_iff, or_false] at hv
          rcases hv with rfl | rfl | rfl
          · exact ⟨2, rfl, by decide, by decide⟩
          · exact ⟨3, rfl, by decide, by decide⟩
          · exact ⟨10, rfl, by decide, by decide⟩
        have g14 : Gro (some b) G H G11 (L2.upd (L2.upd H11 p13 (.lst [.int 2, .int 3, .int 10])) b (.lst us14)) := (g12.then_ (Gro.up g12.w (Ex.new hp13)) (by rw [b11]; exact fun z => nomatch z)).put gb11
        have b14 : L2.upd (L2.upd H11 p13 (.lst [.int 2, .int 3, .int 10])) b (.lst us14) b = some (.lst us14) := upd_same
        generalize L2.upd (L2.upd H11 p13 (.lst [.int 2, .int 3, .int 10])) b (.lst us14) = H14 at g14 b14 ⊢
        walk_at "q"
        rename_i p15 hp15
        have npb15 := ne_of_none b14 hp15
        refine ⟨G11, b, 3, us14, rfl, g14.w.trans (Ex.new hp15), gb11, upd_old b14 hp15, hB14, by decide, fun r16 us16 r160 r161 hB16 => ?_⟩
        refine q_ixLn (xs := [.int 13, .int 25, .int 41]) (.inl (.inl (upd_mu upd_same (Ne.symm npb15)))) r160 r161 (fun v hv => ?_)
        obtain ⟨M, rfl, hM⟩ : ∃ M : Int, v = .int M ∧ 0 < M ∧ M ≤ 41 := by
          simp only [List.mem_cons, List.mem_nil_iff, or_false] at hv
          rcases hv with rfl | rfl | rfl
          · exact ⟨13, rfl, by decide, by decide⟩
          · exact ⟨25, rfl, by decide, by decide⟩
          · exact ⟨41, rfl, by decide, by decide⟩
        have g16 : Gro (some b) G H G11 (L2.upd (L2.upd H14 p15 (.lst [.int 13, .int 25, .int 41])) b (.lst us16)) := (g14.then_ (Gro.up g14.w (Ex.new hp15)) (by rw [b14]; exact fun z => nomatch z)).put gb11
        have b16 : L2.upd (L2.upd H14 p15 (.lst [.int 13, .int 25, .int 41])) b (.lst us16) b = some (.lst us16) := upd_same
        generalize L2.upd (L2.upd H14 p15 (.lst [.int 13, .int 25, .int 41])) b (.lst us16) = H16 at g16 b16 ⊢
        walk_at "q"
        refine ⟨G11, b, M, us16, rfl, g16.w, gb11, b16, hB16, by omega, fun r17 us17 r170 r171 hB17 => ?_⟩
        obtain ⟨cnt, rfl⟩ := Int.eq_ofNat_of_zero_le r170
        have g17 := g16.put (o := .lst us17) gb11
        have b17 : L2.upd H16 b (.lst us17) b = some (.lst us17) := upd_same
        generalize L2.upd H16 b (.lst us17) = H17 at g17 b17 ⊢
        walk_at "q"
        refine q_rng_lc cnt (by omega) (fun D hD => ⟨fun i H' => ∃ vs rs us G', Gro (some b) G H G' H' ∧ Ex G11 G' ∧ G' b = none ∧ G' D = none ∧ H' b = some (.lst us) ∧ BoxL K G' us ∧ H' D = some (.lst vs) ∧ Rps K G' vs rs ∧ rs.length = i ∧ ∀ r ∈ rs, RuOk ps cs r, ?_, ?_, ?_⟩)
        · exact ⟨[], [], us17, G11, g17.then_ (Gro.up g17.w (Ex.new hD)) (by rw [b17]; exact fun z => nomatch z), Ex.refl _, gb11, g17.w.back hD, upd_old b17 hD, hB17, upd_same, .nil, rfl, by simp⟩
        · rintro i H' hi ⟨vs, rs, us, G', gr, eg, gb', gD, hb', hB', hD', hr', hl', hk'⟩
          have nbD : b ≠ D := ne_of_none b17 hD
          walk_at "q"
          refine ⟨rfl, ?_⟩
          walk_at "q"
          refine ⟨G', b, us, .ref l, .ref lc, ps, cs, T, poolP, poolC, rfl, gr.w, gb', hb', hB', r12.mono eg, rc.mono eg, by omega, by omega, hk9, lcs, by rw [lps]; exact kcs, hT.1, hT.2, fun u d us2 G2 H2 g2 gb2 b2 hB2 rd hd => ?_⟩
          have hD2 := g2.k D _ (fun z => nbD (by cases z; rfl)) hD'
          have gD2 : G2 D = none := g2.n D (by rw [hD']; exact fun z => nomatch z) gD
          refine ⟨vs, hD2, line_lt (by rw [hr'.len]; omega), vs ++ [u], rs ++ [d], us2, G2, ?_, eg.trans g2.g, gb2, gD2, upd_mu b2 nbD, hB2, upd_same, (hr'.mono g2.g).app (Rps.one rd), by rw [List.length_append, hl'] <;> rfl, ?_⟩
          · exact (gr.thenB g2 (by rw [hb']; exact fun z => nomatch z)).cell gD2 (g17.fresh hD (Ne.symm nbD))
          · intro r hr
            rcases List.mem_append.mp hr with h | h
            · exact hk' r h
            · rw [List.mem_singleton.mp h]
              exact hd
        · rintro H' ⟨vs, rs, us, G', gr, eg, gb', gD, hb', hB', hD', hr', hl', hk'⟩
          walk_at "q"
          refine q_tupRS (r12.mono eg) (.inl rfl) gr.w (fun G20 H20 t1 g20 rt1 => ?_)
          walk_at "q"
          refine q_tupRS (rc.mono (eg.trans g20.g)) (.inl rfl) g20.w (fun G21 H21 t2 g21 rt2 => ?_)
          walk_at "q"
          refine q_tupNew (g21.ex _ _ (g20.ex _ _ hD')) g21.w (hr'.mono (g20.g.trans g21.g)) (fun G22 H22 t3 g22 rt3 => ?_)
          walk_at "q"
          rename_i t4 ht4
          have h20 := gr.then_ g20 (by rw [hb']; exact fun z => nomatch z)
          have b20 := g20.ex _ _ hb'
          have h21 := h20.then_ g21 (by rw [b20]; exact fun z => nomatch z)
          have b21 := g21.ex _ _ b20
          have h22 := h21.then_ g22 (by rw [b21]; exact fun z => nomatch z)
          have b22 := g22.ex _ _ b21
          have h23 := h22.then_ (Gro.new (o := .tup [.ref t1, .ref t2, .ref t3]) h22.w ht4) (by rw [b22]; exact fun z => nomatch z)
          have b23 := upd_old (p := t4) (o := .tup [.ref t1, .ref t2, .ref t3]) b22 ht4
          have nx := Ex.new (o := .tup [.ref t1, .ref t2, .ref t3]) (h22.w.back ht4)
          refine q (.ref t4) ps cs rs us _ _ h23 (h23.n b (by rw [hb]; exact fun z => nomatch z) gb) b23 (hB'.mono (g20.g.trans (g21.g.trans (g22.g.trans nx)))) (.tup (.inl (.inl upd_same)) (.cons (rt1.mono (g21.g.trans (g22.g.trans nx))) (.cons (rt2.mono (g22.g.trans nx)) (.cons (rt3.mono nx) .nil)))) ?_
          exact ⟨by omega, by omega, fun p m => PrOk.up (hk9 p m), by rw [hn9]; exact nz, lcs, by rw [lps]; exact fun c m => ChOk.up (kcs c m), ncs, by omega, hk'⟩
end
end Cw

set_option maxHeartbeats 4000000
namespace Cw
open PySem PySem.Spec PyProof.Rows L2
section
variable {P : Program} {w : World} {K : PySem.W.Frag} {mg : Str → Option Value} {base : Heap}
abbrev s_changed : Stmt := topS 40
abbrev N_changed : List Str := ["row", "at", "value"]
theorem sc_changed : FnScope N_changed ["row", "at", "value"] (defScope s_changed) := ⟨rfl, rfl, rfl, by decide +kernel, rfl, by decide +kernel, by decide +kernel⟩
def sp_changed (K : PySem.W.Frag) : Sp := fun vs H Q _ => ∃ (G : Hp) (v u : V) (k : Nat) (ds : List PyData) (e : PyData), vs = [v, .int (k : Int), u] ∧ Ex G H ∧ Rp K G v (.tuple ds) ∧ k < ds.length ∧ ds.length ≤ 1000 ∧ Rp K G u e ∧
  ∀ G2 H2 p, Gro none G H G2 H2 → Rp K G2 (.ref p) (.tuple (ds.set k e)) → Q (.ref p) H2
theorem c_changed {f : Addr} {fd : FuncData} (F : FnP K "changed" s_changed f fd) (hm : mg "changed" = some (.ref f)) (B : Blt mg) : Cal P w K mg base 1 "changed" ["row", "at", "value"] (sp_changed K) := by
  refine cal_of F hm sc_changed (fun _ _ _ _ _ _ _ us hl => match us, hl with | [_, _, _], _ => rfl) (fun vs H Q E h => ?_) (fun cdv A outer s H vs Q E hr h => ?_)
  · obtain ⟨_, _, _, _, _, _, rfl, _⟩ := h
    rfl
  · obtain ⟨G, v, u, k, ds, e, rfl, eG, hv, hk, hl, hu, q⟩ := h
    have nd := sc_changed.nd
    refine ⟨_, [some _, some _, some _], ((pss_one (ps_ret (pe_tup (pa_starK (K := K) rfl (pe_slice (sl_anyK (K := K) rfl) (pv 0) po_none (po_some (pv 1))) (pa_cons (pv 2) (pa_starK (K := K) rfl (pe_slice (sl_anyK (K := K) rfl) (pv 0) (po_some (pe_op (op_addK (K := K) rfl) (pv 1) pe_int)) po_none) pa_nil))))))), rfl, ?_⟩
    walk_at "q"
    refine q_slTo (b := true) hv eG (fun G1 H1 p1 g1 r1 => ?_)
    refine q_starAt r1 g1.w (fun xs1 hx1 => ?_)
    walk_at "q"
    rw [show ((k : Int) + 1) = ((k + 1 : Nat) : Int) from rfl]
    refine q_slFrom (b := true) (hv.mono g1.g) g1.w (by omega) (fun G2 H2 p2 g2 r2 => ?_)
    refine q_starAt r2 g2.w (fun xs2 hx2 => ?_)
    walk_at "q"
    rw [List.append_nil]
    refine ⟨?_, fun p hp => ?_⟩
    · rw [List.length_append, List.length_cons, hx1.len, hx2.len, List.length_take, List.length_drop]
      exact Nat.le_trans (show _ ≤ 2000 by omega) (by decide)
    have g3 := Gro.new (o := .tup (xs1 ++ u :: xs2)) g2.w hp
    refine q _ _ p ((g1.trans0 g2).trans0 g3) (.tup (.inl (.inl upd_same)) ?_)
    rw [← set_cut ds e k hk]
    exact (hx1.mono (g2.g.trans g3.g)).app (.cons (hu.mono (g1.g.trans (g2.g.trans g3.g))) (hx2.mono g3.g))
abbrev s_without : Stmt := topS 39
abbrev N_without : List Str := ["present", "channel", "gone", "message"]
theorem sc_without : FnScope N_without ["present", "channel", "gone"] (defScope s_without) := ⟨rfl, rfl, rfl, by decide +kernel, rfl, by decide +kernel, by decide +kernel⟩
def sp_without (K : PySem.W.Frag) : Sp := fun vs H Q _ => ∃ (G : Hp) (v : V) (c k : Nat) (ps : List (List (Nat × Nat))) (r : List (Nat × Nat)), vs = [v, .int (c : Int), .int (k : Int)] ∧ Ex G H ∧ Rp K G v (.tuple (ps.map (rowMD true))) ∧ ps[c]? = some r ∧ r.length ≤ 1000 ∧ ps.length ≤ 1000 ∧
  ∀ G2 H2 p, Gro none G H G2 H2 → Rp K G2 (.ref p) (.tuple ((ps.set c (r.filter fun m => decide (m.1 ≠ k))).map (rowMD true))) → Q (.ref p) H2
theorem c_without {f : Addr} {fd : FuncData} (F : FnP K "without" s_without f fd) (hm : mg "without" = some (.ref f)) (B : Blt mg) (C_changed : Cal P w K mg base 1 "changed" ["row", "at", "value"] (sp_changed K)) : Cal P w K mg base 2 "without" ["present", "channel", "gone"] (sp_without K) := by
  refine cal_of F hm sc_without (fun _ _ _ _ _ _ _ us hl => match us, hl with | [_, _, _], _ => rfl) (fun vs H Q E h => ?_) (fun cdv A outer s H vs Q E hr h => ?_)
  · obtain ⟨_, _, _, _, _, _, rfl, _⟩ := h
    rfl
  · obtain ⟨G, v, c, k, ps, r, rfl, eG, hv, hc, hl, hpl, q⟩ := h
    have nd := sc_without.nd
    have hcl := (List.getElem?_eq_some_iff.mp hc).1
    refine ⟨_, [some _, some _, some _, none], ((pss_one (ps_ret (pe_callC C_changed (hr.mono (by omega)) (by rfl) (pa_cons (pv 0) (pa_cons (pv 1) (pa_cons (pe_callTy (call_tupK (K := K) rfl) (by rfl) B.tuple_ bo_tuple (pa_cons (pe_lc (own := [("message", 3)]) rfl nd (pi_seqK (K := K) rfl (pe_ix (ix_seqK (K := K) rfl) (pv 0) (pv 1) (fun _ _ => rfl))) (blkOk_by (N := N_without) (sc := defScope s_without) (by decide +kernel)) (fun _ _ _ _ _ => (pg_name (i := 3) nd rfl (by first | exact Or.inl rfl | exact Or.inr rfl))) (fun _ _ _ _ _ => (pts_one (pt_cmpR (op_neK (K := K) rfl (hu64 hr)) (pe_ix (ix_seqK (K := K) rfl) (pv 3) pe_int (fun _ _ => rfl)) (pv 2) (nomark _)))) (fun _ _ _ _ _ => (pv 3))) pa_nil)) pa_nil))))))), rfl, ?_⟩
    walk_at "q"
    refine q_lcT ?_
    walk_at "q"
    refine q_ixRT hv eG (at_map hcl) (fun vr hvr => ?_)
    rw [(List.getElem?_eq_some_iff.mp hc).2] at hvr
    refine q_fmT (h := msgD true) (f := fun m => if decide (m.1 ≠ k) then some (msgD true m) else none) hvr eG (by omega) (fun i m u G' H' hm' gr ru C N yes no => ?_) (fun G1 H1 D g1 hD r1 => ?_)
    · have w1 := gr.w
      walk_at "q"
      refine ⟨rfl, ?_⟩
      walk_at "q"
      refine q_ixRT ru w1 (atI_nat (j := 0) rfl) (fun u0 hu0 => ?_)
      cases hu0
      walk_at "q"
      refine q_ifnd (fun h => ?_) (fun h => ?_)
      · walk_at "q"
        exact yes _ _ _ _ (by rw [if_pos]; simp; omega) (Gro.refl w1) ru
      · walk_at "q"
        exact no _ _ (by rw [if_neg]; simp; omega) (Gro.refl w1)
    · walk_at "q"
      refine q_tupRS r1 (.inl rfl) g1.w (fun G2 H2 p2 g2 r2 => ?_)
      walk_at "q"
      rw [fm_filt] at r2
      have g12 := g1.trans0 g2
      refine ⟨G2, v, .ref p2, c, ps.map (rowMD true), _, rfl, g2.w, hv.mono g12.g, by rw [List.length_map]; exact hcl, by rw [List.length_map]; exact hpl, r2, fun G3 H3 p3 g3 r3 => ?_⟩
      rw [show (.tuple ((r.filter fun m => decide (m.1 ≠ k)).map (msgD true)) : PyData) = rowMD true (r.filter fun m => decide (m.1 ≠ k)) from rfl, ← List.map_set] at r3
      walk_at "q"
      exact q _ _ p3 (g12.trans0 g3) r3
abbrev s_at_hand : Stmt := topS 35
abbrev N_at_hand : List Str := ["net", "world", "channel", "present"]
theorem sc_at_hand : FnScope N_at_hand ["net", "world", "channel"] (defScope s_at_hand) := ⟨rfl, rfl, rfl, by decide +kernel, rfl, by decide +kernel, by decide +kernel⟩
def sp_hand (K : PySem.W.Frag) (C : Addr) : Sp := fun vs H Q _ => ∃ (G : Hp) (a : Addr) (M : MN) (v : V) (b : Bool) (W : Wd) (c B : Nat), vs = [.ref a, v, .int (c : Int)] ∧ Ex G H ∧ NetAt K C G a M.N ∧ MNOk M ∧ Rp K G v (W.d b) ∧ WdOk M W B ∧ c < M.C.length ∧
  ∀ G2 H2 u, Gro none G H G2 H2 → Rp K G2 u (rowMD b (hand M W c)) → Q u H2
theorem c_at_hand {C f : Addr} {fd : FuncData} (F : FnP K "at_hand" s_at_hand f fd) (hm : mg "at_hand" = some (.ref f)) (B : Blt mg) (cs : Cst K mg) (nt : NtC K mg C) : Cal P w K mg base 1 "at_hand" ["net", "world", "channel"] (sp_hand K C) := by
  refine cal_of F hm sc_at_hand (fun _ _ _ _ _ _ _ us hl => match us, hl with | [_, _, _], _ => rfl) (fun vs H Q E h => ?_) (fun cdv A outer s H vs Q E hr h => ?_)
  · obtain ⟨_, _, _, _, _, _, _, _, rfl, _⟩ := h
    rfl
  · obtain ⟨G, a, M, v, b, W, c, BB, rfl, eG, hN, ok, hv, wok, hc, q⟩ := h
    have nd := sc_at_hand.nd
    refine ⟨_, [some _, some _, some _, none], ((pss_cons (ps_set (i := 3) nd rfl (Or.inl rfl) (pe_ix (ix_seqK (K := K) rfl) (pe_ix (ix_seqK (K := K) rfl) (pv 1) pe_int (fun _ _ => rfl)) (pv 2) (fun _ _ => rfl)))
      (pss_one (ps_ret (pe_ifExp (pt_cmpR (op_inB (K := K) rfl (hu65 hr)) (pe_ix (ix_seqK (K := K) rfl) (pe_ix (ix_seqK (K := K) rfl) (pe_fldK (K := K) rfl (pv 0)) (pv 2) (fun _ _ => rfl)) pe_int (fun _ _ => rfl)) (pe_gref (by rfl) cs.ORDERED) (by with_unfolding_all rfl)) (pe_slice (sl_anyK (K := K) rfl) (pv 3) po_none (po_some pe_int)) (pv 3)))))), rfl, ?_⟩
    walk_at "q"
    refine q_ixRS hv (sqD_seq b _) eG (atI_nat (j := 2) rfl) (fun v1 h1 => ?_)
    walk_at "q"
    refine q_ixRS h1 (sqD_seq b _) eG (wok.at2 hc b) (fun v2 h2 => ?_)
    walk_at "q"
    rename_i vc hvc
    refine q_ixRT hvc (by walk_at "ex") (MN.chan hc) (fun v3 h3 => ?_)
    walk_at "q"
    refine q_ixRT h3 (by walk_at "ex") (atI_nat (j := 3) rfl) (fun v4 h4 => ?_)
    walk_at "q"
    refine q_inT h4 (cs.ordered G) (by walk_at "ex") (kind_shp (by rw [← kindM_at hc]; exact kind_mem ok hc)) shp_ord.1 ?_
    walk_at "q"
    have eh : hand M W c = if ordd M.C[c].k then (rowM W c).take 1 else rowM W c := by
      unfold hand
      rw [kindM_at hc]
    refine q_ifb (fun h => ?_) (fun h => ?_)
    · rw [if_pos (show ordd M.C[c].k = true from h)] at eh
      walk_at "q"
      refine q_slTo (k := 1) (b := b) h2 (by walk_at "ex") (fun G2 H2 p2 g2 r2 => ?_)
      walk_at "q"
      refine q G2 H2 _ g2 ?_
      rw [eh, rowMD, List.map_take]
      exact r2
    · rw [if_neg (show ¬ ordd M.C[c].k = true by rw [show ordd M.C[c].k = false from h]; decide)] at eh
      walk_at "q"
      refine q G _ _ (Gro.refl (by walk_at "ex")) ?_
      rw [eh]
      exact h2
end
end Cw

set_option maxHeartbeats 4000000
namespace Cw
open PySem PySem.Spec PyProof.Rows L2
section
variable {P : Program} {w : World} {K : PySem.W.Frag} {mg : Str → Option Value} {base : Heap}
abbrev s_present_rows : Stmt := topS 38
abbrev N_present_rows : List Str := ["world", "row", "message"]
theorem sc_present_rows : FnScope N_present_rows ["world"] (defScope s_present_rows) := ⟨rfl, rfl, rfl, by decide +kernel, rfl, by decide +kernel, by decide +kernel⟩
def sp_prows (K : PySem.W.Frag) : Sp := fun vs H Q _ => ∃ (G : Hp) (v : V) (b : Bool) (W : Wd), vs = [v] ∧ Ex G H ∧ Rp K G v (W.d b) ∧ W.p.length ≤ 1000 ∧ (∀ r ∈ W.p, r.length ≤ 1000) ∧ ∀ G2 H2 p, Gro none G H G2 H2 → Rp K G2 (.ref p) (.tuple (W.p.map (rowMD true))) → Q (.ref p) H2
theorem c_present_rows {f : Addr} {fd : FuncData} (F : FnP K "present_rows" s_present_rows f fd) (hm : mg "present_rows" = some (.ref f)) (B : Blt mg) : Cal P w K mg base 1 "present_rows" ["world"] (sp_prows K) := by
  refine cal_of F hm sc_present_rows (fun _ _ _ _ _ _ _ us hl => match us, hl with | [_], _ => rfl) (fun vs H Q E h => ?_) (fun cdv A outer s H vs Q E hr h => ?_)
  · obtain ⟨_, _, _, _, rfl, _⟩ := h
    rfl
  · obtain ⟨G, v, b, W, rfl, eG, hv, hl, hb, q⟩ := h
    have nd := sc_present_rows.nd
    refine ⟨_, [some _, none, none], ((pss_one (ps_ret (pe_callTy (call_tupK (K := K) rfl) (by rfl) B.tuple_ bo_tuple (pa_cons (pe_lc (own := [("row", 1)]) rfl nd (pi_seqK (K := K) rfl (pe_ix (ix_seqK (K := K) rfl) (pv 0) pe_int (fun _ _ => rfl))) (blkOk_by (N := N_present_rows) (sc := defScope s_present_rows) (by decide +kernel)) (fun _ _ _ _ _ => (pg_name (i := 1) nd rfl (by first | exact Or.inl rfl | exact Or.inr rfl))) (fun _ _ _ _ _ => pts_nil) (fun _ _ _ _ _ => (pe_callTy (call_tupK (K := K) rfl) (by rfl) B.tuple_ bo_tuple (pa_cons (pe_lc (own := [("message", 2)]) rfl nd (pi_seqK (K := K) rfl (pv 1)) (blkOk_by (by kernel_rfl)) (fun _ _ _ _ _ => (pg_name (i := 2) nd rfl (by first | exact Or.inl rfl | exact Or.inr rfl))) (fun _ _ _ _ _ => pts_nil) (fun _ _ _ _ _ => (pe_callTy (call_tupK (K := K) rfl) (by rfl) B.tuple_ bo_tuple (pa_cons (pv 2) pa_nil)))) pa_nil)))) pa_nil))))), rfl, ?_⟩
    cases b
    · skip
      walk_at "q"
      refine q_lcL ?_
      walk_at "q"
      refine q_ixRS hv (sqD_seq false _) eG (atI_nat (j := 2) rfl) (fun v1 h1 => ?_)
      walk_at "q"
      refine q_fmL (h := rowMD false) (f := fun r => some (rowMD true r)) h1 eG (by omega) (fun i r u G' H' hr' gr ru C N yes no => ?_) (fun G1 H1 D g1 hD r1 => ?_)
      · have w1 := gr.w
        walk_at "q"
        refine ⟨rfl, ?_⟩
        walk_at "q"
        refine q_lcL ?_
        walk_at "q"
        refine q_fmL (h := msgD false) (f := fun m => some (msgD true m)) ru w1 (by have := hb r (List.mem_of_getElem? hr'); omega) (fun j m u2 G3 H3 hm2 gr3 ru2 C2 N2 yes2 no2 => ?_) (fun G3 H3 D3 g3 hD3 r3 => ?_)
        · have w3 := gr3.w
          walk_at "q"
          refine ⟨rfl, ?_⟩
          walk_at "q"
          refine q_tupRS ru2 (sqD_seq false _) w3 (fun G4 H4 p4 g4 r4 => ?_)
          exact yes2 _ _ _ _ rfl g4 r4
        · walk_at "q"
          refine q_tupRS r3 (.inl rfl) g3.w (fun G4 H4 p4 g4 r4 => ?_)
          rw [fm_map] at r4
          exact yes _ _ _ _ rfl (g3.trans0 g4) r4
      · walk_at "q"
        refine q_tupRS r1 (.inl rfl) g1.w (fun G2 H2 p2 g2 r2 => ?_)
        rw [fm_map] at r2
        walk_at "q"
        exact q _ _ p2 (g1.trans0 g2) r2
    · skip
      walk_at "q"
      refine q_lcT ?_
      walk_at "q"
      refine q_ixRS hv (sqD_seq true _) eG (atI_nat (j := 2) rfl) (fun v1 h1 => ?_)
      walk_at "q"
      refine q_fmT (h := rowMD true) (f := fun r => some (rowMD true r)) h1 eG (by omega) (fun i r u G' H' hr' gr ru C N yes no => ?_) (fun G1 H1 D g1 hD r1 => ?_)
      · have w1 := gr.w
        walk_at "q"
        refine ⟨rfl, ?_⟩
        walk_at "q"
        refine q_lcT ?_
        walk_at "q"
        refine q_fmT (h := msgD true) (f := fun m => some (msgD true m)) ru w1 (by have := hb r (List.mem_of_getElem? hr'); omega) (fun j m u2 G3 H3 hm2 gr3 ru2 C2 N2 yes2 no2 => ?_) (fun G3 H3 D3 g3 hD3 r3 => ?_)
        · have w3 := gr3.w
          walk_at "q"
          refine ⟨rfl, ?_⟩
          walk_at "q"
          refine q_tupRS ru2 (sqD_seq true _) w3 (fun G4 H4 p4 g4 r4 => ?_)
          exact yes2 _ _ _ _ rfl g4 r4
        · walk_at "q"
          refine q_tupRS r3 (.inl rfl) g3.w (fun G4 H4 p4 g4 r4 => ?_)
          rw [fm_map] at r4
          exact yes _ _ _ _ rfl (g3.trans0 g4) r4
      · walk_at "q"
        refine q_tupRS r1 (.inl rfl) g1.w (fun G2 H2 p2 g2 r2 => ?_)
        rw [fm_map] at r2
        walk_at "q"
        exact q _ _ p2 (g1.trans0 g2) r2
abbrev s_losses : Stmt := topS 34
abbrev N_losses : List Str := ["net", "world", "channel", "k", "_"]
theorem sc_losses : FnScope N_losses ["net", "world", "channel"] (defScope s_losses) := ⟨rfl, rfl, rfl, by decide +kernel, rfl, by decide +kernel, by decide +kernel⟩
def sp_losses (K : PySem.W.Frag) (C : Addr) : Sp := fun vs H Q _ => ∃ (G : Hp) (a : Addr) (M : MN) (v : V) (b : Bool) (W : Wd) (c B : Nat), vs = [.ref a, v, .int (c : Int)] ∧ Ex G H ∧ NetAt K C G a M.N ∧ MNOk M ∧ Rp K G v (W.d b) ∧ WdOk M W B ∧ B ≤ 1000 ∧ c < M.C.length ∧
  ∀ G2 H2 p, Gro none G H G2 H2 → Rp K G2 (.ref p) (.list ((lossesM M W c).map Deed.d)) → Q (.ref p) H2
theorem c_losses {C f : Addr} {fd : FuncData} (F : FnP K "losses" s_losses f fd) (hm : mg "losses" = some (.ref f)) (B : Blt mg) (cs : Cst K mg) (nt : NtC K mg C) (C_at_hand : Cal P w K mg base 1 "at_hand" ["net", "world", "channel"] (sp_hand K C)) : Cal P w K mg base 2 "losses" ["net", "world", "channel"] (sp_losses K C) := by
  refine cal_of F hm sc_losses (fun _ _ _ _ _ _ _ us hl => match us, hl with | [_, _, _], _ => rfl) (fun vs H Q E h => ?_) (fun cdv A outer s H vs Q E hr h => ?_)
  · obtain ⟨_, _, _, _, _, _, _, _, rfl, _⟩ := h
    rfl
  · obtain ⟨G, a, M, v, b, W, c, BB, rfl, eG, hN, ok, hv, wok, hB, hc, q⟩ := h
    have nd := sc_losses.nd
    refine ⟨_, [some _, some _, some _, none, none], ((pss_cons (ps_if (pt_cmpR (op_niB (K := K) rfl (hu65 hr)) (pe_ix (ix_seqK (K := K) rfl) (pe_ix (ix_seqK (K := K) rfl) (pe_fldK (K := K) rfl (pv 0)) (pv 2) (fun _ _ => rfl)) pe_int (fun _ _ => rfl)) (pe_gref (by rfl) cs.LOSSY) (by with_unfolding_all rfl)) (pss_one (ps_ret (pe_lst pa_nil))) pss_nil)
      (pss_one (ps_ret (pe_lc (own := [("k", 3), ("_", 4)]) rfl nd (pi_seqK (K := K) rfl (pe_callC C_at_hand (hr.mono (by omega)) (by rfl) (pa_cons (pv 0) (pa_cons (pv 1) (pa_cons (pv 2) pa_nil))))) (blkOk_by (N := N_losses) (sc := defScope s_losses) (by decide +kernel)) (fun _ _ _ _ _ => (pg_seqK (K := K) (n := 2) rfl rfl (pgs_cons (pg_name (i := 3) nd rfl (by first | exact Or.inl rfl | exact Or.inr rfl)) (pgs_cons (pg_name (i := 4) nd rfl (by first | exact Or.inl rfl | exact Or.inr rfl)) pgs_nil)))) (fun _ _ _ _ _ => pts_nil) (fun _ _ _ _ _ => (pe_tup (pa_cons pe_str (pa_cons (pv 2) (pa_cons (pv 3) pa_nil)))))))))), rfl, ?_⟩
    walk_at "q"
    rename_i vc hvc
    refine q_ixRT hvc (by walk_at "ex") (MN.chan hc) (fun v3 h3 => ?_)
    walk_at "q"
    refine q_ixRT h3 (by walk_at "ex") (atI_nat (j := 3) rfl) (fun v4 h4 => ?_)
    walk_at "q"
    refine q_niT h4 (cs.lossy G) (by walk_at "ex") (kind_shp (by rw [← kindM_at hc]; exact kind_mem ok hc)) shp_los.1 ?_
    walk_at "q"
    have el : lossesM M W c = if lossd M.C[c].k then (hand M W c).map (fun m => .lose c m.1) else [] := by
      unfold lossesM
      rw [kindM_at hc]
    refine q_ifb (fun h => ?_) (fun h => ?_)
    · have h0 : lossd M.C[c].k = false := by simpa using (show (!lossd M.C[c].k) = true from h)
      rw [if_neg (by rw [h0]; decide)] at el
      walk_at "q"
      rename_i p hp
      refine q _ _ p (Gro.new (by walk_at "ex") hp) ?_
      rw [el]
      exact .lst upd_same .nil
    · have h0 : lossd M.C[c].k = true := by simpa using (show (!lossd M.C[c].k) = false from h)
      rw [if_pos h0] at el
      walk_at "q"
      cases b
      · skip
        refine q_lcL ?_
        walk_at "q"
        refine ⟨G, a, M, v, false, W, c, BB, rfl, by walk_at "ex", hN, ok, hv, wok, hc, fun G2 H2 u2 g2 r2 => ?_⟩
        have w2 := g2.w
        refine q_fmL (h := msgD false) (f := fun m => some (Deed.lose c m.1).d) r2 w2 (by have := hand_len M W c; have := wok.row c; omega) (fun i m u G' H' hm' gr ru C N yes no => ?_) (fun G1 H1 D g1 hD r1 => ?_)
        · have w1 := gr.w
          refine q_gSeq ru (sqD_seq false _) w1 rfl (fun us hus => ?_)
          obtain ⟨u1, u3, rfl, e1, e3⟩ := rps2 hus
          obtain rfl := rp_nD e1
          walk_at "q"
          refine ⟨rfl, ?_⟩
          walk_at "q"
          rename_i p hp
          exact yes _ _ _ _ rfl (Gro.new w1 hp) (.tup (.inl (.inl upd_same)) (.cons (.str _) (.cons (.int _) (.cons (.int _) .nil))))
        · walk_at "q"
          rw [fm_map] at r1
          refine q _ _ D (((Gro.up eG (by walk_at "ex")).trans0 g2).trans0 g1) ?_
          rw [el, List.map_map]
          exact r1
      · skip
        refine q_lcT ?_
        walk_at "q"
        refine ⟨G, a, M, v, true, W, c, BB, rfl, by walk_at "ex", hN, ok, hv, wok, hc, fun G2 H2 u2 g2 r2 => ?_⟩
        have w2 := g2.w
        refine q_fmT (h := msgD true) (f := fun m => some (Deed.lose c m.1).d) r2 w2 (by have := hand_len M W c; have := wok.row c; omega) (fun i m u G' H' hm' gr ru C N yes no => ?_) (fun G1 H1 D g1 hD r1 => ?_)
        · have w1 := gr.w
          refine q_gSeq ru (sqD_seq true _) w1 rfl (fun us hus => ?_)
          obtain ⟨u1, u3, rfl, e1, e3⟩ := rps2 hus
          obtain rfl := rp_nD e1
          walk_at "q"
          refine ⟨rfl, ?_⟩
          walk_at "q"
          rename_i p hp
          exact yes _ _ _ _ rfl (Gro.new w1 hp) (.tup (.inl (.inl upd_same)) (.cons (.str _) (.cons (.int _) (.cons (.int _) .nil))))
        · walk_at "q"
          rw [fm_map] at r1
          refine q _ _ D (((Gro.up eG (by walk_at "ex")).trans0 g2).trans0 g1) ?_
          rw [el, List.map_map]
          exact r1
abbrev s_rule_deeds : Stmt := topS 33
abbrev N_rule_deeds : List Str := ["net", "world", "rule", "process", "state", "act", "_", "k", "token"]
theorem sc_rule_deeds : FnScope N_rule_deeds ["net", "world", "rule"] (defScope s_rule_deeds) := ⟨rfl, rfl, rfl, by decide +kernel, rfl, by decide +kernel, by decide +kernel⟩
def sp_rdeeds (K : PySem.W.Frag) (C : Addr) : Sp := fun vs H Q _ => ∃ (G : Hp) (a : Addr) (M : MN) (v : V) (b : Bool) (W : Wd) (r B : Nat), vs = [.ref a, v, .int (r : Int)] ∧ Ex G H ∧ NetAt K C G a M.N ∧ MNOk M ∧ Rp K G v (W.d b) ∧ WdOk M W B ∧ B ≤ 1000 ∧ r < M.R.length ∧
  ∀ G2 H2 p, Gro none G H G2 H2 → Rp K G2 (.ref p) (.list ((ruleM M W r).map Deed.d)) → Q (.ref p) H2
theorem c_rule_deeds {C f : Addr} {fd : FuncData} (F : FnP K "rule_deeds" s_rule_deeds f fd) (hm : mg "rule_deeds" = some (.ref f)) (B : Blt mg) (nt : NtC K mg C) (C_at_hand : Cal P w K mg base 1 "at_hand" ["net", "world", "channel"] (sp_hand K C)) : Cal P w K mg base 2 "rule_deeds" ["net", "world", "rule"] (sp_rdeeds K C) := by
  refine cal_of F hm sc_rule_deeds (fun _ _ _ _ _ _ _ us hl => match us, hl with | [_, _, _], _ => rfl) (fun vs H Q E h => ?_) (fun cdv A outer s H vs Q E hr h => ?_)
  · obtain ⟨_, _, _, _, _, _, _, _, rfl, _⟩ := h
    rfl
  · obtain ⟨G, a, M, v, b, W, r, BB, rfl, eG, hN, ok, hv, wok, hB, hrl, q⟩ := h
    have nd := sc_rule_deeds.nd
    refine ⟨_, [some _, some _, some _, none, none, none, none, none, none], ((pss_cons (ps_asg (pe_ix (ix_seqK (K := K) rfl) (pe_fldK (K := K) rfl (pv 0)) (pv 2) (fun _ _ => rfl)) (pg_seqK (K := K) (n := 4) rfl rfl (pgs_cons (pg_name (i := 3) nd rfl (by first | exact Or.inl rfl | exact Or.inr rfl)) (pgs_cons (pg_name (i := 4) nd rfl (by first | exact Or.inl rfl | exact Or.inr rfl)) (pgs_cons (pg_name (i := 5) nd rfl (Or.inr rfl)) (pgs_cons (pg_name (i := 6) nd rfl (by first | exact Or.inl rfl | exact Or.inr rfl)) pgs_nil))))))
      (pss_cons (ps_if (pt_cmpR (op_neK (K := K) rfl (hu64 hr)) (pe_ix (ix_seqK (K := K) rfl) (pe_ix (ix_seqK (K := K) rfl) (pv 1) pe_int (fun _ _ => rfl)) (pv 3) (fun _ _ => rfl)) (pv 4) (nomark _)) (pss_one (ps_ret (pe_lst pa_nil))) pss_nil)
      (pss_cons (ps_if (pt_cmpR (op_neK (K := K) rfl (hu64 hr)) (pe_ix (ix_seqK (K := K) rfl) (pv 5) pe_int (fun _ _ => rfl)) pe_str (nomark _)) (pss_one (ps_ret (pe_lst (pa_cons (pe_tup (pa_cons pe_str (pa_cons (pv 2) pa_nil))) pa_nil)))) pss_nil)
      (pss_one (ps_ret (pe_lc (own := [("k", 7), ("token", 8)]) rfl nd (pi_seqK (K := K) rfl (pe_callC C_at_hand (hr.mono (by omega)) (by rfl) (pa_cons (pv 0) (pa_cons (pv 1) (pa_cons (pe_ix (ix_seqK (K := K) rfl) (pv 5) pe_int (fun _ _ => rfl)) pa_nil))))) (blkOk_by (N := N_rule_deeds) (sc := defScope s_rule_deeds) (by decide +kernel)) (fun _ _ _ _ _ => (pg_seqK (K := K) (n := 2) rfl rfl (pgs_cons (pg_name (i := 7) nd rfl (by first | exact Or.inl rfl | exact Or.inr rfl)) (pgs_cons (pg_name (i := 8) nd rfl (by first | exact Or.inl rfl | exact Or.inr rfl)) pgs_nil)))) (fun _ _ _ _ _ => (pts_one (pt_cmpR (op_eqK (K := K) rfl (hu64 hr)) (pv 8) (pe_ix (ix_seqK (K := K) rfl) (pv 5) pe_int (fun _ _ => rfl)) (nomark _)))) (fun _ _ _ _ _ => (pe_tup (pa_cons pe_str (pa_cons (pv 2) (pa_cons (pv 7) pa_nil)))))))))))), rfl, ?_⟩
    walk_at "q"
    rename_i vc hvc
    refine q_ixRT hvc (by walk_at "ex") (MN.rule hrl) (fun v3 h3 => ?_)
    refine q_gSeq h3 (.inr rfl) (by walk_at "ex") rfl (fun us hus => ?_)
    obtain ⟨u1, u2, u3, u4, rfl, h1, h2, h5, h6⟩ := rps4 hus
    obtain rfl := rp_nD h1
    obtain rfl := rp_nD h2
    obtain ⟨hp, hcc⟩ := ok.ru _ (List.getElem_mem hrl)
    have hps : M.R[r].p < W.s.length := by rw [wok.ls]; exact hp
    have er : ruleM M W r = if W.s[M.R[r].p]? = some M.R[r].s then (match M.R[r].a with
      | .take c k => takesM M W r c k
      | _ => [.act r]) else [] := by
      unfold ruleM
      rw [List.getElem?_eq_getElem hrl] <;> rfl
    walk_at "q"
    refine q_ixRS hv (sqD_seq b _) (by walk_at "ex") (atI_nat (j := 0) rfl) (fun v7 h7 => ?_)
    walk_at "q"
    refine q_ixRS h7 (sqD_seq b _) (by walk_at "ex") (at_map hps) (fun v8 h8 => ?_)
    obtain rfl := rp_nD h8
    walk_at "q"
    refine q_ifnd (fun h => ?_) (fun h => ?_)
    · rw [if_neg (by rw [List.getElem?_eq_getElem hps]; intro z; exact h (by have := Option.some.inj z; omega))] at er
      walk_at "q"
      rename_i p hp
      refine q _ _ p (Gro.new (by walk_at "ex") hp) ?_
      rw [er]
      exact .lst upd_same .nil
    · have h' : W.s[M.R[r].p] = M.R[r].s := by omega
      rw [if_pos (by rw [List.getElem?_eq_getElem hps, h'])] at er
      walk_at "q"
      generalize ea : M.R[r].a = ac at er h5 hcc
      cases ac with
      | do_ =>
        have er2 : ruleM M W r = [.act r] := er
        refine q_ixRT h5 (by walk_at "ex") (atI_nat (j := 0) rfl) (fun v9 h9 => ?_)
        cases h9
        walk_at "q"
        rename_i p1 hp1 p2 hp2
        refine q _ _ p2 ((Gro.new (by walk_at "ex") hp1).trans0 (Gro.new (Gro.new (by walk_at "ex") hp1).w hp2)) ?_
        rw [er2]
        exact .lst upd_same (.cons (.tup (.inl (.inl (upd_old upd_same ((Gro.new (by walk_at "ex") hp1).w.back hp2)))) (.cons (.str _) (.cons (.int _) .nil))) .nil)
      | send c k =>
        have er2 : ruleM M W r = [.act r] := er
        refine q_ixRT h5 (by walk_at "ex") (atI_nat (j := 0) rfl) (fun v9 h9 => ?_)
        cases h9
        walk_at "q"
        rename_i p1 hp1 p2 hp2
        refine q _ _ p2 ((Gro.new (by walk_at "ex") hp1).trans0 (Gro.new (Gro.new (by walk_at "ex") hp1).w hp2)) ?_
        rw [er2]
        exact .lst upd_same (.cons (.tup (.inl (.inl (upd_old upd_same ((Gro.new (by walk_at "ex") hp1).w.back hp2)))) (.cons (.str _) (.cons (.int _) .nil))) .nil)
      | take c k =>
        have er2 : ruleM M W r = takesM M W r c k := er
        have hcl := hcc c k (.inr rfl)
        refine q_ixRT h5 (by walk_at "ex") (atI_nat (j := 0) rfl) (fun v9 h9 => ?_)
        cases h9
        walk_at "q"
        cases b
        · skip
          refine q_lcL ?_
          walk_at "q"
          refine q_ixRT h5 (by walk_at "ex") (atI_nat (j := 1) rfl) (fun v9 h9 => ?_)
          cases h9
          walk_at "q"
          refine ⟨G, a, M, v, false, W, c, BB, rfl, by walk_at "ex", hN, ok, hv, wok, hcl, fun G2 H2 u2 g2 r2 => ?_⟩
          have w2 := g2.w
          refine q_fmL (h := msgD false) (f := fun m => if decide (m.2 = k) then some (Deed.take r m.1).d else none) r2 w2 (by have := hand_len M W c; have := wok.row c; omega) (fun i m u G' H' hm' gr ru C N yes no => ?_) (fun G1 H1 D g1 hD r1 => ?_)
          · have w1 := gr.w
            refine q_gSeq ru (sqD_seq false _) w1 rfl (fun us hus => ?_)
            obtain ⟨u1, u3, rfl, e1, e3⟩ := rps2 hus
            obtain rfl := rp_nD e1
            obtain rfl := rp_nD e3
            walk_at "q"
            refine ⟨rfl, ?_⟩
            walk_at "q"
            refine q_ixRT (h5.mono (g2.g.trans gr.g)) w1 (atI_nat (j := 2) rfl) (fun v10 h10 => ?_)
            cases h10
            walk_at "q"
            refine q_ifd (fun h => ?_) (fun h => ?_)
            · have hk : m.2 = k := by omega
              walk_at "q"
              rename_i p hp
              exact yes _ _ _ _ (by rw [hk]; simp; rfl) (Gro.new w1 hp) (.tup (.inl (.inl upd_same)) (.cons (.str _) (.cons (.int _) (.cons (.int _) .nil))))
            · walk_at "q"
              exact no _ _ (by rw [if_neg]; simp; omega) (Gro.refl w1)
          · walk_at "q"
            rw [fm_filt] at r1
            refine q _ _ D (((Gro.up eG (by walk_at "ex")).trans0 g2).trans0 g1) ?_
            rw [er2, takesM, List.map_map]
            exact r1
        · skip
          refine q_lcT ?_
          walk_at "q"
          refine q_ixRT h5 (by walk_at "ex") (atI_nat (j := 1) rfl) (fun v9 h9 => ?_)
          cases h9
          walk_at "q"
          refine ⟨G, a, M, v, true, W, c, BB, rfl, by walk_at "ex", hN, ok, hv, wok, hcl, fun G2 H2 u2 g2 r2 => ?_⟩
          have w2 := g2.w
          refine q_fmT (h := msgD true) (f := fun m => if decide (m.2 = k) then some (Deed.take r m.1).d else none) r2 w2 (by have := hand_len M W c; have := wok.row c; omega) (fun i m u G' H' hm' gr ru C N yes no => ?_) (fun G1 H1 D g1 hD r1 => ?_)
          · have w1 := gr.w
            refine q_gSeq ru (sqD_seq true _) w1 rfl (fun us hus => ?_)
            obtain ⟨u1, u3, rfl, e1, e3⟩ := rps2 hus
            obtain rfl := rp_nD e1
            obtain rfl := rp_nD e3
            walk_at "q"
            refine ⟨rfl, ?_⟩
            walk_at "q"
            refine q_ixRT (h5.mono (g2.g.trans gr.g)) w1 (atI_nat (j := 2) rfl) (fun v10 h10 => ?_)
            cases h10
            walk_at "q"
            refine q_ifd (fun h => ?_) (fun h => ?_)
            · have hk : m.2 = k := by omega
              walk_at "q"
              rename_i p hp
              exact yes _ _ _ _ (by rw [hk]; simp; rfl) (Gro.new w1 hp) (.tup (.inl (.inl upd_same)) (.cons (.str _) (.cons (.int _) (.cons (.int _) .nil))))
            · walk_at "q"
              exact no _ _ (by rw [if_neg]; simp; omega) (Gro.refl w1)
          · walk_at "q"
            rw [fm_filt] at r1
            refine q _ _ D (((Gro.up eG (by walk_at "ex")).trans0 g2).trans0 g1) ?_
            rw [er2, takesM, List.map_map]
            exact r1
end
end Cw

set_option maxHeartbeats 4000000
namespace Cw
open PySem PySem.Spec PyProof.Rows L2
section
variable {P : Program} {w : World} {K : PySem.W.Frag} {mg : Str → Option Value} {base : Heap}
abbrev s_can_be_done : Stmt := topS 37
abbrev N_can_be_done : List Str := ["net", "world", "deed"]
theorem sc_can_be_done : FnScope N_can_be_done ["net", "world", "deed"] (defScope s_can_be_done) := ⟨rfl, rfl, rfl, by decide +kernel, rfl, by decide +kernel, by decide +kernel⟩
theorem shp_tup {d : PyData} {ds : List PyData} (hs : Seq d ds) (h : Shp d) : Shp (.tuple ds) := by
  rcases hs with rfl | rfl
  · have h1 := shp_len (.inl rfl) h
    unfold Shp at h
    rw [okD] at h
    have h2 := List.all_eq_true.mp (bA h).2
    unfold Shp
    rw [okD, decide_eq_true h1, Bool.true_and, List.all_eq_true]
    exact h2
  · exact h
theorem okD_two (x : Str) (hx : okD 0 (.str x) = true) (r : Nat) : okD 1 (.tuple [.str x, nD r]) = true := by
  refine okD_tup (by simp) fun d hd => ?_
  simp only [List.mem_cons, List.mem_nil_iff, or_false] at hd
  rcases hd with rfl | rfl
  · exact hx
  · exact okD_int _ _
theorem okD_thr (x : Str) (hx : okD 0 (.str x) = true) (r k : Nat) : okD 1 (.tuple [.str x, nD r, nD k]) = true := by
  refine okD_tup (by simp) fun d hd => ?_
  simp only [List.mem_cons, List.mem_nil_iff, or_false] at hd
  rcases hd with rfl | rfl | rfl
  · exact hx
  · exact okD_int _ _
  · exact okD_int _ _
theorem okD_deed (D : Deed) : okD 1 D.d = true := by
  cases D with
  | act r => exact okD_two _ (by decide +kernel) _
  | take r k => exact okD_thr _ (by decide +kernel) _ _
  | lose r k => exact okD_thr _ (by decide +kernel) _ _
theorem shp_deeds (l : List Deed) (h : l.length ≤ 100000) : Shp (.list (l.map Deed.d)) := by
  refine shp_list (okD_le (n := 2) (okD_tup (by rw [List.length_map]; exact h) fun d hd => ?_) (by decide))
  obtain ⟨D, _, rfl⟩ := List.mem_map.mp hd
  exact okD_deed D
/-- whether the value is a deed that can be done -/
def canD (M : MN) (W : Wd) (d : PyData) : Bool := isDeedD M.N d && (if PyData.eqv (atD d 0) (.str "lose") then ((lossesM M W (natD (atD d 1))).map Deed.d).any fun z => PyData.eqv z (.tuple (itemsD d)) else ((ruleM M W (natD (atD d 1))).map Deed.d).any fun z => PyData.eqv z (.tuple (itemsD d)))
def sp_can (K : PySem.W.Frag) (C : Addr) : Sp := fun vs H Q _ => ∃ (G : Hp) (a : Addr) (M : MN) (v : V) (b : Bool) (W : Wd) (B : Nat) (u : V) (d : PyData), vs = [.ref a, v, u] ∧ Ex G H ∧ NetAt K C G a M.N ∧ MNOk M ∧ NOk M.N ∧ Rp K G v (W.d b) ∧ WdOk M W B ∧ B ≤ 1000 ∧ Rp K G u d ∧ Shp d ∧
  ∀ H', Ex H H' → Q (.bl (canD M W d)) H'
theorem c_can {C f : Addr} {fd : FuncData} (F : FnP K "can_be_done" s_can_be_done f fd) (hm : mg "can_be_done" = some (.ref f)) (B : Blt mg) (C_is_deed : Cal P w K mg base 4 "is_deed" ["net", "deed"] (spNetB K C isDeedD)) (C_rule_deeds : Cal P w K mg base 2 "rule_deeds" ["net", "world", "rule"] (sp_rdeeds K C)) (C_losses : Cal P w K mg base 2 "losses" ["net", "world", "channel"] (sp_losses K C)) :
    Cal P w K mg base 5 "can_be_done" ["net", "world", "deed"] (sp_can K C) := by
  refine cal_of F hm sc_can_be_done (fun _ _ _ _ _ _ _ us hl => match us, hl with | [_, _, _], _ => rfl) (fun vs H Q E h => ?_) (fun cdv A outer s H vs Q E hr h => ?_)
  · obtain ⟨_, _, _, _, _, _, _, _, _, rfl, _⟩ := h
    rfl
  · obtain ⟨G, a, M, v, b, W, BB, u, d, rfl, eG, hN, ok, nok, hv, wok, hB, hv2, hd, q⟩ := h
    have nd := sc_can_be_done.nd
    refine ⟨_, [some _, some _, some _], ((pss_cons (ps_if (pt_not (pt_val (pe_callC C_is_deed (hr.mono (by omega)) (by rfl) (pa_cons (pv 0) (pa_cons (pv 2) pa_nil))))) (pss_one (ps_ret pe_bl)) pss_nil)
      (pss_cons (ps_if (pt_cmpR (op_eqK (K := K) rfl (hu64 hr)) (pe_ix (ix_seqK (K := K) rfl) (pv 2) pe_int (fun _ _ => rfl)) pe_str (nomark _)) (pss_one (ps_ret (pe_cmpR (op_inB (K := K) rfl (hu65 hr)) (pe_callTy (call_tupK (K := K) rfl) (by rfl) B.tuple_ bo_tuple (pa_cons (pv 2) pa_nil)) (pe_callC C_losses (hr.mono (by omega)) (by rfl) (pa_cons (pv 0) (pa_cons (pv 1) (pa_cons (pe_ix (ix_seqK (K := K) rfl) (pv 2) pe_int (fun _ _ => rfl)) pa_nil)))) (by with_unfolding_all rfl)))) pss_nil)
      (pss_one (ps_ret (pe_cmpR (op_inB (K := K) rfl (hu65 hr)) (pe_callTy (call_tupK (K := K) rfl) (by rfl) B.tuple_ bo_tuple (pa_cons (pv 2) pa_nil)) (pe_callC C_rule_deeds (hr.mono (by omega)) (by rfl) (pa_cons (pv 0) (pa_cons (pv 1) (pa_cons (pe_ix (ix_seqK (K := K) rfl) (pv 2) pe_int (fun _ _ => rfl)) pa_nil)))) (by with_unfolding_all rfl))))))), rfl, ?_⟩
    walk_at "q"
    refine ⟨G, a, M.N, u, d, rfl, eG, hN, nok, hv2, hd, fun H0 e0 => ?_⟩
    have e1 := eG.trans e0
    walk_at "q"
    refine q_ifb (fun h => ?_) (fun h => ?_)
    · walk_at "q"
      exact q_bt' (by rw [canD, show isDeedD M.N d = false by simpa using h, Bool.false_and]) (q _ e0)
    · have h' : isDeedD M.N d = true := by simpa using h
      walk_at "q"
      rcases deed_is h' with ⟨x0, k, r, hk, hs, hl⟩ | ⟨x0, k, r, hk, hs, hl⟩
      · have h0 := shp_mem hs hd x0 (by simp)
        refine q_ixRS hv2 hs e1 (atI_nat (j := 0) rfl) (fun u0 hu0 => ?_)
        walk_at "q"
        refine q_eqR hu0 (.str _) e1 h0 (shp_word (by decide +kernel)) ?_
        walk_at "q"
        refine q_ifFa hl ?_
        walk_at "q"
        refine q_tupRS hv2 hs (by walk_at "ex") (fun G1 H1 p1 g1 r1 => ?_)
        walk_at "q"
        refine q_ixRS (hv2.mono g1.g) hs g1.w (atI_nat (j := 1) rfl) (fun u1 hu1 => ?_)
        cases hu1
        walk_at "q"
        refine ⟨G1, a, M, v, b, W, k, BB, rfl, g1.w, hN.mono g1.g, ok, hv.mono g1.g, wok, hB, by simpa [MN.N] using hk, fun G2 H2 p2 g2 r2 => ?_⟩
        walk_at "q"
        refine q_inL (r1.mono g2.g) r2 g2.w (shp_tup hs hd) (shp_deeds _ (by have := rule_len wok k; omega)) ?_
        refine q_bt' ?_ (q _ (Ex.trans (by walk_at "ex") (g1.ex.trans g2.ex)))
        rw [canD, h', Bool.true_and, show atD d 0 = x0 from Seq.at hs 0, show atD d 1 = .int k from Seq.at hs 1, Seq.it hs, hl]
        rfl
      · have h0 := shp_mem hs hd x0 (by simp)
        refine q_ixRS hv2 hs e1 (atI_nat (j := 0) rfl) (fun u0 hu0 => ?_)
        walk_at "q"
        refine q_eqR hu0 (.str _) e1 h0 (shp_word (by decide +kernel)) ?_
        walk_at "q"
        refine q_ifTr hl ?_
        walk_at "q"
        refine q_tupRS hv2 hs (by walk_at "ex") (fun G1 H1 p1 g1 r1 => ?_)
        walk_at "q"
        refine q_ixRS (hv2.mono g1.g) hs g1.w (atI_nat (j := 1) rfl) (fun u1 hu1 => ?_)
        cases hu1
        walk_at "q"
        refine ⟨G1, a, M, v, b, W, k, BB, rfl, g1.w, hN.mono g1.g, ok, hv.mono g1.g, wok, hB, by simpa [MN.N] using hk, fun G2 H2 p2 g2 r2 => ?_⟩
        walk_at "q"
        refine q_inL (r1.mono g2.g) r2 g2.w (shp_tup hs hd) (shp_deeds _ (by have := losses_len wok k; omega)) ?_
        refine q_bt' ?_ (q _ (Ex.trans (by walk_at "ex") (g1.ex.trans g2.ex)))
        rw [canD, h', Bool.true_and, show atD d 0 = x0 from Seq.at hs 0, show atD d 1 = .int k from Seq.at hs 1, Seq.it hs, hl]
        rfl
end
end Cw

set_option maxHeartbeats 4000000
namespace Cw
open PySem PySem.Spec PyProof.Rows L2
section
variable {P : Program} {w : World} {K : PySem.W.Frag} {mg : Str → Option Value} {base : Heap}
abbrev s_done : Stmt := topS 36
abbrev N_done : List Str := ["net", "world", "deed", "states", "sent", "present", "process", "_", "act", "then", "messages"]
theorem sc_done : FnScope N_done ["net", "world", "deed"] (defScope s_done) := ⟨rfl, rfl, rfl, by decide +kernel, rfl, by decide +kernel, by decide +kernel⟩
theorem deed_form2 {M : MN} {d : PyData} (h : isDeedD M.N d = true) : (∃ r : Nat, r < M.R.length ∧ Seq d [.str "act", nD r] ∧ ∀ c k, (M.R[r]?.map Rul.a) ≠ some (.take c k)) ∨ (∃ r k c t : Nat, r < M.R.length ∧ Seq d [.str "take", nD r, nD k] ∧ (M.R[r]?.map Rul.a) = some (.take c t)) ∨ (∃ c k : Nat, c < M.C.length ∧ Seq d [.str "lose", nD c, nD k]) := by
  have hd := h
  have wd : ∀ {r : Nat} (hr : r < M.R.length), wordD M.N (nD r) = atD (M.R[r].a.d) 0 := fun {r} hr => by
    have hr2 : r < M.N.r.length := by show r < (M.R.map Rul.d).length; rw [List.length_map]; exact hr
    rw [wordD, show isBelow M.N.r.length (nD r) = true from below_of (by omega) (by omega), if_pos rfl]
    show atD (atD (M.N.r.getD r .none) 2) 0 = _
    rw [List.getD_eq_getElem?_getD]
    show atD (atD (((M.R.map Rul.d)[r]?).getD .none) 2) 0 = _
    rw [List.getElem?_map, List.getElem?_eq_getElem hr] <;> rfl
  unfold isDeedD at h
  by_cases r2 : isRow 2 d = true
  · rw [if_pos r2] at h
    obtain ⟨x0, x1, hs⟩ := row2 r2
    rcases deed_is hd with ⟨y0, k, r, hk, hs2, _⟩ | ⟨y0, k, r, hk, hs2, hl⟩
    · have hk' : k < M.R.length := by simpa [MN.N] using hk
      have e := (Seq.items hs2).symm.trans (Seq.items hs)
      cases e
      rw [show atD d 0 = x0 from Seq.at hs 0, show atD d 1 = .int k from Seq.at hs 1] at h
      obtain ⟨h1, h2⟩ := bA h
      obtain rfl := eqv_str h1
      refine .inl ⟨k, hk', hs, fun c t z => ?_⟩
      rw [List.getElem?_eq_getElem hk'] at z
      have z2 : M.R[k].a = .take c t := Option.some.inj z
      rw [show wordD M.N (.int (k : Int)) = _ from wd hk', z2] at h2
      revert h2
      show ([PyData.str "do", .str "send"].any fun k => PyData.eqv k (.str "take")) = true → False
      decide +kernel
    · have e := (Seq.items hs2).symm.trans (Seq.items hs)
      cases e
      rw [show atD d 0 = x0 from Seq.at hs 0] at h
      obtain ⟨h1, h2⟩ := bA h
      obtain rfl := eqv_str h1
      exact absurd hl (by decide +kernel)
  · rw [if_neg r2] at h
    by_cases z : (!isRow 3 d || !isNum (atD d 2)) = true
    · rw [if_pos z] at h
      cases h
    · rw [if_neg z] at h
      have r3 : isRow 3 d = true := by
        cases y : isRow 3 d with
        | true => rfl
        | false => simp [y] at z
      obtain ⟨x0, x1, x2, hs⟩ := row3 r3
      have n2 : isNum x2 = true := by
        rw [r3, show atD d 2 = x2 from Seq.at hs 2] at z
        simpa using z
      obtain ⟨m, rfl⟩ : ∃ m : Nat, x2 = nD m := by
        cases x2 with
        | int i =>
          obtain ⟨m, rfl⟩ := Int.eq_ofNat_of_zero_le (of_decide_eq_true n2)
          exact ⟨m, rfl⟩
        | _ => cases n2
      rw [show atD d 0 = x0 from Seq.at hs 0, show atD d 1 = x1 from Seq.at hs 1] at h
      rcases deed_is hd with ⟨y0, k, r, hk, hs2, hl⟩ | ⟨y0, k, r, hk, hs2, hl⟩
      · have hk' : k < M.R.length := by simpa [MN.N] using hk
        have e := (Seq.items hs2).symm.trans (Seq.items hs)
        cases e
        by_cases t : PyData.eqv x0 (.str "take") = true
        · rw [if_pos t, show wordD M.N (.int (k : Int)) = _ from wd hk'] at h
          obtain rfl := eqv_str t
          generalize ea : M.R[k].a = ac at h
          cases ac with
          | take c t => exact .inr (.inl ⟨k, m, c, t, hk', hs, by rw [List.getElem?_eq_getElem hk']; show some M.R[k].a = _; rw [ea]⟩)
          | do_ => exact absurd h (by show ¬ PyData.eqv (.str "do") (.str "take") = true; decide +kernel)
          | send c t => exact absurd h (by show ¬ PyData.eqv (.str "send") (.str "take") = true; decide +kernel)
        · rw [if_neg t] at h
          rw [(bA h).1] at hl
          cases hl
      · have hk' : k < M.C.length := by simpa [MN.N] using hk
        have e := (Seq.items hs2).symm.trans (Seq.items hs)
        cases e
        obtain rfl := eqv_str hl
        exact .inr (.inr ⟨k, m, hk', hs⟩)
def sp_done (K : PySem.W.Frag) (C CS : Addr) : Sp := fun vs H Q E => ∃ (G : Hp) (a : Addr) (M : MN) (v : V) (b : Bool) (W : Wd) (B : Nat) (u : V) (d : PyData), vs = [.ref a, v, u] ∧ Ex G H ∧ NetAt K C G a M.N ∧ MNOk M ∧ NOk M.N ∧ Rp K G v (W.d b) ∧ WdOk M W B ∧ B ≤ 900 ∧ Rp K G u d ∧ Shp d ∧
  (canD M W d = true → ∀ (D : Deed) G2 H2 p, Seq d D.ps → Gro none G H G2 H2 → Rp K G2 (.ref p) ((stepM M W D).d true) → Q (.ref p) H2) ∧ (canD M W d = false → ∀ H1 dd, Ex H H1 → H1 dd = none → E (.ref CS) (some dd) (L2.upd H1 dd (.xd [("at", .int 0)])))
theorem fn_done {C CS f : Addr} {fd : FuncData} (F : FnP K "done" s_done f fd) (B : Blt mg) (nt : NtC K mg C) (T_BadStep : Xn K mg "BadStep" "at" CS) (C_can_be_done : Cal P w K mg base 5 "can_be_done" ["net", "world", "deed"] (sp_can K C)) (C_present_rows : Cal P w K mg base 1 "present_rows" ["world"] (sp_prows K))
    (C_without : Cal P w K mg base 2 "without" ["present", "channel", "gone"] (sp_without K)) (C_changed : Cal P w K mg base 1 "changed" ["row", "at", "value"] (sp_changed K)) : FnOk P w K mg base (L2.CX P w) 6 f fd ["net", "world", "deed"] (sp_done K C CS) := by
  refine fnokX_of F sc_done (fun vs H Q E h => ?_) (fun cdv A outer s H vs Q E hr h => ?_)
  · obtain ⟨_, _, _, _, _, _, _, _, _, rfl, _⟩ := h
    rfl
  · obtain ⟨G, a, M, v, b, W, BB, u, d, rfl, eG, hN, ok, nok, hv, wok, hB, hv2, hd, yes, no⟩ := h
    have nd := sc_done.nd
    refine ⟨_, [some _, some _, some _, none, none, none, none, none, none, none, none], ((pss_cons (ps_if (pt_not (pt_val (pe_callC C_can_be_done (hr.mono (by omega)) (by rfl) (pa_cons (pv 0) (pa_cons (pv 1) (pa_cons (pv 2) pa_nil)))))) (pss_one (ps_raiseX rfl T_BadStep hr (takes_of rfl rfl rfl rfl) (pa_cons pe_int pa_nil) (by rfl))) pss_nil)
      (pss_cons (ps_par3 (i := 3) (j := 4) (l := 5) rfl nd rfl rfl rfl (by decide) (by decide) (by decide) rfl rfl rfl (pa_cons (pe_callTy (call_tupK (K := K) rfl) (by rfl) B.tuple_ bo_tuple (pa_cons (pe_ix (ix_seqK (K := K) rfl) (pv 1) pe_int (fun _ _ => rfl)) pa_nil)) (pa_cons (pe_callTy (call_tupK (K := K) rfl) (by rfl) B.tuple_ bo_tuple (pa_cons (pe_ix (ix_seqK (K := K) rfl) (pv 1) pe_int (fun _ _ => rfl)) pa_nil)) (pa_cons (pe_callC C_present_rows (hr.mono (by omega)) (by rfl) (pa_cons (pv 1) pa_nil)) pa_nil))) (by rfl))
      (pss_cons (ps_if (pt_cmpR (op_eqK (K := K) rfl (hu64 hr)) (pe_ix (ix_seqK (K := K) rfl) (pv 2) pe_int (fun _ _ => rfl)) pe_str (nomark _)) (pss_one (ps_ret (pe_tup (pa_cons (pv 3) (pa_cons (pv 4) (pa_cons (pe_callC C_without (hr.mono (by omega)) (by rfl) (pa_cons (pv 5) (pa_cons (pe_ix (ix_seqK (K := K) rfl) (pv 2) pe_int (fun _ _ => rfl)) (pa_cons (pe_ix (ix_seqK (K := K) rfl) (pv 2) pe_int (fun _ _ => rfl)) pa_nil)))) pa_nil)))))) pss_nil)
      (pss_cons (ps_asg (pe_ix (ix_seqK (K := K) rfl) (pe_fldK (K := K) rfl (pv 0)) (pe_ix (ix_seqK (K := K) rfl) (pv 2) pe_int (fun _ _ => rfl)) (fun _ _ => rfl)) (pg_seqK (K := K) (n := 4) rfl rfl (pgs_cons (pg_name (i := 6) nd rfl (by first | exact Or.inl rfl | exact Or.inr rfl)) (pgs_cons (pg_name (i := 7) nd rfl (by first | exact Or.inl rfl | exact Or.inr rfl)) (pgs_cons (pg_name (i := 8) nd rfl (by first | exact Or.inl rfl | exact Or.inr rfl)) (pgs_cons (pg_name (i := 9) nd rfl (by first | exact Or.inl rfl | exact Or.inr rfl)) pgs_nil))))))
      (pss_cons (ps_set (i := 3) nd rfl (Or.inl rfl) (pe_callC C_changed (hr.mono (by omega)) (by rfl) (pa_cons (pv 3) (pa_cons (pv 6) (pa_cons (pv 9) pa_nil)))))
      (pss_cons (ps_if (pt_cmpR (op_eqK (K := K) rfl (hu64 hr)) (pe_ix (ix_seqK (K := K) rfl) (pv 8) pe_int (fun _ _ => rfl)) pe_str (nomark _)) (pss_cons (ps_set (i := 10) nd rfl (Or.inl rfl) (pe_tup (pa_starK (K := K) rfl (pe_ix (ix_seqK (K := K) rfl) (pv 5) (pe_ix (ix_seqK (K := K) rfl) (pv 8) pe_int (fun _ _ => rfl)) (fun _ _ => rfl)) (pa_cons (pe_tup (pa_cons (pe_ix (ix_seqK (K := K) rfl) (pv 4) (pe_ix (ix_seqK (K := K) rfl) (pv 8) pe_int (fun _ _ => rfl)) (fun _ _ => rfl)) (pa_cons (pe_ix (ix_seqK (K := K) rfl) (pv 8) pe_int (fun _ _ => rfl)) pa_nil))) pa_nil))))
      (pss_one (ps_ret (pe_tup (pa_cons (pv 3) (pa_cons (pe_callC C_changed (hr.mono (by omega)) (by rfl) (pa_cons (pv 4) (pa_cons (pe_ix (ix_seqK (K := K) rfl) (pv 8) pe_int (fun _ _ => rfl)) (pa_cons (pe_op (op_addK (K := K) rfl) (pe_ix (ix_seqK (K := K) rfl) (pv 4) (pe_ix (ix_seqK (K := K) rfl) (pv 8) pe_int (fun _ _ => rfl)) (fun _ _ => rfl)) pe_int) pa_nil)))) (pa_cons (pe_callC C_changed (hr.mono (by omega)) (by rfl) (pa_cons (pv 5) (pa_cons (pe_ix (ix_seqK (K := K) rfl) (pv 8) pe_int (fun _ _ => rfl)) (pa_cons (pv 10) pa_nil)))) pa_nil))))))) pss_nil)
      (pss_cut (ps_if (pt_cmpR (op_eqK (K := K) rfl (hu64 hr)) (pe_ix (ix_seqK (K := K) rfl) (pv 8) pe_int (fun _ _ => rfl)) pe_str (nomark _)) (pss_one (ps_set (i := 5) nd rfl (Or.inl rfl) (pe_callC C_without (hr.mono (by omega)) (by rfl) (pa_cons (pv 5) (pa_cons (pe_ix (ix_seqK (K := K) rfl) (pv 8) pe_int (fun _ _ => rfl)) (pa_cons (pe_ix (ix_seqK (K := K) rfl) (pv 2) pe_int (fun _ _ => rfl)) pa_nil)))))) pss_nil)
      (pss_one (ps_ret (pe_tup (pa_cons (pv 3) (pa_cons (pv 4) (pa_cons (pv 5) pa_nil)))))))))))))), rfl, ?_⟩
    walk_at "q"
    refine ⟨G, a, M, v, b, W, BB, u, d, rfl, eG, hN, ok, nok, hv, wok, by omega, hv2, hd, fun H0 e0 => ?_⟩
    walk_at "q"
    refine q_ifb (fun h => ?_) (fun h => ?_)
    · walk_at "q"
      exact fun dd hdd => no (by simpa using h) _ dd e0 hdd
    have h' : canD M W d = true := by simpa using h
    have yes' := yes h'
    clear yes no h
    have e1 := eG.trans e0
    have lsW : W.s.length ≤ 1000 := by rw [wok.ls]; have := ok.lp; omega
    have lnW : W.n.length ≤ 1000 := by rw [wok.ln]; have := ok.lc; omega
    have lpW : W.p.length ≤ 1000 := by rw [wok.lp]; have := ok.lc; omega
    walk_at "q"
    refine q_ixRS hv (sqD_seq b _) e1 (atI_nat (j := 0) rfl) (fun v1 h1 => ?_)
    walk_at "q"
    refine q_tupRS h1 (sqD_seq b _) e1 (fun G1 H1 p1 g1 r1 => ?_)
    walk_at "q"
    refine q_ixRS (hv.mono g1.g) (sqD_seq b _) g1.w (atI_nat (j := 1) rfl) (fun v2 h2 => ?_)
    walk_at "q"
    refine q_tupRS h2 (sqD_seq b _) g1.w (fun G2 H2 p2 g2 r2 => ?_)
    walk_at "q"
    refine ⟨G2, v, b, W, rfl, g2.w, hv.mono (g1.g.trans g2.g), lpW, fun r hr => by have := wok.b r hr; omega, fun G3 H3 p3 g3 r3 => ?_⟩
    walk_at "q"
    have r1' := r1.mono (g2.g.trans g3.g)
    have r2' := r2.mono g3.g
    have gA := (Gro.up eG e0).trans0 ((g1.trans0 g2).trans0 g3)
    have w4 := gA.w
    have hv4 := hv2.mono gA.g
    have hN4 := hN.mono gA.g
    rcases deed_form2 (bA h').1 with ⟨r, hr, hs, hnt⟩ | ⟨r, k, c, t, hr, hs, hat⟩ | ⟨c, k, hc, hs⟩
    · skip
      refine q_ixRS hv4 hs w4 (atI_nat (j := 0) rfl) (fun u0 hu0 => ?_)
      cases hu0
      walk_at "q"
      rename_i vr hvr
      refine q_ixRS hv4 hs w4 (atI_nat (j := 1) rfl) (fun u1 hu1 => ?_)
      obtain rfl := rp_nD hu1
      refine q_ixRT hvr w4 (MN.rule hr) (fun u2 hu2 => ?_)
      refine q_gSeq hu2 (.inr rfl) w4 rfl (fun us hus => ?_)
      obtain ⟨y1, y2, y3, y4, rfl, k1, k2, k3, k4⟩ := rps4 hus
      obtain rfl := rp_nD k1
      obtain ⟨hp, hcc⟩ := ok.ru _ (List.getElem_mem hr)
      have hps : M.R[r].p < W.s.length := by rw [wok.ls]; exact hp
      walk_at "q"
      refine ⟨G3, .ref p1, y4, M.R[r].p, W.s.map nD, nD M.R[r].t, rfl, w4, r1', by rw [List.length_map]; exact hps, by rw [List.length_map]; exact lsW, k4, fun G5 H5 p5 g5 r5 => ?_⟩
      rw [← List.map_set] at r5
      have w5 := g5.w
      walk_at "q"
      generalize ea : M.R[r].a = ac at k3 hcc
      have ea' : M.R[r]?.map Rul.a = some ac := by rw [List.getElem?_eq_getElem hr]; show some M.R[r].a = _; rw [ea]
      cases ac with
      | do_ =>
        have es : stepM M W (.act r) = ⟨W.s.set M.R[r].p M.R[r].t, W.n, W.p⟩ := by simp [stepM, hr, ea]
        refine q_ixRT (k3.mono g5.g) w5 (atI_nat (j := 0) rfl) (fun u5 hu5 => ?_)
        cases hu5
        walk_at "q"
        refine q_cutId ?_
        walk_at "q"
        refine q_ixRT (k3.mono g5.g) w5 (atI_nat (j := 0) rfl) (fun u5 hu5 => ?_)
        cases hu5
        walk_at "q"
        rename_i p6 hp6
        have g6 := Gro.new (o := .tup [.ref p5, .ref p2, .ref p3]) g5.w hp6
        refine yes' (.act r) _ _ p6 hs ((gA.trans0 g5).trans0 g6) ?_
        rw [es]
        exact .tup (.inl (.inl upd_same)) (.cons (r5.mono g6.g) (.cons (r2'.mono (g5.g.trans g6.g)) (.cons (r3.mono (g5.g.trans g6.g)) .nil)))
      | send c k =>
        have hcl := hcc c k (.inl rfl)
        have hcn : c < W.n.length := by rw [wok.ln]; exact hcl
        have hcp : c < W.p.length := by rw [wok.lp]; exact hcl
        have egn : W.n.getD c 0 = W.n[c] := by rw [List.getD_eq_getElem?_getD, List.getElem?_eq_getElem hcn] <;> rfl
        have es : stepM M W (.act r) = ⟨W.s.set M.R[r].p M.R[r].t, W.n.set c (W.n[c] + 1), W.p.set c (rowM W c ++ [(W.n[c], k)])⟩ := by
          rw [← egn]
          simp [stepM, hr, ea]
        refine q_ixRT (k3.mono g5.g) w5 (atI_nat (j := 0) rfl) (fun u5 hu5 => ?_)
        cases hu5
        walk_at "q"
        refine q_ixRT (k3.mono g5.g) w5 (atI_nat (j := 1) rfl) (fun u5 hu5 => ?_)
        cases hu5
        walk_at "q"
        refine q_ixRT (r3.mono g5.g) w5 (wok.at2 hcl true) (fun u6 hu6 => ?_)
        obtain ⟨l6, vs6, rfl, _, _⟩ := rp_tup hu6
        refine q_starAt (b := true) hu6 w5 (fun xs6 hx6 => ?_)
        walk_at "q"
        refine q_ixRT (k3.mono g5.g) w5 (atI_nat (j := 1) rfl) (fun u5 hu5 => ?_)
        cases hu5
        walk_at "q"
        refine q_ixRT (r2'.mono g5.g) w5 (at_map hcn) (fun u7 hu7 => ?_)
        obtain rfl := rp_nD hu7
        walk_at "q"
        refine q_ixRT (k3.mono g5.g) w5 (atI_nat (j := 2) rfl) (fun u5 hu5 => ?_)
        cases hu5
        walk_at "q"
        rename_i p6 hp6
        have g6 := Gro.new (o := .tup [.int (W.n[c] : Int), .int (k : Int)]) w5 hp6
        refine ⟨?_, fun p7 hp7 => ?_⟩
        · rw [List.length_append, hx6.len, List.length_map]
          have := wok.row c
          exact Nat.le_trans (show _ ≤ 2000 by simp only [List.length_cons, List.length_nil]; omega) (by decide)
        have g7 := Gro.new (o := .tup (xs6 ++ [.ref p6])) g6.w hp7
        have r7 : Rp K (L2.upd (L2.upd G5 p6 (.tup [.int (W.n[c] : Int), .int (k : Int)])) p7 (.tup (xs6 ++ [.ref p6]))) (.ref p7) (rowMD true (rowM W c ++ [(W.n[c], k)])) := by
          rw [rowMD, List.map_append]
          exact .tup (.inl (.inl upd_same)) ((hx6.mono (g6.g.trans g7.g)).app (Rps.one (Rp.mono g7.g (.tup (.inl (.inl upd_same)) (.cons (.int _) (.cons (.int _) .nil))))))
        have e57 := g6.g.trans g7.g
        have w7 := g7.w
        have gB := ((gA.trans0 g5).trans0 g6).trans0 g7
        generalize L2.upd (L2.upd G5 p6 (.tup [.int (W.n[c] : Int), .int (k : Int)])) p7 (.tup (xs6 ++ [.ref p6])) = G7 at r7 e57 w7 gB
        generalize L2.upd (L2.upd H5 p6 (.tup [.int (W.n[c] : Int), .int (k : Int)])) p7 (.tup (xs6 ++ [.ref p6])) = H7 at w7 gB ⊢
        clear g6 g7 hp6 hp7
        have k37 := k3.mono (g5.g.trans e57)
        have r27 := r2'.mono (g5.g.trans e57)
        have r37 := r3.mono (g5.g.trans e57)
        walk_at "q"
        refine q_ixRT k37 w7 (atI_nat (j := 1) rfl) (fun u5 hu5 => ?_)
        cases hu5
        walk_at "q"
        refine q_ixRT k37 w7 (atI_nat (j := 1) rfl) (fun u5 hu5 => ?_)
        cases hu5
        refine q_ixRT r27 w7 (at_map hcn) (fun u7 hu7 => ?_)
        obtain rfl := rp_nD hu7
        walk_at "q"
        refine ⟨G7, .ref p2, .int ((W.n[c] : Int) + 1), c, W.n.map nD, nD (W.n[c] + 1), rfl, w7, r27, by rw [List.length_map]; exact hcn, by rw [List.length_map]; exact lnW, .int _, fun G8 H8 p8 g8 r8 => ?_⟩
        rw [← List.map_set] at r8
        have w8 := g8.w
        walk_at "q"
        refine q_ixRT (k37.mono g8.g) w8 (atI_nat (j := 1) rfl) (fun u5 hu5 => ?_)
        cases hu5
        walk_at "q"
        refine ⟨G8, .ref p3, .ref p7, c, W.p.map (rowMD true), _, rfl, w8, r37.mono g8.g, by rw [List.length_map]; exact hcp, by rw [List.length_map]; exact lpW, r7.mono g8.g, fun G9 H9 p9 g9 r9 => ?_⟩
        rw [← List.map_set] at r9
        walk_at "q"
        rename_i p6 hp6
        have g6 := Gro.new (o := .tup [.ref p5, .ref p8, .ref p9]) g9.w hp6
        refine yes' (.act r) _ _ p6 hs (((gB.trans0 g8).trans0 g9).trans0 g6) ?_
        rw [es]
        exact .tup (.inl (.inl upd_same)) (.cons (r5.mono (e57.trans (g8.g.trans (g9.g.trans g6.g)))) (.cons (r8.mono (g9.g.trans g6.g)) (.cons (r9.mono g6.g) .nil)))
      | take c k => exact absurd ea' (hnt c k)
    · skip
      refine q_ixRS hv4 hs w4 (atI_nat (j := 0) rfl) (fun u0 hu0 => ?_)
      cases hu0
      walk_at "q"
      rename_i vr hvr
      refine q_ixRS hv4 hs w4 (atI_nat (j := 1) rfl) (fun u1 hu1 => ?_)
      obtain rfl := rp_nD hu1
      refine q_ixRT hvr w4 (MN.rule hr) (fun u2 hu2 => ?_)
      refine q_gSeq hu2 (.inr rfl) w4 rfl (fun us hus => ?_)
      obtain ⟨y1, y2, y3, y4, rfl, k1, k2, k3, k4⟩ := rps4 hus
      obtain rfl := rp_nD k1
      obtain ⟨hp, hcc⟩ := ok.ru _ (List.getElem_mem hr)
      have hps : M.R[r].p < W.s.length := by rw [wok.ls]; exact hp
      walk_at "q"
      refine ⟨G3, .ref p1, y4, M.R[r].p, W.s.map nD, nD M.R[r].t, rfl, w4, r1', by rw [List.length_map]; exact hps, by rw [List.length_map]; exact lsW, k4, fun G5 H5 p5 g5 r5 => ?_⟩
      rw [← List.map_set] at r5
      have w5 := g5.w
      walk_at "q"
      generalize ea : M.R[r].a = ac at k3 hcc
      have ea' : ac = .take c t := by
        rw [List.getElem?_eq_getElem hr] at hat
        exact ea.symm.trans (Option.some.inj hat)
      subst ea'
      have es : stepM M W (.take r k) = ⟨W.s.set M.R[r].p M.R[r].t, W.n, gone W c k⟩ := by simp [stepM, hr, ea]
      have hcl := hcc c t (.inr rfl)
      refine q_ixRT (k3.mono g5.g) w5 (atI_nat (j := 0) rfl) (fun u5 hu5 => ?_)
      cases hu5
      walk_at "q"
      refine q_cutId ?_
      walk_at "q"
      refine q_ixRT (k3.mono g5.g) w5 (atI_nat (j := 0) rfl) (fun u5 hu5 => ?_)
      cases hu5
      walk_at "q"
      refine q_ixRT (k3.mono g5.g) w5 (atI_nat (j := 1) rfl) (fun u5 hu5 => ?_)
      cases hu5
      walk_at "q"
      refine q_ixRS (hv4.mono g5.g) hs w5 (atI_nat (j := 2) rfl) (fun u6 hu6 => ?_)
      obtain rfl := rp_nD hu6
      walk_at "q"
      refine ⟨G5, .ref p3, c, k, W.p, rowM W c, rfl, w5, r3.mono g5.g, wok.rowAt hcl, by have := wok.row c; omega, lpW, fun G8 H8 p8 g8 r8 => ?_⟩
      walk_at "q"
      rename_i p6 hp6
      have g6 := Gro.new (o := .tup [.ref p5, .ref p2, .ref p8]) g8.w hp6
      refine yes' (.take r k) _ _ p6 hs (((gA.trans0 g5).trans0 g8).trans0 g6) ?_
      rw [es]
      exact .tup (.inl (.inl upd_same)) (.cons (r5.mono (g8.g.trans g6.g)) (.cons (r2'.mono (g5.g.trans (g8.g.trans g6.g))) (.cons (r8.mono g6.g) .nil)))
    · skip
      refine q_ixRS hv4 hs w4 (atI_nat (j := 0) rfl) (fun u0 hu0 => ?_)
      cases hu0
      walk_at "q"
      refine q_ixRS hv4 hs w4 (atI_nat (j := 1) rfl) (fun u1 hu1 => ?_)
      obtain rfl := rp_nD hu1
      walk_at "q"
      refine q_ixRS hv4 hs w4 (atI_nat (j := 2) rfl) (fun u2 hu2 => ?_)
      obtain rfl := rp_nD hu2
      walk_at "q"
      refine ⟨G3, .ref p3, c, k, W.p, rowM W c, rfl, w4, r3, wok.rowAt hc, by have := wok.row c; omega, lpW, fun G5 H5 p5 g5 r5 => ?_⟩
      have es : stepM M W (.lose c k) = ⟨W.s, W.n, gone W c k⟩ := rfl
      walk_at "q"
      rename_i p6 hp6
      have g6 := Gro.new (o := .tup [.ref p1, .ref p2, .ref p5]) g5.w hp6
      refine yes' (.lose c k) _ _ p6 hs ((gA.trans0 g5).trans0 g6) ?_
      rw [es]
      exact .tup (.inl (.inl upd_same)) (.cons (r1'.mono (g5.g.trans g6.g)) (.cons (r2'.mono (g5.g.trans g6.g)) (.cons (r5.mono g6.g) .nil)))
theorem c_done {C CS f : Addr} {fd : FuncData} (F : FnP K "done" s_done f fd) (hm : mg "done" = some (.ref f)) (ok : FnOk P w K mg base (L2.CX P w) 6 f fd ["net", "world", "deed"] (sp_done K C CS)) : CalX P w K mg base 6 "done" ["net", "world", "deed"] (sp_done K C CS) :=
  calX_fn F hm ok (fun _ _ _ _ _ _ _ us hl => match us, hl with | [_, _, _], _ => rfl)
theorem ck_done {C CS f : Addr} {fd : FuncData} (F : FnP K "done" s_done f fd) (hm : mg "done" = some (.ref f)) (ok : FnOk P w K mg base (L2.CX P w) 6 f fd ["net", "world", "deed"] (sp_done K C CS)) : CalXK P w K mg base (L2.CX P w) 6 "done" ["net", "world", "deed"] ["deed", "world", "net"] [2, 1, 0] (sp_done K C CS) :=
  calK_fn F hm ok (fun _ _ _ _ _ _ _ us hl => match us, hl with | [_, _, _], _ => rfl)
end
end Cw

set_option maxHeartbeats 4000000
namespace Cw
open PySem PySem.Spec PyProof.Rows L2
section
variable {P : Program} {w : World} {K : PySem.W.Frag} {mg : Str → Option Value} {base : Heap}
abbrev s__law_with : Stmt := topS 53
abbrev N__law_with : List Str := ["row", "at", "value"]
theorem sc__law_with : FnScope N__law_with ["row", "at", "value"] (defScope s__law_with) := ⟨rfl, rfl, rfl, by decide +kernel, rfl, by decide +kernel, by decide +kernel⟩
theorem c_with {f : Addr} {fd : FuncData} (F : FnP K "_law_with" s__law_with f fd) (hm : mg "_law_with" = some (.ref f)) (B : Blt mg) : Cal P w K mg base 1 "_law_with" ["row", "at", "value"] (sp_changed K) := by
  refine cal_of F hm sc__law_with (fun _ _ _ _ _ _ _ us hl => match us, hl with | [_, _, _], _ => rfl) (fun vs H Q E h => ?_) (fun cdv A outer s H vs Q E hr h => ?_)
  · obtain ⟨_, _, _, _, _, _, rfl, _⟩ := h
    rfl
  · obtain ⟨G, v, u, k, ds, e, rfl, eG, hv, hk, hl, hu, q⟩ := h
    have nd := sc__law_with.nd
    refine ⟨_, [some _, some _, some _], ((pss_one (ps_ret (pe_op (op_addK (K := K) rfl) (pe_op (op_addK (K := K) rfl) (pe_slice (sl_anyK (K := K) rfl) (pv 0) po_none (po_some (pv 1))) (pe_tup (pa_cons (pv 2) pa_nil))) (pe_slice (sl_anyK (K := K) rfl) (pv 0) (po_some (pe_op (op_addK (K := K) rfl) (pv 1) pe_int)) po_none))))), rfl, ?_⟩
    walk_at "q"
    refine q_slTo (b := true) hv eG (fun G1 H1 p1 g1 r1 => ?_)
    walk_at "q"
    rename_i p2 hp2
    have g2 := Gro.new (o := .tup [u]) g1.w hp2
    have r2 : Rp K (L2.upd G1 p2 (.tup [u])) (.ref p2) (.tuple [e]) := .tup (.inl (.inl upd_same)) (.cons (hu.mono (g1.g.trans g2.g)) .nil)
    refine .inr (.inr (.inl (q_catTT (r1.mono g2.g) r2 g2.w (by rw [List.length_take]; simp only [List.length_cons, List.length_nil]; omega) (fun G3 H3 p3 g3 r3 => ?_))))
    walk_at "q"
    rw [show ((k : Int) + 1) = ((k + 1 : Nat) : Int) from rfl]
    have e13 := g1.g.trans (g2.g.trans g3.g)
    refine q_slFrom (b := true) (hv.mono e13) g3.w (by omega) (fun G4 H4 p4 g4 r4 => ?_)
    refine .inr (.inr (.inl (q_catTT (r3.mono g4.g) r4 g4.w (by rw [List.length_append, List.length_take, List.length_drop]; simp only [List.length_cons, List.length_nil]; omega) (fun G5 H5 p5 g5 r5 => ?_))))
    walk_at "q"
    refine q _ _ p5 ((((g1.trans0 g2).trans0 g3).trans0 g4).trans0 g5) ?_
    rw [← set_cut ds e k hk]
    rw [List.append_assoc] at r5
    exact r5
abbrev s__law_takes : Stmt := topS 51
abbrev N__law_takes : List Str := ["net", "world", "r", "rule", "present", "pair"]
theorem sc__law_takes : FnScope N__law_takes ["net", "world", "r"] (defScope s__law_takes) := ⟨rfl, rfl, rfl, by decide +kernel, rfl, by decide +kernel, by decide +kernel⟩
def sp_takes (K : PySem.W.Frag) : Sp := fun vs H Q _ => ∃ (G : Hp) (v u : V) (M : MN) (W : Wd) (B r c k : Nat), vs = [v, u, .int (r : Int)] ∧ Ex G H ∧ MNOk M ∧ Rp K G v M.d ∧ Rp K G u (W.d true) ∧ WdOk M W B ∧ B ≤ 1000 ∧ M.R[r]?.map Rul.a = some (.take c k) ∧
  ∀ G2 H2 p, Gro none G H G2 H2 → Rp K G2 (.ref p) (.list (((hand M W c).filter fun m => decide (m.2 = k)).map fun m => nD m.1)) → Q (.ref p) H2
theorem c_takes {f : Addr} {fd : FuncData} (F : FnP K "_law_takes" s__law_takes f fd) (hm : mg "_law_takes" = some (.ref f)) (B : Blt mg) : Cal P w K mg base 1 "_law_takes" ["net", "world", "r"] (sp_takes K) := by
  refine cal_of F hm sc__law_takes (fun _ _ _ _ _ _ _ us hl => match us, hl with | [_, _, _], _ => rfl) (fun vs H Q E h => ?_) (fun cdv A outer s H vs Q E hr h => ?_)
  · obtain ⟨_, _, _, _, _, _, _, _, _, rfl, _⟩ := h
    rfl
  · obtain ⟨G, v, u, M, W, BB, r, c, k, rfl, eG, ok, hv, hu, wok, hB, ha, q⟩ := h
    have nd := sc__law_takes.nd
    obtain ⟨hrl, ea⟩ : ∃ h : r < M.R.length, M.R[r].a = .take c k := by
      cases e : M.R[r]? with
      | none =>
        rw [e] at ha
        cases ha
      | some R =>
        obtain ⟨h1, h2⟩ := List.getElem?_eq_some_iff.mp e
        rw [e] at ha
        exact ⟨h1, by rw [h2]; exact Option.some.inj ha⟩
    have hcl := (ok.ru _ (List.getElem_mem hrl)).2 c k (.inr ea)
    refine ⟨_, [some _, some _, some _, none, none, none], ((pss_cons (ps_set (i := 3) nd rfl (Or.inr rfl) (pe_ix (ix_seqK (K := K) rfl) (pe_ix (ix_seqK (K := K) rfl) (pv 0) pe_int (fun _ _ => rfl)) (pv 2) (fun _ _ => rfl)))
      (pss_cons (ps_set (i := 4) nd rfl (Or.inl rfl) (pe_ix (ix_seqK (K := K) rfl) (pe_ix (ix_seqK (K := K) rfl) (pv 1) pe_int (fun _ _ => rfl)) (pe_ix (ix_seqK (K := K) rfl) (pe_ix (ix_seqK (K := K) rfl) (pv 3) pe_int (fun _ _ => rfl)) pe_int (fun _ _ => rfl)) (fun _ _ => rfl)))
      (pss_cut (ps_if (pt_cmpR (op_inB (K := K) rfl (hu65 hr)) (pe_ix (ix_seqK (K := K) rfl) (pe_ix (ix_seqK (K := K) rfl) (pe_ix (ix_seqK (K := K) rfl) (pv 0) pe_int (fun _ _ => rfl)) (pe_ix (ix_seqK (K := K) rfl) (pe_ix (ix_seqK (K := K) rfl) (pv 3) pe_int (fun _ _ => rfl)) pe_int (fun _ _ => rfl)) (fun _ _ => rfl)) pe_int (fun _ _ => rfl)) (pe_lst (pa_cons pe_str (pa_cons pe_str pa_nil))) (by with_unfolding_all rfl)) (pss_one (ps_set (i := 4) nd rfl (Or.inl rfl) (pe_slice (sl_anyK (K := K) rfl) (pv 4) po_none (po_some pe_int)))) pss_nil)
      (pss_one (ps_ret (pe_lc (own := [("pair", 5)]) rfl nd (pi_seqK (K := K) rfl (pv 4)) (blkOk_by (N := N__law_takes) (sc := defScope s__law_takes) (by decide +kernel)) (fun _ _ _ _ _ => (pg_name (i := 5) nd rfl (by first | exact Or.inl rfl | exact Or.inr rfl))) (fun _ _ _ _ _ => (pts_one (pt_cmpR (op_eqK (K := K) rfl (hu64 hr)) (pe_ix (ix_seqK (K := K) rfl) (pv 5) pe_int (fun _ _ => rfl)) (pe_ix (ix_seqK (K := K) rfl) (pe_ix (ix_seqK (K := K) rfl) (pv 3) pe_int (fun _ _ => rfl)) pe_int (fun _ _ => rfl)) (nomark _)))) (fun _ _ _ _ _ => (pe_ix (ix_seqK (K := K) rfl) (pv 5) pe_int (fun _ _ => rfl)))))))))), rfl, ?_⟩
    walk_at "q"
    refine q_ixRT hv eG rfl (fun v1 h1 => ?_)
    walk_at "q"
    refine q_ixRT h1 eG (MN.rule hrl) (fun v2 h2 => ?_)
    rw [Rul.d, ea] at h2
    walk_at "q"
    refine q_ixRT hu eG rfl (fun v3 h3 => ?_)
    walk_at "q"
    refine q_ixRT h2 eG rfl (fun v4 h4 => ?_)
    walk_at "q"
    refine q_ixRT h4 eG rfl (fun v5 h5 => ?_)
    obtain rfl := rp_nD h5
    walk_at "q"
    refine q_ixRT h3 eG (wok.at2 hcl true) (fun v6 h6 => ?_)
    walk_at "q"
    refine q_cut (M := fun σ' H' => ∃ u' G', σ' = [some v, some u, some (.int (r : Int)), some v2, some u', none] ∧ Gro none G H G' H' ∧ Rp K G' u' (rowMD true (hand M W c)) ∧ Rp K G' v2 (.tuple [nD M.R[r].p, nD M.R[r].s, (Act.take c k).d, nD M.R[r].t])) ?_ ?_
    · skip
      walk_at "q"
      refine q_ixRT hv eG rfl (fun v7 h7 => ?_)
      walk_at "q"
      refine q_ixRT h2 eG rfl (fun v8 h8 => ?_)
      walk_at "q"
      refine q_ixRT h8 eG rfl (fun v9 h9 => ?_)
      obtain rfl := rp_nD h9
      refine q_ixRT h7 eG (MN.chan hcl) (fun v10 h10 => ?_)
      walk_at "q"
      refine q_ixRT h10 eG rfl (fun v11 h11 => ?_)
      walk_at "q"
      rename_i pl hpl
      have gl := Gro.new (o := .lst [.str "order", .str "order lossy"]) eG hpl
      have rl : Rp K (L2.upd G pl (.lst [.str "order", .str "order lossy"])) (.ref pl) (.list [.str "order", .str "order lossy"]) := .lst upd_same (.cons (.str _) (.cons (.str _) .nil))
      refine q_inL (h11.mono gl.g) rl gl.w (kind_shp (by rw [← kindM_at hcl]; exact kind_mem ok hcl)) shp_ord.2 ?_
      have eh : hand M W c = if ordd M.C[c].k then (rowM W c).take 1 else rowM W c := by
        unfold hand
        rw [kindM_at hcl]
      have h6' := h6.mono gl.g
      have h2' := h2.mono gl.g
      walk_at "q"
      refine q_ifb (fun h => ?_) (fun h => ?_)
      · rw [if_pos (show ordd M.C[c].k = true from h)] at eh
        walk_at "q"
        refine q_slTo (k := 1) (b := true) h6' gl.w (fun G2 H2 p2 g2 r2 => ?_)
        refine ⟨_, G2, rfl, gl.trans0 g2, ?_, h2'.mono g2.g⟩
        rw [eh, rowMD, List.map_take]
        exact r2
      · rw [if_neg (show ¬ ordd M.C[c].k = true by rw [show ordd M.C[c].k = false from h]; decide)] at eh
        walk_at "q"
        exact ⟨_, _, rfl, gl, by rw [eh]; exact h6', h2'⟩
    · rintro σ' H' ⟨u', G', rfl, gr, hu', hr2⟩
      have w1 := gr.w
      walk_at "q"
      refine q_lcT ?_
      walk_at "q"
      refine q_fmT (h := msgD true) (f := fun m => if decide (m.2 = k) then some (nD m.1) else none) hu' w1 (by have := hand_len M W c; have := wok.row c; omega) (fun i m u3 G3 H3 hm' gr3 ru C N yes no => ?_) (fun G1 H1 D g1 hD r1 => ?_)
      · have w3 := gr3.w
        walk_at "q"
        refine ⟨rfl, ?_⟩
        walk_at "q"
        refine q_ixRT ru w3 rfl (fun u0 hu0 => ?_)
        obtain rfl := rp_nD hu0
        walk_at "q"
        refine q_ixRT (hr2.mono gr3.g) w3 rfl (fun u4 hu4 => ?_)
        walk_at "q"
        refine q_ixRT hu4 w3 rfl (fun u5 hu5 => ?_)
        obtain rfl := rp_nD hu5
        walk_at "q"
        refine q_ifd (fun h => ?_) (fun h => ?_)
        · have hk : m.2 = k := by omega
          walk_at "q"
          refine q_ixRT ru w3 rfl (fun u6 hu6 => ?_)
          exact yes _ _ _ _ (by rw [hk]; simp) (Gro.refl w3) hu6
        · walk_at "q"
          exact no _ _ (by rw [if_neg]; simp; omega) (Gro.refl w3)
      · walk_at "q"
        rw [fm_filt] at r1
        exact q _ _ D (gr.trans0 g1) r1
end
end Cw

set_option maxHeartbeats 4000000
namespace Cw
open PySem PySem.Spec PyProof.Rows L2
section
variable {P : Program} {w : World} {K : PySem.W.Frag} {mg : Str → Option Value} {base : Heap}
abbrev s__law_possible : Stmt := topS 52
abbrev N__law_possible : List Str := ["net", "world", "found", "r", "rule", "c", "k", "pair"]
theorem sc__law_possible : FnScope N__law_possible ["net", "world"] (defScope s__law_possible) := ⟨rfl, rfl, rfl, by decide +kernel, rfl, by decide +kernel, by decide +kernel⟩
theorem rule_gives {M : MN} {W : Wd} {r : Nat} (hrl : r < M.R.length) : ruleM M W r = if W.s[M.R[r].p]? = some M.R[r].s then (match M.R[r].a with
      | .take c k => takesM M W r c k
      | _ => [.act r]) else [] := by
  unfold ruleM
  rw [List.getElem?_eq_getElem hrl] <;> rfl
theorem lossy_kinds {z : Str} (h : z ∈ kindsL) : (z = "order lossy" → lossd z = true ∧ ordd z = true) ∧ (z = "loose lossy" → lossd z = true ∧ ordd z = false) ∧ (z ≠ "order lossy" → z ≠ "loose lossy" → lossd z = false) := by
  simp only [kindsL, List.mem_cons, List.mem_nil_iff, or_false] at h
  rcases h with rfl | rfl | rfl | rfl <;> decide +kernel
theorem one_step {K : PySem.W.Frag} {G H G1 H1 G2 H2 : Hp} {vs zs : List V} {ds es : List PyData} {l al : Addr} (s : Acc l G H G1 H1 vs) (hr : Rps K G1 vs ds) (g : Gro none G1 H1 G2 H2) (hL : G2 al = some (.lst zs)) (hz : Rps K G2 zs es) (hl : ds.length + es.length ≤ 1000000) :
    H2 l = some (.lst vs) ∧ H2 al = some (.lst zs) ∧ vs.length + zs.length ≤ sizeLine ∧ ∀ p, H2 p = none → Acc p G H G2 (L2.upd H2 p (.lst (vs ++ zs))) (vs ++ zs) ∧ Rps K G2 (vs ++ zs) (ds ++ es) :=
  ⟨(s.gro g).hl, g.w _ _ hL, by rw [hr.len, hz.len]; exact Nat.le_trans hl (by decide), fun p hp => ⟨Acc.newL (l := l) (s.gr.trans0 g) hp, (hr.mono g.g).app hz⟩⟩
def sp_lposs (K : PySem.W.Frag) : Sp := fun vs H Q _ => ∃ (G : Hp) (v u : V) (M : MN) (W : Wd) (B : Nat), vs = [v, u] ∧ Ex G H ∧ MNOk M ∧ Rp K G v M.d ∧ Rp K G u (W.d true) ∧ WdOk M W B ∧ B ≤ 1000 ∧
  ∀ G2 H2 p, Gro none G H G2 H2 → Rp K G2 (.ref p) (.tuple ((possM M W).map Deed.d)) → Q (.ref p) H2
theorem c_lposs {f : Addr} {fd : FuncData} (F : FnP K "_law_possible" s__law_possible f fd) (hm : mg "_law_possible" = some (.ref f)) (B : Blt mg) (C__law_takes : Cal P w K mg base 1 "_law_takes" ["net", "world", "r"] (sp_takes K)) : Cal P w K mg base 2 "_law_possible" ["net", "world"] (sp_lposs K) := by
  refine cal_of F hm sc__law_possible (fun _ _ _ _ _ _ _ us hl => match us, hl with | [_, _], _ => rfl) (fun vs H Q E h => ?_) (fun cdv A outer s H vs Q E hr h => ?_)
  · obtain ⟨_, _, _, _, _, _, rfl, _⟩ := h
    rfl
  · obtain ⟨G, v, u, M, W, BB, rfl, eG, ok, hv, hu, wok, hB, q⟩ := h
    have nd := sc__law_possible.nd
    have bR : ∀ i, i ≤ M.R.length → (((List.range i).map (ruleM M W)).flatten).length ≤ 40 * 1001 := fun i hi => by
      have h1 := len_flat (ruleM M W) 1001 (List.range i) fun r _ => by have := rule_len wok r; omega
      rw [List.length_range] at h1
      have := ok.lr
      exact Nat.le_trans h1 (Nat.mul_le_mul_right _ (by omega))
    have bC : ∀ i, i ≤ M.C.length → (((List.range i).map (lossesM M W)).flatten).length ≤ 8 * 1000 := fun i hi => by
      have h1 := len_flat (lossesM M W) 1000 (List.range i) fun r _ => by have := losses_len wok r; omega
      rw [List.length_range] at h1
      have := ok.lc
      exact Nat.le_trans h1 (Nat.mul_le_mul_right _ (by omega))
    refine ⟨_, [some _, some _, none, none, none, none, none, none], ((pss_cons (ps_set (i := 2) nd rfl (Or.inl rfl) (pe_lst pa_nil))
      (pss_cons (ps_for PassesOwn.never rfl (pi_range1 (by rfl) B.range_ (pa_cons (pe_callB (call_lenK (K := K) rfl) (by rfl) B.len_ bo_len (pa_cons (pe_ix (ix_seqK (K := K) rfl) (pv 0) pe_int (fun _ _ => rfl)) pa_nil)) pa_nil)) (pg_name (i := 3) nd rfl (Or.inr rfl)) (pss_cons (ps_set (i := 4) nd rfl (Or.inl rfl) (pe_ix (ix_seqK (K := K) rfl) (pe_ix (ix_seqK (K := K) rfl) (pv 0) pe_int (fun _ _ => rfl)) (pv 3) (fun _ _ => rfl)))
      (pss_one (ps_if (pt_cmpR (op_eqK (K := K) rfl (hu64 hr)) (pe_ix (ix_seqK (K := K) rfl) (pe_ix (ix_seqK (K := K) rfl) (pv 1) pe_int (fun _ _ => rfl)) (pe_ix (ix_seqK (K := K) rfl) (pv 4) pe_int (fun _ _ => rfl)) (fun _ _ => rfl)) (pe_ix (ix_seqK (K := K) rfl) (pv 4) pe_int (fun _ _ => rfl)) (nomark _)) (pss_one (ps_if (pt_cmpR (op_eqK (K := K) rfl (hu64 hr)) (pe_ix (ix_seqK (K := K) rfl) (pe_ix (ix_seqK (K := K) rfl) (pv 4) pe_int (fun _ _ => rfl)) pe_int (fun _ _ => rfl)) pe_str (nomark _)) (pss_one (ps_set (i := 2) nd rfl (Or.inl rfl) (pe_op (op_addK (K := K) rfl) (pv 2) (pe_lc (own := [("k", 6)]) rfl nd (pi_seqK (K := K) rfl (pe_callC C__law_takes (hr.mono (by omega)) (by rfl) (pa_cons (pv 0) (pa_cons (pv 1) (pa_cons (pv 3) pa_nil))))) (blkOk_by (N := N__law_possible) (sc := defScope s__law_possible) (by decide +kernel)) (fun _ _ _ _ _ => (pg_name (i := 6) nd rfl (by first | exact Or.inl rfl | exact Or.inr rfl))) (fun _ _ _ _ _ => pts_nil) (fun _ _ _ _ _ => (pe_tup (pa_cons pe_str (pa_cons (pv 3) (pa_cons (pv 6) pa_nil))))))))) (pss_one (ps_expr (pe_bmK (K := K) rfl PySem.F.plainAttrs_list PySem.F.slot_list_append PySem.F.type_list_append mt_append (pv 2) (pa_cons (pe_tup (pa_cons pe_str (pa_cons (pv 3) pa_nil))) pa_nil)))))) pss_nil))))
      (pss_cons (ps_for PassesOwn.never rfl (pi_range1 (by rfl) B.range_ (pa_cons (pe_callB (call_lenK (K := K) rfl) (by rfl) B.len_ bo_len (pa_cons (pe_ix (ix_seqK (K := K) rfl) (pv 0) pe_int (fun _ _ => rfl)) pa_nil)) pa_nil)) (pg_name (i := 5) nd rfl (Or.inr rfl)) (pss_cut (ps_if (pt_cmpR (op_eqK (K := K) rfl (hu64 hr)) (pe_ix (ix_seqK (K := K) rfl) (pe_ix (ix_seqK (K := K) rfl) (pe_ix (ix_seqK (K := K) rfl) (pv 0) pe_int (fun _ _ => rfl)) (pv 5) (fun _ _ => rfl)) pe_int (fun _ _ => rfl)) pe_str (nomark _)) (pss_one (ps_set (i := 2) nd rfl (Or.inl rfl) (pe_op (op_addK (K := K) rfl) (pv 2) (pe_lc (own := [("pair", 7)]) rfl nd (pi_seqK (K := K) rfl (pe_slice (sl_anyK (K := K) rfl) (pe_ix (ix_seqK (K := K) rfl) (pe_ix (ix_seqK (K := K) rfl) (pv 1) pe_int (fun _ _ => rfl)) (pv 5) (fun _ _ => rfl)) po_none (po_some pe_int))) (blkOk_by (N := N__law_possible) (sc := defScope s__law_possible) (by decide +kernel)) (fun _ _ _ _ _ => (pg_name (i := 7) nd rfl (by first | exact Or.inl rfl | exact Or.inr rfl))) (fun _ _ _ _ _ => pts_nil) (fun _ _ _ _ _ => (pe_tup (pa_cons pe_str (pa_cons (pv 5) (pa_cons (pe_ix (ix_seqK (K := K) rfl) (pv 7) pe_int (fun _ _ => rfl)) pa_nil))))))))) pss_nil)
      (pss_one (ps_if (pt_cmpR (op_eqK (K := K) rfl (hu64 hr)) (pe_ix (ix_seqK (K := K) rfl) (pe_ix (ix_seqK (K := K) rfl) (pe_ix (ix_seqK (K := K) rfl) (pv 0) pe_int (fun _ _ => rfl)) (pv 5) (fun _ _ => rfl)) pe_int (fun _ _ => rfl)) pe_str (nomark _)) (pss_one (ps_set (i := 2) nd rfl (Or.inl rfl) (pe_op (op_addK (K := K) rfl) (pv 2) (pe_lc (own := [("pair", 7)]) rfl nd (pi_seqK (K := K) rfl (pe_ix (ix_seqK (K := K) rfl) (pe_ix (ix_seqK (K := K) rfl) (pv 1) pe_int (fun _ _ => rfl)) (pv 5) (fun _ _ => rfl))) (blkOk_by (N := N__law_possible) (sc := defScope s__law_possible) (by decide +kernel)) (fun _ _ _ _ _ => (pg_name (i := 7) nd rfl (by first | exact Or.inl rfl | exact Or.inr rfl))) (fun _ _ _ _ _ => pts_nil) (fun _ _ _ _ _ => (pe_tup (pa_cons pe_str (pa_cons (pv 5) (pa_cons (pe_ix (ix_seqK (K := K) rfl) (pv 7) pe_int (fun _ _ => rfl)) pa_nil))))))))) pss_nil))))
      (pss_one (ps_ret (pe_callTy (call_tupK (K := K) rfl) (by rfl) B.tuple_ bo_tuple (pa_cons (pv 2) pa_nil)))))))), rfl, ?_⟩
    walk_at "q"
    rename_i l0 hl0
    have a0 : Acc l0 G H G _ [] := Acc.first eG hl0
    have w0 := a0.w
    generalize L2.upd H l0 (.lst []) = H0 at a0 w0 ⊢
    refine q_ixRT hv w0 rfl (fun v1 h1 => ?_)
    walk_at "q"
    rw [List.length_map]
    refine q_rng1 M.R.length (by have := ok.lr; omega) (fun i σ' H' => ∃ z3 z4 l vs G', σ' = [some v, some u, some (.ref l), z3, z4, none, none, none] ∧ Acc l G H G' H' vs ∧ Rps K G' vs ((((List.range i).map (ruleM M W)).flatten).map Deed.d)) ⟨none, none, l0, [], G, rfl, a0, .nil⟩ ?_ ?_
    · rintro i σ' H' hi ⟨z3, z4, l, vs, G', rfl, ac, hr1⟩
      have w1 := ac.w
      have hl1 := ac.hl
      have eg := ac.gr.g
      have er := rule_gives (W := W) hi
      obtain ⟨hp, hcc⟩ := ok.ru _ (List.getElem_mem hi)
      have hps : M.R[i].p < W.s.length := by rw [wok.ls]; exact hp
      have l1 := bR i (by omega)
      have l2 := rule_len wok i
      walk_at "q"
      refine q_ixRT (hv.mono eg) w1 rfl (fun v2 h2 => ?_)
      walk_at "q"
      refine q_ixRT h2 w1 (MN.rule hi) (fun v3 h3 => ?_)
      walk_at "q"
      refine q_ixRT (hu.mono eg) w1 rfl (fun v4 h4 => ?_)
      walk_at "q"
      refine q_ixRT h3 w1 rfl (fun v5 h5 => ?_)
      obtain rfl := rp_nD h5
      refine q_ixRT h4 w1 (at_map hps) (fun v6 h6 => ?_)
      obtain rfl := rp_nD h6
      walk_at "q"
      refine q_ixRT h3 w1 rfl (fun v7 h7 => ?_)
      obtain rfl := rp_nD h7
      walk_at "q"
      refine q_ifd (fun h => ?_) (fun h => ?_)
      · have h' : W.s[M.R[i].p] = M.R[i].s := by omega
        rw [if_pos (by rw [List.getElem?_eq_getElem hps, h'])] at er
        walk_at "q"
        generalize ea : M.R[i].a = ac0 at er hcc
        rw [Rul.d, ea] at h3
        cases ac0 with
        | do_ =>
          have er2 : ruleM M W i = [.act i] := er
          refine q_ixRT h3 w1 rfl (fun v8 h8 => ?_)
          walk_at "q"
          refine q_ixRT h8 w1 (atI_nat (j := 0) rfl) (fun v9 h9 => ?_)
          cases h9
          walk_at "q"
          rename_i pa hpa
          refine q_append (upd_old hl1 hpa) (line_lt (by rw [hr1.len, List.length_map]; omega)) ?_
          have g2 := Gro.new (o := .tup [.str "act", .int (i : Int)]) w1 hpa
          refine ⟨_, _, l, _, _, rfl, (ac.gro g2).put, ?_⟩
          rw [flat_next, List.map_append, er2]
          exact (hr1.mono g2.g).app (Rps.one (.tup (.inl (.inl upd_same)) (.cons (.str _) (.cons (.int _) .nil))))
        | send c k =>
          have er2 : ruleM M W i = [.act i] := er
          refine q_ixRT h3 w1 rfl (fun v8 h8 => ?_)
          walk_at "q"
          refine q_ixRT h8 w1 (atI_nat (j := 0) rfl) (fun v9 h9 => ?_)
          cases h9
          walk_at "q"
          rename_i pa hpa
          refine q_append (upd_old hl1 hpa) (line_lt (by rw [hr1.len, List.length_map]; omega)) ?_
          have g2 := Gro.new (o := .tup [.str "act", .int (i : Int)]) w1 hpa
          refine ⟨_, _, l, _, _, rfl, (ac.gro g2).put, ?_⟩
          rw [flat_next, List.map_append, er2]
          exact (hr1.mono g2.g).app (Rps.one (.tup (.inl (.inl upd_same)) (.cons (.str _) (.cons (.int _) .nil))))
        | take c k =>
          have er2 : ruleM M W i = takesM M W i c k := er
          refine q_ixRT h3 w1 rfl (fun v8 h8 => ?_)
          walk_at "q"
          refine q_ixRT h8 w1 (atI_nat (j := 0) rfl) (fun v9 h9 => ?_)
          cases h9
          walk_at "q"
          refine q_lcL ?_
          walk_at "q"
          refine ⟨G', v, u, M, W, BB, i, c, k, rfl, w1, ok, hv.mono eg, hu.mono eg, wok, hB, by rw [List.getElem?_eq_getElem hi]; show some M.R[i].a = _; rw [ea], fun G2 H2 p2 g2 r2 => ?_⟩
          refine q_fmL (h := fun m : Nat × Nat => nD m.1) (f := fun m => some (Deed.take i m.1).d) r2 g2.w (by have := takes_len wok i c k; rw [takesM, List.length_map] at this; omega) (fun j m u3 G3 H3 hm' gr3 ru C N yes no => ?_) (fun G3 H3 D g3 hD r3 => ?_)
          · have w3 := gr3.w
            obtain rfl := rp_nD ru
            walk_at "q"
            refine ⟨rfl, ?_⟩
            walk_at "q"
            rename_i p hp
            exact yes _ _ _ _ rfl (Gro.new w3 hp) (.tup (.inl (.inl upd_same)) (.cons (.str _) (.cons (.int _) (.cons (.int _) .nil))))
          · rw [fm_map] at r3
            obtain ⟨al, zs, e, hL, hz⟩ := rp_lst r3
            cases e
            obtain ⟨c1, c2, c3, c4⟩ := one_step ac hr1 (g2.trans0 g3) hL hz (by rw [List.length_map, List.length_map]; have := takes_len wok i c k; rw [takesM, List.length_map] at this; omega)
            refine q_cat c1 c2 c3 (fun p hp => ?_)
            obtain ⟨c5, c6⟩ := c4 p hp
            refine ⟨_, _, p, _, _, rfl, c5, ?_⟩
            rw [flat_next, List.map_append, er2, takesM, List.map_map]
            exact c6
      · rw [if_neg (by rw [List.getElem?_eq_getElem hps]; intro z; exact h (by have := Option.some.inj z; omega))] at er
        walk_at "q"
        refine ⟨_, _, l, vs, G', rfl, ac, ?_⟩
        rw [flat_next, er, List.append_nil]
        exact hr1
    · skip
      rintro σ' H' ⟨z3, z4, l, vs, G', rfl, ac, hr1⟩
      have w1 := ac.w
      have eg := ac.gr.g
      walk_at "q"
      refine q_ixRT (hv.mono eg) w1 rfl (fun v1 h1 => ?_)
      walk_at "q"
      rw [List.length_map]
      refine q_rng1 M.C.length (by have := ok.lc; omega) (fun i σ' H' => ∃ z3 z4 z5 l vs G', σ' = [some v, some u, some (.ref l), z3, z4, z5, none, none] ∧ Acc l G H G' H' vs ∧ Rps K G' vs ((((List.range M.R.length).map (ruleM M W)).flatten ++ ((List.range i).map (lossesM M W)).flatten).map Deed.d)) ⟨_, _, none, l, vs, G', rfl, ac, by simpa using hr1⟩ ?_ ?_
      · clear hr1 ac w1 eg h1
        rintro i σ' H' hi ⟨z3, z4, z5, l, vs, G', rfl, ac, hr1⟩
        have w1 := ac.w
        have eg := ac.gr.g
        have hk := kind_mem ok hi
        rw [kindM_at hi] at hk
        obtain ⟨k1, k2, k3⟩ := lossy_kinds hk
        have l1 := bR M.R.length (Nat.le_refl _)
        have l2 := bC i (by omega)
        walk_at "q"
        refine q_cut (M := fun σ' H' => ∃ z3 z4 l vs G', σ' = [some v, some u, some (.ref l), z3, z4, some (.int (i : Int)), none, none] ∧ Acc l G H G' H' vs ∧ Rps K G' vs (((((List.range M.R.length).map (ruleM M W)).flatten ++ ((List.range i).map (lossesM M W)).flatten) ++ if M.C[i].k = "order lossy" then lossesM M W i else []).map Deed.d)) ?_ ?_
        · walk_at "q"
          refine q_ixRT (hv.mono eg) w1 rfl (fun v1 h1 => ?_)
          walk_at "q"
          refine q_ixRT h1 w1 (MN.chan hi) (fun v2 h2 => ?_)
          walk_at "q"
          refine q_ixRT h2 w1 rfl (fun v3 h3 => ?_)
          cases h3
          walk_at "q"
          refine q_ifd (fun h => ?_) (fun h => ?_)
          · obtain ⟨hlo, hor⟩ := k1 h
            rw [← kindM_at hi] at hlo hor
            have hh : hand M W i = (rowM W i).take 1 := by unfold hand; rw [if_pos hor]
            rw [if_pos h]
            walk_at "q"
            refine q_lcT ?_
            walk_at "q"
            refine q_ixRT (hu.mono eg) w1 rfl (fun x2 y2 => ?_)
            walk_at "q"
            refine q_ixRT y2 w1 (wok.at2 hi true) (fun x3 y3 => ?_)
            walk_at "q"
            refine q_slTo (k := 1) (b := true) y3 w1 (fun G2 H2 p2 g2 r2 => ?_)
            rw [← List.map_take] at r2
            replace r2 : Rp K G2 (.ref p2) (.tuple ((hand M W i).map (msgD true))) := by
              rw [hh]
              exact r2
            refine q_fmT (h := msgD true) (f := fun m => some (Deed.lose i m.1).d) r2 g2.w (by have := hand_len M W i; have := wok.row i; omega) (fun j m u3 G3 H3 hm' gr3 ru C N yes no => ?_) (fun G3 H3 D g3 hD r3 => ?_)
            · have w3 := gr3.w
              walk_at "q"
              refine ⟨rfl, ?_⟩
              walk_at "q"
              refine q_ixRT ru w3 rfl (fun u6 hu6 => ?_)
              obtain rfl := rp_nD hu6
              walk_at "q"
              rename_i p hp
              exact yes _ _ _ _ rfl (Gro.new w3 hp) (.tup (.inl (.inl upd_same)) (.cons (.str _) (.cons (.int _) (.cons (.int _) .nil))))
            · rw [fm_map, show ((hand M W i).map fun m => (Deed.lose i m.1).d) = (lossesM M W i).map Deed.d from by rw [lossesM, if_pos hlo, List.map_map]; rfl] at r3
              obtain ⟨al, zs, e, hL, hz⟩ := rp_lst r3
              cases e
              obtain ⟨c1, c2, c3, c4⟩ := one_step ac hr1 (g2.trans0 g3) hL hz (by rw [List.length_map, List.length_map]; have := losses_len wok i; rw [List.length_append]; omega)
              refine q_cat c1 c2 c3 (fun p hp => ?_)
              obtain ⟨c5, c6⟩ := c4 p hp
              refine ⟨_, _, p, _, _, rfl, c5, ?_⟩
              rw [List.map_append]
              exact c6
          · rw [if_neg h, List.append_nil]
            walk_at "q"
            exact ⟨_, _, l, vs, G', rfl, ac, hr1⟩
        · clear hr1 ac w1 eg
          rintro σ' H' ⟨z3, z4, l, vs, G', rfl, ac, hr1⟩
          have w1 := ac.w
          have eg := ac.gr.g
          walk_at "q"
          refine q_ixRT (hv.mono eg) w1 rfl (fun v1 h1 => ?_)
          walk_at "q"
          refine q_ixRT h1 w1 (MN.chan hi) (fun v2 h2 => ?_)
          walk_at "q"
          refine q_ixRT h2 w1 rfl (fun v3 h3 => ?_)
          cases h3
          walk_at "q"
          refine q_ifd (fun h => ?_) (fun h => ?_)
          · obtain ⟨hlo, hor⟩ := k2 h
            rw [← kindM_at hi] at hlo hor
            have hh : hand M W i = rowM W i := by unfold hand; rw [if_neg (by rw [hor]; decide)]
            have hn : M.C[i].k ≠ "order lossy" := by rw [h]; decide +kernel
            rw [if_neg hn, List.append_nil] at hr1
            walk_at "q"
            refine q_lcT ?_
            walk_at "q"
            refine q_ixRT (hu.mono eg) w1 rfl (fun x2 y2 => ?_)
            walk_at "q"
            refine q_ixRT y2 w1 (wok.at2 hi true) (fun x3 y3 => ?_)
            have g2 := Gro.refl (b := none) w1
            have r2 : Rp K G' x3 (.tuple ((hand M W i).map (msgD true))) := by
              rw [hh]
              exact y3
            refine q_fmT (h := msgD true) (f := fun m => some (Deed.lose i m.1).d) r2 g2.w (by have := hand_len M W i; have := wok.row i; omega) (fun j m u3 G3 H3 hm' gr3 ru C N yes no => ?_) (fun G3 H3 D g3 hD r3 => ?_)
            · have w3 := gr3.w
              walk_at "q"
              refine ⟨rfl, ?_⟩
              walk_at "q"
              refine q_ixRT ru w3 rfl (fun u6 hu6 => ?_)
              obtain rfl := rp_nD hu6
              walk_at "q"
              rename_i p hp
              exact yes _ _ _ _ rfl (Gro.new w3 hp) (.tup (.inl (.inl upd_same)) (.cons (.str _) (.cons (.int _) (.cons (.int _) .nil))))
            · rw [fm_map, show ((hand M W i).map fun m => (Deed.lose i m.1).d) = (lossesM M W i).map Deed.d from by rw [lossesM, if_pos hlo, List.map_map]; rfl] at r3
              obtain ⟨al, zs, e, hL, hz⟩ := rp_lst r3
              cases e
              obtain ⟨c1, c2, c3, c4⟩ := one_step ac hr1 (g2.trans0 g3) hL hz (by rw [List.length_map, List.length_map]; have := losses_len wok i; rw [List.length_append]; omega)
              refine q_cat c1 c2 c3 (fun p hp => ?_)
              obtain ⟨c5, c6⟩ := c4 p hp
              refine ⟨_, _, _, p, _, _, rfl, c5, ?_⟩
              rw [flat_next, ← List.append_assoc, List.map_append]
              exact c6
          · walk_at "q"
            refine ⟨_, _, _, l, vs, G', rfl, ac, ?_⟩
            rw [flat_next, ← List.append_assoc]
            by_cases h5 : M.C[i].k = "order lossy"
            · rw [if_pos h5] at hr1
              exact hr1
            · rw [if_neg h5] at hr1
              have e0 : lossesM M W i = [] := by unfold lossesM; rw [kindM_at hi, if_neg (by rw [k3 h5 h]; decide)]
              rw [e0]
              exact hr1
      · rintro σ' H' ⟨z3, z4, z5, l, vs, G', rfl, ac, hr1⟩
        walk_at "q"
        refine q_tupL ac.hl (fun p hp => ?_)
        have g3 := Gro.new (o := .tup vs) ac.know.w hp
        walk_at "q"
        exact q _ _ p (ac.know.trans0 g3) (.tup (.inl (.inl upd_same)) (hr1.mono ((Ex.new ac.gl).trans g3.g)))
end
end Cw

set_option maxHeartbeats 4000000
namespace Cw
open PySem PySem.Spec PyProof.Rows L2
section
variable {P : Program} {w : World} {K : PySem.W.Frag} {mg : Str → Option Value} {base : Heap}
abbrev s__law_done : Stmt := topS 54
abbrev N__law_done : List Str := ["net", "world", "deed", "states", "sent", "present", "left", "rule", "c", "row", "pair"]
theorem sc__law_done : FnScope N__law_done ["net", "world", "deed"] (defScope s__law_done) := ⟨rfl, rfl, rfl, by decide +kernel, rfl, by decide +kernel, by decide +kernel⟩
def sp_ldone (K : PySem.W.Frag) : Sp := fun vs H Q _ => ∃ (G : Hp) (v u x : V) (M : MN) (W : Wd) (B : Nat) (D : Deed), vs = [v, u, x] ∧ Ex G H ∧ MNOk M ∧ Rp K G v M.d ∧ Rp K G u (W.d true) ∧ WdOk M W B ∧ B ≤ 900 ∧ Rp K G x D.d ∧ DV M D ∧
  ∀ G2 H2 p, Gro none G H G2 H2 → Rp K G2 (.ref p) ((stepM M W D).d true) → Q (.ref p) H2
theorem c_ldone {f : Addr} {fd : FuncData} (F : FnP K "_law_done" s__law_done f fd) (hm : mg "_law_done" = some (.ref f)) (B : Blt mg) (C__law_with : Cal P w K mg base 1 "_law_with" ["row", "at", "value"] (sp_changed K)) : Cal P w K mg base 2 "_law_done" ["net", "world", "deed"] (sp_ldone K) := by
  refine cal_of F hm sc__law_done (fun _ _ _ _ _ _ _ us hl => match us, hl with | [_, _, _], _ => rfl) (fun vs H Q E h => ?_) (fun cdv A outer s H vs Q E hr h => ?_)
  · obtain ⟨_, _, _, _, _, _, _, _, rfl, _⟩ := h
    rfl
  · obtain ⟨G, v, u, x, M, W, BB, D, rfl, eG, ok, hv, hu, wok, hB, hd, dv, q⟩ := h
    have nd := sc__law_done.nd
    have lsW : W.s.length ≤ 1000 := by rw [wok.ls]; have := ok.lp; omega
    have lnW : W.n.length ≤ 1000 := by rw [wok.ln]; have := ok.lc; omega
    have lpW : W.p.length ≤ 1000 := by rw [wok.lp]; have := ok.lc; omega
    refine ⟨_, [some _, some _, some _, none, none, none, none, none, none, none, none], ((pss_cons (ps_asg (pv 1) (pg_seqK (K := K) (n := 3) rfl rfl (pgs_cons (pg_name (i := 3) nd rfl (by first | exact Or.inl rfl | exact Or.inr rfl)) (pgs_cons (pg_name (i := 4) nd rfl (by first | exact Or.inl rfl | exact Or.inr rfl)) (pgs_cons (pg_name (i := 5) nd rfl (by first | exact Or.inl rfl | exact Or.inr rfl)) pgs_nil)))))
      (pss_cons (ps_if (pt_cmpR (op_eqK (K := K) rfl (hu64 hr)) (pe_ix (ix_seqK (K := K) rfl) (pv 2) pe_int (fun _ _ => rfl)) pe_str (nomark _)) (pss_cons (ps_set (i := 6) nd rfl (Or.inl rfl) (pe_callTy (call_tupK (K := K) rfl) (by rfl) B.tuple_ bo_tuple (pa_cons (pe_lc (own := [("pair", 10)]) rfl nd (pi_seqK (K := K) rfl (pe_ix (ix_seqK (K := K) rfl) (pv 5) (pe_ix (ix_seqK (K := K) rfl) (pv 2) pe_int (fun _ _ => rfl)) (fun _ _ => rfl))) (blkOk_by (N := N__law_done) (sc := defScope s__law_done) (by decide +kernel)) (fun _ _ _ _ _ => (pg_name (i := 10) nd rfl (by first | exact Or.inl rfl | exact Or.inr rfl))) (fun _ _ _ _ _ => (pts_one (pt_cmpR (op_neK (K := K) rfl (hu64 hr)) (pe_ix (ix_seqK (K := K) rfl) (pv 10) pe_int (fun _ _ => rfl)) (pe_ix (ix_seqK (K := K) rfl) (pv 2) pe_int (fun _ _ => rfl)) (nomark _)))) (fun _ _ _ _ _ => (pv 10))) pa_nil)))
      (pss_one (ps_ret (pe_tup (pa_cons (pv 3) (pa_cons (pv 4) (pa_cons (pe_callC C__law_with (hr.mono (by omega)) (by rfl) (pa_cons (pv 5) (pa_cons (pe_ix (ix_seqK (K := K) rfl) (pv 2) pe_int (fun _ _ => rfl)) (pa_cons (pv 6) pa_nil)))) pa_nil))))))) pss_nil)
      (pss_cons (ps_set (i := 7) nd rfl (Or.inl rfl) (pe_ix (ix_seqK (K := K) rfl) (pe_ix (ix_seqK (K := K) rfl) (pv 0) pe_int (fun _ _ => rfl)) (pe_ix (ix_seqK (K := K) rfl) (pv 2) pe_int (fun _ _ => rfl)) (fun _ _ => rfl)))
      (pss_cons (ps_set (i := 3) nd rfl (Or.inl rfl) (pe_callC C__law_with (hr.mono (by omega)) (by rfl) (pa_cons (pv 3) (pa_cons (pe_ix (ix_seqK (K := K) rfl) (pv 7) pe_int (fun _ _ => rfl)) (pa_cons (pe_ix (ix_seqK (K := K) rfl) (pv 7) pe_int (fun _ _ => rfl)) pa_nil)))))
      (pss_cons (ps_if (pt_cmpR (op_eqK (K := K) rfl (hu64 hr)) (pe_ix (ix_seqK (K := K) rfl) (pe_ix (ix_seqK (K := K) rfl) (pv 7) pe_int (fun _ _ => rfl)) pe_int (fun _ _ => rfl)) pe_str (nomark _)) (pss_one (ps_ret (pe_tup (pa_cons (pv 3) (pa_cons (pv 4) (pa_cons (pv 5) pa_nil)))))) pss_nil)
      (pss_cons (ps_set (i := 8) nd rfl (Or.inl rfl) (pe_ix (ix_seqK (K := K) rfl) (pe_ix (ix_seqK (K := K) rfl) (pv 7) pe_int (fun _ _ => rfl)) pe_int (fun _ _ => rfl)))
      (pss_cons (ps_if (pt_cmpR (op_eqK (K := K) rfl (hu64 hr)) (pe_ix (ix_seqK (K := K) rfl) (pe_ix (ix_seqK (K := K) rfl) (pv 7) pe_int (fun _ _ => rfl)) pe_int (fun _ _ => rfl)) pe_str (nomark _)) (pss_cons (ps_set (i := 9) nd rfl (Or.inl rfl) (pe_op (op_addK (K := K) rfl) (pe_ix (ix_seqK (K := K) rfl) (pv 5) (pv 8) (fun _ _ => rfl)) (pe_tup (pa_cons (pe_tup (pa_cons (pe_ix (ix_seqK (K := K) rfl) (pv 4) (pv 8) (fun _ _ => rfl)) (pa_cons (pe_ix (ix_seqK (K := K) rfl) (pe_ix (ix_seqK (K := K) rfl) (pv 7) pe_int (fun _ _ => rfl)) pe_int (fun _ _ => rfl)) pa_nil))) pa_nil))))
      (pss_one (ps_ret (pe_tup (pa_cons (pv 3) (pa_cons (pe_callC C__law_with (hr.mono (by omega)) (by rfl) (pa_cons (pv 4) (pa_cons (pv 8) (pa_cons (pe_op (op_addK (K := K) rfl) (pe_ix (ix_seqK (K := K) rfl) (pv 4) (pv 8) (fun _ _ => rfl)) pe_int) pa_nil)))) (pa_cons (pe_callC C__law_with (hr.mono (by omega)) (by rfl) (pa_cons (pv 5) (pa_cons (pv 8) (pa_cons (pv 9) pa_nil)))) pa_nil))))))) pss_nil)
      (pss_cons (ps_set (i := 6) nd rfl (Or.inl rfl) (pe_callTy (call_tupK (K := K) rfl) (by rfl) B.tuple_ bo_tuple (pa_cons (pe_lc (own := [("pair", 10)]) rfl nd (pi_seqK (K := K) rfl (pe_ix (ix_seqK (K := K) rfl) (pv 5) (pv 8) (fun _ _ => rfl))) (blkOk_by (N := N__law_done) (sc := defScope s__law_done) (by decide +kernel)) (fun _ _ _ _ _ => (pg_name (i := 10) nd rfl (by first | exact Or.inl rfl | exact Or.inr rfl))) (fun _ _ _ _ _ => (pts_one (pt_cmpR (op_neK (K := K) rfl (hu64 hr)) (pe_ix (ix_seqK (K := K) rfl) (pv 10) pe_int (fun _ _ => rfl)) (pe_ix (ix_seqK (K := K) rfl) (pv 2) pe_int (fun _ _ => rfl)) (nomark _)))) (fun _ _ _ _ _ => (pv 10))) pa_nil)))
      (pss_one (ps_ret (pe_tup (pa_cons (pv 3) (pa_cons (pv 4) (pa_cons (pe_callC C__law_with (hr.mono (by omega)) (by rfl) (pa_cons (pv 5) (pa_cons (pv 8) (pa_cons (pv 6) pa_nil)))) pa_nil))))))))))))))), rfl, ?_⟩
    walk_at "q"
    refine q_gSeq hu (.inr rfl) eG rfl (fun us hus => ?_)
    obtain ⟨st, _, rfl, hst, hus⟩ := rps_cons hus
    obtain ⟨sn, pr, rfl, hsn, hpr⟩ := rps2 hus
    walk_at "q"
    cases D with
    | lose c k =>
      have hc : c < M.C.length := dv
      have es : stepM M W (.lose c k) = ⟨W.s, W.n, gone W c k⟩ := rfl
      refine q_ixRT hd eG (atI_nat (j := 0) rfl) (fun u0 hu0 => ?_)
      cases hu0
      walk_at "q"
      refine q_lcT ?_
      walk_at "q"
      refine q_ixRT hd eG rfl (fun x3 x3h => ?_)
      obtain rfl := rp_nD x3h
      refine q_ixRT hpr eG (wok.at2 hc true) (fun x4 x4h => ?_)
      refine q_fmT (h := msgD true) (f := fun m => if decide (m.1 ≠ k) then some (msgD true m) else none) x4h eG (by have := wok.row c; omega) (fun j m u3 G3 H3 hm' gr3 ru C N yes no => ?_) (fun G3 H3 D g3 hD r3 => ?_)
      · have w3 := gr3.w
        walk_at "q"
        refine ⟨rfl, ?_⟩
        walk_at "q"
        refine q_ixRT ru w3 rfl (fun u0 hu0 => ?_)
        obtain rfl := rp_nD hu0
        walk_at "q"
        refine q_ixRT (hd.mono (gr3.g)) w3 rfl (fun u4 hu4 => ?_)
        obtain rfl := rp_nD hu4
        walk_at "q"
        refine q_ifnd (fun h => ?_) (fun h => ?_)
        · walk_at "q"
          exact yes _ _ _ _ (by rw [if_pos]; simp; omega) (Gro.refl w3) ru
        · walk_at "q"
          exact no _ _ (by rw [if_neg]; simp; omega) (Gro.refl w3)
      · walk_at "q"
        refine q_tupRS r3 (.inl rfl) g3.w (fun G4 H4 p4 g4 r4 => ?_)
        rw [fm_filt] at r4
        have r4' : Rp K G4 (.ref p4) (rowMD true ((rowM W c).filter fun m => decide (m.1 ≠ k))) := r4
        have g34 := g3.trans0 g4
        have w4 := g4.w
        walk_at "q"
        refine q_ixRT (hd.mono g34.g) w4 rfl (fun x5 x5h => ?_)
        obtain rfl := rp_nD x5h
        walk_at "q"
        refine ⟨G4, pr, .ref p4, c, W.p.map (rowMD true), _, rfl, w4, hpr.mono g34.g, by rw [List.length_map, wok.lp]; exact hc, by rw [List.length_map]; exact lpW, r4', fun G5 H5 p5 g5 r5 => ?_⟩
        rw [← List.map_set] at r5
        walk_at "q"
        rename_i p9 hp9
        have g9 := Gro.new (o := .tup [st, sn, .ref p5]) g5.w hp9
        refine q _ _ p9 ((g34.trans0 g5).trans0 g9) ?_
        rw [es]
        exact .tup (.inl (.inl upd_same)) (.cons (hst.mono (g34.g.trans (g5.g.trans g9.g))) (.cons (hsn.mono (g34.g.trans (g5.g.trans g9.g))) (.cons (r5.mono g9.g) .nil)))
    | act r =>
      obtain ⟨ac, ha, hnt⟩ := dv
      cases ac with
      | take c k => exact absurd rfl (hnt c k)
      | do_ =>
        obtain ⟨hr, ea⟩ : ∃ h : r < M.R.length, M.R[r].a = .do_ := by
          cases e : M.R[r]? with
          | none =>
            rw [e] at ha
            cases ha
          | some R =>
            obtain ⟨h1, h2⟩ := List.getElem?_eq_some_iff.mp e
            rw [e] at ha
            exact ⟨h1, by rw [h2]; exact Option.some.inj ha⟩
        obtain ⟨hp, hcc⟩ := ok.ru _ (List.getElem_mem hr)
        have hps : M.R[r].p < W.s.length := by rw [wok.ls]; exact hp
        refine q_ixRT hd eG (atI_nat (j := 0) rfl) (fun u0 hu0 => ?_)
        cases hu0
        walk_at "q"
        refine q_ixRT hv eG rfl (fun x1 x1h => ?_)
        walk_at "q"
        refine q_ixRT hd eG rfl (fun x2 x2h => ?_)
        obtain rfl := rp_nD x2h
        refine q_ixRT x1h eG (MN.rule hr) (fun x3 x3h => ?_)
        walk_at "q"
        refine q_ixRT x3h eG rfl (fun y1 y1h => ?_)
        obtain rfl := rp_nD y1h
        walk_at "q"
        refine q_ixRT x3h eG rfl (fun y2 y2h => ?_)
        walk_at "q"
        refine ⟨G, st, y2, M.R[r].p, W.s.map nD, nD M.R[r].t, rfl, eG, hst, by rw [List.length_map]; exact hps, by rw [List.length_map]; exact lsW, y2h, fun G1 H1 p1 g1 r1 => ?_⟩
        rw [← List.map_set] at r1
        have w1 := g1.w
        have x3h1 := x3h.mono g1.g
        walk_at "q"
        refine q_ixRT x3h1 w1 rfl (fun y3 y3h => ?_)
        rw [ea] at hcc
        have y3h' : Rp K G1 y3 (Act.d .do_) := by rw [← ea]; exact y3h
        walk_at "q"
        refine q_ixRT y3h' w1 (atI_nat (j := 0) rfl) (fun y4 y4h => ?_)
        cases y4h
        walk_at "q"
        have es : stepM M W (.act r) = ⟨W.s.set M.R[r].p M.R[r].t, W.n, W.p⟩ := by simp [stepM, hr, ea]
        walk_at "q"
        rename_i p9 hp9
        have g9 := Gro.new (o := .tup [.ref p1, sn, pr]) w1 hp9
        refine q _ _ p9 (g1.trans0 g9) ?_
        rw [es]
        exact .tup (.inl (.inl upd_same)) (.cons (r1.mono g9.g) (.cons (hsn.mono (g1.g.trans g9.g)) (.cons (hpr.mono (g1.g.trans g9.g)) .nil)))
      | send c k =>
        obtain ⟨hr, ea⟩ : ∃ h : r < M.R.length, M.R[r].a = (.send c k) := by
          cases e : M.R[r]? with
          | none =>
            rw [e] at ha
            cases ha
          | some R =>
            obtain ⟨h1, h2⟩ := List.getElem?_eq_some_iff.mp e
            rw [e] at ha
            exact ⟨h1, by rw [h2]; exact Option.some.inj ha⟩
        obtain ⟨hp, hcc⟩ := ok.ru _ (List.getElem_mem hr)
        have hps : M.R[r].p < W.s.length := by rw [wok.ls]; exact hp
        refine q_ixRT hd eG (atI_nat (j := 0) rfl) (fun u0 hu0 => ?_)
        cases hu0
        walk_at "q"
        refine q_ixRT hv eG rfl (fun x1 x1h => ?_)
        walk_at "q"
        refine q_ixRT hd eG rfl (fun x2 x2h => ?_)
        obtain rfl := rp_nD x2h
        refine q_ixRT x1h eG (MN.rule hr) (fun x3 x3h => ?_)
        walk_at "q"
        refine q_ixRT x3h eG rfl (fun y1 y1h => ?_)
        obtain rfl := rp_nD y1h
        walk_at "q"
        refine q_ixRT x3h eG rfl (fun y2 y2h => ?_)
        walk_at "q"
        refine ⟨G, st, y2, M.R[r].p, W.s.map nD, nD M.R[r].t, rfl, eG, hst, by rw [List.length_map]; exact hps, by rw [List.length_map]; exact lsW, y2h, fun G1 H1 p1 g1 r1 => ?_⟩
        rw [← List.map_set] at r1
        have w1 := g1.w
        have x3h1 := x3h.mono g1.g
        walk_at "q"
        refine q_ixRT x3h1 w1 rfl (fun y3 y3h => ?_)
        rw [ea] at hcc
        have y3h' : Rp K G1 y3 (Act.d (.send c k)) := by rw [← ea]; exact y3h
        walk_at "q"
        refine q_ixRT y3h' w1 (atI_nat (j := 0) rfl) (fun y4 y4h => ?_)
        cases y4h
        walk_at "q"
        refine q_ixRT x3h1 w1 rfl (fun y3 y3h => ?_)
        have y3h' : Rp K G1 y3 (Act.d (.send c k)) := by rw [← ea]; exact y3h
        walk_at "q"
        refine q_ixRT y3h' w1 (atI_nat (j := 1) rfl) (fun y5 y5h => ?_)
        cases y5h
        walk_at "q"
        refine q_ixRT x3h1 w1 rfl (fun y3 y3h => ?_)
        have y3h' : Rp K G1 y3 (Act.d (.send c k)) := by rw [← ea]; exact y3h
        walk_at "q"
        refine q_ixRT y3h' w1 (atI_nat (j := 0) rfl) (fun y4 y4h => ?_)
        cases y4h
        walk_at "q"
        have hcl := hcc c k (.inl rfl)
        have hcn : c < W.n.length := by rw [wok.ln]; exact hcl
        have hcp : c < W.p.length := by rw [wok.lp]; exact hcl
        have egn : W.n.getD c 0 = W.n[c] := by rw [List.getD_eq_getElem?_getD, List.getElem?_eq_getElem hcn] <;> rfl
        have es : stepM M W (.act r) = ⟨W.s.set M.R[r].p M.R[r].t, W.n.set c (W.n[c] + 1), W.p.set c (rowM W c ++ [(W.n[c], k)])⟩ := by
          rw [← egn]
          simp [stepM, hr, ea]
        refine q_ixRT (hpr.mono g1.g) w1 (wok.at2 hcl true) (fun z1 z1h => ?_)
        walk_at "q"
        refine q_ixRT (hsn.mono g1.g) w1 (at_map hcn) (fun z2 z2h => ?_)
        obtain rfl := rp_nD z2h
        walk_at "q"
        refine q_ixRT x3h1 w1 rfl (fun y3 y3h => ?_)
        have y3h' : Rp K G1 y3 (Act.d (.send c k)) := by rw [← ea]; exact y3h
        walk_at "q"
        refine q_ixRT y3h' w1 (atI_nat (j := 2) rfl) (fun y6 y6h => ?_)
        cases y6h
        walk_at "q"
        rename_i p2 hp2 p3 hp3
        have g2 := Gro.new (o := .tup [.int (W.n[c] : Int), .int (k : Int)]) w1 hp2
        have g3 := Gro.new (o := .tup [.ref p2]) g2.w hp3
        have r3 : Rp K (L2.upd (L2.upd G1 p2 (.tup [.int (W.n[c] : Int), .int (k : Int)])) p3 (.tup [.ref p2])) (.ref p3) (.tuple [msgD true (W.n[c], k)]) := .tup (.inl (.inl upd_same)) (.cons (Rp.mono g3.g (.tup (.inl (.inl upd_same)) (.cons (.int _) (.cons (.int _) .nil)))) .nil)
        have g23 := g2.trans0 g3
        have w3 := g3.w
        generalize L2.upd (L2.upd G1 p2 (.tup [.int (W.n[c] : Int), .int (k : Int)])) p3 (.tup [.ref p2]) = G3 at g23 r3 w3
        generalize L2.upd (L2.upd H1 p2 (.tup [.int (W.n[c] : Int), .int (k : Int)])) p3 (.tup [.ref p2]) = H3 at g23 w3 ⊢
        clear g2 g3 hp2 hp3
        refine .inr (.inr (.inl (q_catTT (ds := (rowM W c).map (msgD true)) (z1h.mono g23.g) r3 w3 (by have := wok.row c; rw [List.length_map]; simp only [List.length_cons, List.length_nil]; omega) (fun G4 H4 p4 g4 r4 => ?_))))
        have r4' : Rp K G4 (.ref p4) (rowMD true (rowM W c ++ [(W.n[c], k)])) := by
          rw [rowMD, List.map_append]
          exact r4
        have w4 := g4.w
        have g14 := g23.trans0 g4
        walk_at "q"
        refine q_ixRT (hsn.mono (g1.g.trans g14.g)) w4 (at_map hcn) (fun z3 z3h => ?_)
        obtain rfl := rp_nD z3h
        walk_at "q"
        refine ⟨G4, sn, .int ((W.n[c] : Int) + 1), c, W.n.map nD, nD (W.n[c] + 1), rfl, w4, hsn.mono (g1.g.trans g14.g), by rw [List.length_map]; exact hcn, by rw [List.length_map]; exact lnW, .int _, fun G5 H5 p5 g5 r5 => ?_⟩
        rw [← List.map_set] at r5
        have w5 := g5.w
        walk_at "q"
        refine ⟨G5, pr, .ref p4, c, W.p.map (rowMD true), _, rfl, w5, hpr.mono (g1.g.trans (g14.g.trans g5.g)), by rw [List.length_map]; exact hcp, by rw [List.length_map]; exact lpW, r4'.mono g5.g, fun G6 H6 p6 g6 r6 => ?_⟩
        rw [← List.map_set] at r6
        walk_at "q"
        rename_i p9 hp9
        have g9 := Gro.new (o := .tup [.ref p1, .ref p5, .ref p6]) g6.w hp9
        refine q _ _ p9 ((((g1.trans0 g14).trans0 g5).trans0 g6).trans0 g9) ?_
        rw [es]
        exact .tup (.inl (.inl upd_same)) (.cons (r1.mono (g14.g.trans (g5.g.trans (g6.g.trans g9.g)))) (.cons (r5.mono (g6.g.trans g9.g)) (.cons (r6.mono g9.g) .nil)))
    | take r k =>
      obtain ⟨c, t, ha⟩ := dv
      obtain ⟨hr, ea⟩ : ∃ h : r < M.R.length, M.R[r].a = (.take c t) := by
        cases e : M.R[r]? with
        | none =>
          rw [e] at ha
          cases ha
        | some R =>
          obtain ⟨h1, h2⟩ := List.getElem?_eq_some_iff.mp e
          rw [e] at ha
          exact ⟨h1, by rw [h2]; exact Option.some.inj ha⟩
      obtain ⟨hp, hcc⟩ := ok.ru _ (List.getElem_mem hr)
      have hps : M.R[r].p < W.s.length := by rw [wok.ls]; exact hp
      refine q_ixRT hd eG (atI_nat (j := 0) rfl) (fun u0 hu0 => ?_)
      cases hu0
      walk_at "q"
      refine q_ixRT hv eG rfl (fun x1 x1h => ?_)
      walk_at "q"
      refine q_ixRT hd eG rfl (fun x2 x2h => ?_)
      obtain rfl := rp_nD x2h
      refine q_ixRT x1h eG (MN.rule hr) (fun x3 x3h => ?_)
      walk_at "q"
      refine q_ixRT x3h eG rfl (fun y1 y1h => ?_)
      obtain rfl := rp_nD y1h
      walk_at "q"
      refine q_ixRT x3h eG rfl (fun y2 y2h => ?_)
      walk_at "q"
      refine ⟨G, st, y2, M.R[r].p, W.s.map nD, nD M.R[r].t, rfl, eG, hst, by rw [List.length_map]; exact hps, by rw [List.length_map]; exact lsW, y2h, fun G1 H1 p1 g1 r1 => ?_⟩
      rw [← List.map_set] at r1
      have w1 := g1.w
      have x3h1 := x3h.mono g1.g
      walk_at "q"
      refine q_ixRT x3h1 w1 rfl (fun y3 y3h => ?_)
      rw [ea] at hcc
      have y3h' : Rp K G1 y3 (Act.d (.take c t)) := by rw [← ea]; exact y3h
      walk_at "q"
      refine q_ixRT y3h' w1 (atI_nat (j := 0) rfl) (fun y4 y4h => ?_)
      cases y4h
      walk_at "q"
      refine q_ixRT x3h1 w1 rfl (fun y3 y3h => ?_)
      have y3h' : Rp K G1 y3 (Act.d (.take c t)) := by rw [← ea]; exact y3h
      walk_at "q"
      refine q_ixRT y3h' w1 (atI_nat (j := 1) rfl) (fun y5 y5h => ?_)
      cases y5h
      walk_at "q"
      refine q_ixRT x3h1 w1 rfl (fun y3 y3h => ?_)
      have y3h' : Rp K G1 y3 (Act.d (.take c t)) := by rw [← ea]; exact y3h
      walk_at "q"
      refine q_ixRT y3h' w1 (atI_nat (j := 0) rfl) (fun y4 y4h => ?_)
      cases y4h
      walk_at "q"
      have hcl := hcc c t (.inr rfl)
      have hcp : c < W.p.length := by rw [wok.lp]; exact hcl
      have es : stepM M W (.take r k) = ⟨W.s.set M.R[r].p M.R[r].t, W.n, gone W c k⟩ := by simp [stepM, hr, ea]
      refine q_lcT ?_
      walk_at "q"
      refine q_ixRT (hpr.mono g1.g) w1 (wok.at2 hcl true) (fun x4 x4h => ?_)
      refine q_fmT (h := msgD true) (f := fun m => if decide (m.1 ≠ k) then some (msgD true m) else none) x4h w1 (by have := wok.row c; omega) (fun j m u3 G3 H3 hm' gr3 ru C N yes no => ?_) (fun G3 H3 D g3 hD r3 => ?_)
      · have w3 := gr3.w
        walk_at "q"
        refine ⟨rfl, ?_⟩
        walk_at "q"
        refine q_ixRT ru w3 rfl (fun u0 hu0 => ?_)
        obtain rfl := rp_nD hu0
        walk_at "q"
        refine q_ixRT (hd.mono (g1.g.trans gr3.g)) w3 rfl (fun u4 hu4 => ?_)
        obtain rfl := rp_nD hu4
        walk_at "q"
        refine q_ifnd (fun h => ?_) (fun h => ?_)
        · walk_at "q"
          exact yes _ _ _ _ (by rw [if_pos]; simp; omega) (Gro.refl w3) ru
        · walk_at "q"
          exact no _ _ (by rw [if_neg]; simp; omega) (Gro.refl w3)
      · walk_at "q"
        refine q_tupRS r3 (.inl rfl) g3.w (fun G4 H4 p4 g4 r4 => ?_)
        rw [fm_filt] at r4
        have r4' : Rp K G4 (.ref p4) (rowMD true ((rowM W c).filter fun m => decide (m.1 ≠ k))) := r4
        have g34 := g3.trans0 g4
        have w4 := g4.w
        walk_at "q"
        refine ⟨G4, pr, .ref p4, c, W.p.map (rowMD true), _, rfl, w4, hpr.mono (g1.g.trans g34.g), by rw [List.length_map]; exact hcp, by rw [List.length_map]; exact lpW, r4', fun G5 H5 p5 g5 r5 => ?_⟩
        rw [← List.map_set] at r5
        walk_at "q"
        rename_i p9 hp9
        have g9 := Gro.new (o := .tup [.ref p1, sn, .ref p5]) g5.w hp9
        refine q _ _ p9 (((g1.trans0 g34).trans0 g5).trans0 g9) ?_
        rw [es]
        exact .tup (.inl (.inl upd_same)) (.cons (r1.mono (g34.g.trans (g5.g.trans g9.g))) (.cons (hsn.mono (g1.g.trans (g34.g.trans (g5.g.trans g9.g)))) (.cons (r5.mono g9.g) .nil)))
end
end Cw

set_option maxHeartbeats 4000000
namespace Cw
open PySem PySem.Spec PyProof.Rows L2
section
variable {P : Program} {w : World} {K : PySem.W.Frag} {mg : Str → Option Value} {base : Heap}
abbrev s__law_start : Stmt := topS 50
abbrev N__law_start : List Str := ["net"]
theorem sc__law_start : FnScope N__law_start ["net"] (defScope s__law_start) := ⟨rfl, rfl, rfl, by decide +kernel, rfl, by decide +kernel, by decide +kernel⟩
def sp_lstart (K : PySem.W.Frag) : Sp := fun vs H Q _ => ∃ (G : Hp) (v : V) (M : MN), vs = [v] ∧ Ex G H ∧ MNOk M ∧ Rp K G v M.d ∧ ∀ G2 H2 p, Gro none G H G2 H2 → Rp K G2 (.ref p) ((startM M).d true) → Q (.ref p) H2
theorem c_lstart {f : Addr} {fd : FuncData} (F : FnP K "_law_start" s__law_start f fd) (hm : mg "_law_start" = some (.ref f)) (B : Blt mg) : Cal P w K mg base 1 "_law_start" ["net"] (sp_lstart K) := by
  refine cal_of F hm sc__law_start (fun _ _ _ _ _ _ _ us hl => match us, hl with | [_], _ => rfl) (fun vs H Q E h => ?_) (fun cdv A outer s H vs Q E hr h => ?_)
  · obtain ⟨_, _, _, rfl, _⟩ := h
    rfl
  · obtain ⟨G, v, M, rfl, eG, ok, hv, q⟩ := h
    have nd := sc__law_start.nd
    have lp : M.ps.length ≤ 1000 := by have := ok.lp; omega
    have lc : (M.C.map Chn.d).length ≤ 1000 := by rw [List.length_map]; have := ok.lc; omega
    refine ⟨_, [some _], ((pss_one (ps_ret (pe_tup (pa_cons (pe_callTy (call_tupK (K := K) rfl) (by rfl) B.tuple_ bo_tuple (pa_cons (pe_op (op_mulB (K := K) rfl) (pe_lst (pa_cons pe_int pa_nil)) (pe_callB (call_lenK (K := K) rfl) (by rfl) B.len_ bo_len (pa_cons (pe_ix (ix_seqK (K := K) rfl) (pv 0) pe_int (fun _ _ => rfl)) pa_nil))) pa_nil)) (pa_cons (pe_callTy (call_tupK (K := K) rfl) (by rfl) B.tuple_ bo_tuple (pa_cons (pe_op (op_mulB (K := K) rfl) (pe_lst (pa_cons pe_int pa_nil)) (pe_callB (call_lenK (K := K) rfl) (by rfl) B.len_ bo_len (pa_cons (pe_ix (ix_seqK (K := K) rfl) (pv 0) pe_int (fun _ _ => rfl)) pa_nil))) pa_nil)) (pa_cons (pe_callTy (call_tupK (K := K) rfl) (by rfl) B.tuple_ bo_tuple (pa_cons (pe_op (op_mulB (K := K) rfl) (pe_lst (pa_cons (pe_tup pa_nil) pa_nil)) (pe_callB (call_lenK (K := K) rfl) (by rfl) B.len_ bo_len (pa_cons (pe_ix (ix_seqK (K := K) rfl) (pv 0) pe_int (fun _ _ => rfl)) pa_nil))) pa_nil)) pa_nil))))))), rfl, ?_⟩
    walk_at "q"
    refine q_ixRT hv (by walk_at "ex") rfl (fun x0 i0 => ?_)
    walk_at "q"
    refine q_repL (by walk_at "at") lp (fun p1 hp1 => ?_)
    walk_at "q"
    refine q_tupL (by walk_at "at") (fun p2 hp2 => ?_)
    walk_at "q"
    refine q_ixRT hv (by walk_at "ex") rfl (fun x1 i1 => ?_)
    walk_at "q"
    refine q_repL (by walk_at "at") lc (fun p3 hp3 => ?_)
    walk_at "q"
    refine q_tupL (by walk_at "at") (fun p4 hp4 => ?_)
    walk_at "q"
    refine q_ixRT hv (by walk_at "ex") rfl (fun x2 i2 => ?_)
    walk_at "q"
    refine q_repL (by walk_at "at") lc (fun p5 hp5 => ?_)
    walk_at "q"
    refine q_tupL (by walk_at "at") (fun p6 hp6 => ?_)
    walk_at "q"
    rename_i px hpx
    obtain ⟨G4, g4, k4, kp⟩ := Lay.know2 eG hpx (by walk_at "lay") (.tup _)
    refine q _ _ px g4 ?_
    rw [← start_d]
    exact .tup (.inl (.inl kp)) (.cons (.tupK k4 (by walk_at "mem") (Rps.rep (.int 0) _)) (.cons (.tupK k4 (by walk_at "mem") (Rps.rep (.int 0) _)) (.cons (.tupK k4 (by walk_at "mem") (Rps.rep (.tupK k4 (by walk_at "mem") .nil) _)) .nil)))
abbrev s__law_step : Stmt := topS 55
abbrev N__law_step : List Str := ["box", "net", "world", "deeds", "deed"]
theorem sc__law_step : FnScope N__law_step ["box", "net", "world"] (defScope s__law_step) := ⟨rfl, rfl, rfl, by decide +kernel, rfl, by decide +kernel, by decide +kernel⟩
def sp_step (K : PySem.W.Frag) : Sp := fun vs H Q _ => ∃ (G : Hp) (b : Addr) (v u : V) (xs : List V) (M : MN) (W : Wd) (B : Nat), vs = [.ref b, v, u] ∧ Ex G H ∧ G b = none ∧ H b = some (.lst xs) ∧ BoxL K G xs ∧ MNOk M ∧ Rp K G v M.d ∧ Rp K G u (W.d true) ∧ WdOk M W B ∧ B ≤ 1000 ∧
  ∀ (x : V) (us : List V) (G' H' : Hp), St b G H G' H' us → BoxL K G' us → ((possM M W = [] ∧ Rp K G' x (.tuple [])) ∨ ∃ D ∈ possM M W, Rp K G' x D.d) → Q x H'
theorem c_step {f : Addr} {fd : FuncData} (F : FnP K "_law_step" s__law_step f fd) (hm : mg "_law_step" = some (.ref f)) (B : Blt mg) (C__law_draw : Cal P w K mg base 2 "_law_draw" ["box", "many"] (sp_draw K)) (C__law_possible : Cal P w K mg base 2 "_law_possible" ["net", "world"] (sp_lposs K)) : Cal P w K mg base 3 "_law_step" ["box", "net", "world"] (sp_step K) := by
  refine cal_of F hm sc__law_step (fun _ _ _ _ _ _ _ us hl => match us, hl with | [_, _, _], _ => rfl) (fun vs H Q E h => ?_) (fun cdv A outer s H vs Q E hr h => ?_)
  · obtain ⟨_, _, _, _, _, _, _, _, rfl, _⟩ := h
    rfl
  · obtain ⟨G, b, v, u, xs, M, W, BB, rfl, eG, gb, hb, hB, ok, hv, hu, wok, hBB, q⟩ := h
    have nd := sc__law_step.nd
    have s0 := St.start eG gb hb
    have pl := poss_len ok wok hBB
    refine ⟨_, [some _, some _, some _, none, none], ((pss_cons (ps_set (i := 3) nd rfl (Or.inl rfl) (pe_callC C__law_possible (hr.mono (by omega)) (by rfl) (pa_cons (pv 1) (pa_cons (pv 2) pa_nil))))
      (pss_cons (ps_if (pt_cmpR (op_eqK (K := K) rfl (hu64 hr)) (pe_callB (call_lenK (K := K) rfl) (by rfl) B.len_ bo_len (pa_cons (pv 3) pa_nil)) pe_int (nomark _)) (pss_one (ps_ret (pe_tup pa_nil))) pss_nil)
      (pss_cons (ps_set (i := 4) nd rfl (Or.inl rfl) (pe_ix (ix_seqK (K := K) rfl) (pv 3) (pe_callC C__law_draw (hr.mono (by omega)) (by rfl) (pa_cons (pv 0) (pa_cons (pe_callB (call_lenK (K := K) rfl) (by rfl) B.len_ bo_len (pa_cons (pv 3) pa_nil)) pa_nil))) (fun _ _ => rfl)))
      (pss_cut (ps_if (PW.pt (pw_and (pt_cmpR (op_eqK (K := K) rfl (hu64 hr)) (pe_ix (ix_seqK (K := K) rfl) (pv 4) pe_int (fun _ _ => rfl)) pe_str (nomark _)) (pw_and1 (pt_cmpR op_gt (pe_callC C__law_draw (hr.mono (by omega)) (by rfl) (pa_cons (pv 0) (pa_cons pe_int pa_nil))) pe_int (nomark _))))) (pss_one (ps_set (i := 4) nd rfl (Or.inl rfl) (pe_ix (ix_seqK (K := K) rfl) (pv 3) (pe_callC C__law_draw (hr.mono (by omega)) (by rfl) (pa_cons (pv 0) (pa_cons (pe_callB (call_lenK (K := K) rfl) (by rfl) B.len_ bo_len (pa_cons (pv 3) pa_nil)) pa_nil))) (fun _ _ => rfl)))) pss_nil)
      (pss_one (ps_ret (pv 4)))))))), rfl, ?_⟩
    walk_at "q"
    refine ⟨G, v, u, M, W, BB, rfl, eG, ok, hv, hu, wok, hBB, fun G1 H1 p g1 r1 => ?_⟩
    have s1 := s0.gro g1
    have w1 := s1.w
    have hB1 := hB.mono g1.g
    walk_at "q"
    rw [List.length_map]
    refine q_ifd (fun h => ?_) (fun h => ?_)
    · walk_at "q"
      rename_i p2 hp2
      exact q _ _ _ _ (s1.new hp2) (hB1.mono (Ex.new (w1.back hp2))) (.inl ⟨List.length_eq_zero_iff.mp (by omega), .tup (.inl (.inl upd_same)) .nil⟩)
    · walk_at "q"
      rw [List.length_map]
      refine ⟨G1, b, _, xs, rfl, w1, s1.gb, s1.hb, hB1, by omega, fun r us2 r0 r1' hB2 => ?_⟩
      have s2 := s1.put (us2 := us2)
      have w2 := s2.w
      obtain ⟨n, rfl⟩ := Int.eq_ofNat_of_zero_le r0
      have hn : n < (possM M W).length := by omega
      generalize L2.upd H1 b (.lst us2) = H2 at s2 w2 ⊢
      refine q_ixRT r1 w2 (at_map hn) (fun x hx => ?_)
      walk_at "q"
      have hmem : (possM M W)[n] ∈ possM M W := List.getElem_mem hn
      generalize (possM M W)[n] = D at hx hmem
      refine q_cut (M := fun σ' H' => ∃ x us, σ' = [some (.ref b), some v, some u, some (.ref p), some x] ∧ St b G H G1 H' us ∧ BoxL K G1 us ∧ ∃ D ∈ possM M W, Rp K G1 x D.d) ?_ ?_
      · have keep : ∃ x' us', ([some (.ref b), some v, some u, some (.ref p), some x] : L2.St) = [some (.ref b), some v, some u, some (.ref p), some x'] ∧ St b G H G1 H2 us' ∧ BoxL K G1 us' ∧ ∃ D ∈ possM M W, Rp K G1 x' D.d := ⟨x, us2, rfl, s2, hB2, D, hmem, hx⟩
        have h0 : ∃ (t : Str) (r : List PyData), D.ps = .str t :: r := by cases D <;> exact ⟨_, _, rfl⟩
        obtain ⟨t, r, ht⟩ := h0
        have hx' : Rp K G1 x (.tuple (.str t :: r)) := by rw [← ht]; exact hx
        walk_at "q"
        refine q_ixRT hx' w2 (atI_nat (j := 0) rfl) (fun y hy => ?_)
        cases hy
        walk_at "q"
        refine q_ifd (fun h2 => ?_) (fun h2 => ?_)
        · walk_at "q"
          refine ⟨G1, b, 3, us2, rfl, w2, s2.gb, s2.hb, hB2, by decide, fun r3 us3 r30 r31 hB3 => ?_⟩
          have s3 := s2.put (us2 := us3)
          have w3 := s3.w
          generalize L2.upd H2 b (.lst us3) = H3 at s3 w3 ⊢
          walk_at "q"
          refine q_ifd (fun h3 => ?_) (fun h3 => ?_)
          · walk_at "q"
            rw [List.length_map]
            refine ⟨G1, b, _, us3, rfl, w3, s3.gb, s3.hb, hB3, by omega, fun r4 us4 r40 r41 hB4 => ?_⟩
            have s4 := s3.put (us2 := us4)
            have w4 := s4.w
            obtain ⟨m, rfl⟩ := Int.eq_ofNat_of_zero_le r40
            have hm : m < (possM M W).length := by omega
            generalize L2.upd H3 b (.lst us4) = H4 at s4 w4 ⊢
            refine q_ixRT r1 w4 (at_map hm) (fun x2 hx2 => ?_)
            exact ⟨x2, us4, rfl, s4, hB4, _, List.getElem_mem hm, hx2⟩
          · walk_at "q"
            exact ⟨x, us3, rfl, s3, hB3, D, hmem, hx⟩
        · walk_at "q"
          exact keep
      · rintro σ' H' ⟨x, us, rfl, s5, hB5, D, hmem, hx⟩
        walk_at "q"
        exact q _ _ _ _ s5 hB5 (.inr ⟨D, hmem, hx⟩)
end
end Cw

set_option maxHeartbeats 4000000
namespace Cw
open PySem PySem.Spec PyProof.Rows L2
section
variable {P : Program} {w : World} {K : PySem.W.Frag} {mg : Str → Option Value} {base : Heap}
abbrev s__law_lively : Stmt := topS 56
abbrev N__law_lively : List Str := ["box", "many", "processes", "channels", "k", "giver", "taker", "rules", "c", "act", "process", "states"]
theorem sc__law_lively : FnScope N__law_lively ["box"] (defScope s__law_lively) := ⟨rfl, rfl, rfl, by decide +kernel, rfl, by decide +kernel, by decide +kernel⟩
theorem c_lively {f : Addr} {fd : FuncData} (F : FnP K "_law_lively" s__law_lively f fd) (hm : mg "_law_lively" = some (.ref f)) (B : Blt mg) (C__law_draw : Cal P w K mg base 2 "_law_draw" ["box", "many"] (sp_draw K)) : Cal P w K mg base 3 "_law_lively" ["box"] (sp_lnet K) := by
  refine cal_of F hm sc__law_lively (fun _ _ _ _ _ _ _ us hl => match us, hl with | [_], _ => rfl) (fun vs H Q E h => ?_) (fun cdv A outer s H vs Q E hr h => ?_)
  · obtain ⟨_, _, _, rfl, _⟩ := h
    rfl
  · obtain ⟨G, b, xs, rfl, eG, gb, hb, hB, q⟩ := h
    have nd := sc__law_lively.nd
    have s0 := St.start eG gb hb
    refine ⟨_, [some _, none, none, none, none, none, none, none, none, none, none, none], ((pss_cons (ps_set (i := 1) nd rfl (Or.inl rfl) (pe_op (op_addK (K := K) rfl) pe_int (pe_callC C__law_draw (hr.mono (by omega)) (by rfl) (pa_cons (pv 0) (pa_cons pe_int pa_nil)))))
      (pss_cons (ps_setLc (i := 2) (own := [("k", 4)]) rfl nd rfl rfl (sw_true rfl rfl rfl (by decide +kernel)) (pi_range1 (by rfl) B.range_ (pa_cons (pv 1) pa_nil)) (blkOk_by (N := N__law_lively) (sc := defScope s__law_lively) (by decide +kernel)) (fun _ _ _ _ _ => (pg_name (i := 4) nd rfl (by first | exact Or.inl rfl | exact Or.inr rfl))) (fun _ _ _ _ _ => pts_nil) (fun _ _ _ _ _ => (pe_tup (pa_cons (pe_ix (ix_seqK (K := K) rfl) pe_str (pv 4) (fun _ _ => rfl)) (pa_cons (pe_op (op_addK (K := K) rfl) pe_int (pe_callC C__law_draw (hr.mono (by omega)) (by rfl) (pa_cons (pv 0) (pa_cons pe_int pa_nil)))) pa_nil)))))
      (pss_cons (ps_set (i := 3) nd rfl (Or.inl rfl) (pe_lst pa_nil))
      (pss_cons (ps_for PassesOwn.never rfl (pi_range1 (by rfl) B.range_ (pa_cons (pe_op (op_addK (K := K) rfl) pe_int (pe_callC C__law_draw (hr.mono (by omega)) (by rfl) (pa_cons (pv 0) (pa_cons pe_int pa_nil)))) pa_nil)) (pg_name (i := 4) nd rfl (by first | exact Or.inl rfl | exact Or.inr rfl)) (pss_cons (ps_set (i := 5) nd rfl (Or.inl rfl) (pe_callC C__law_draw (hr.mono (by omega)) (by rfl) (pa_cons (pv 0) (pa_cons (pv 1) pa_nil))))
      (pss_cons (ps_set (i := 6) nd rfl (Or.inl rfl) (pe_op op_mod (pe_callTy call_intA (by rfl) B.int_ bo_int (pa_cons (pe_op (op_addK (K := K) rfl) (pe_op (op_addK (K := K) rfl) (pv 5) pe_int) (pe_callC C__law_draw (hr.mono (by omega)) (by rfl) (pa_cons (pv 0) (pa_cons (pe_op op_sub (pv 1) pe_int) pa_nil)))) pa_nil)) (pv 1)))
      (pss_one (ps_expr (pe_bmK (K := K) rfl PySem.F.plainAttrs_list PySem.F.slot_list_append PySem.F.type_list_append mt_append (pv 3) (pa_cons (pe_tup (pa_cons (pe_ix (ix_seqK (K := K) rfl) pe_str (pv 4) (fun _ _ => rfl)) (pa_cons (pv 5) (pa_cons (pv 6) (pa_cons (pe_ix (ix_seqK (K := K) rfl) (pe_lst (pa_cons pe_str (pa_cons pe_str (pa_cons pe_str (pa_cons pe_str pa_nil))))) (pe_callC C__law_draw (hr.mono (by omega)) (by rfl) (pa_cons (pv 0) (pa_cons pe_int pa_nil))) (fun _ _ => rfl)) pa_nil))))) pa_nil)))))))
      (pss_cons (ps_set (i := 7) nd rfl (Or.inl rfl) (pe_lst pa_nil))
      (pss_cons (ps_for PassesOwn.never rfl (pi_range1 (by rfl) B.range_ (pa_cons (pe_op (op_addK (K := K) rfl) pe_int (pe_callC C__law_draw (hr.mono (by omega)) (by rfl) (pa_cons (pv 0) (pa_cons pe_int pa_nil)))) pa_nil)) (pg_name (i := 4) nd rfl (by first | exact Or.inl rfl | exact Or.inr rfl)) (pss_cons (ps_set (i := 8) nd rfl (Or.inl rfl) (pe_callC C__law_draw (hr.mono (by omega)) (by rfl) (pa_cons (pv 0) (pa_cons (pe_callB (call_lenK (K := K) rfl) (by rfl) B.len_ bo_len (pa_cons (pv 3) pa_nil)) pa_nil))))
      (pss_cons (ps_set (i := 9) nd rfl (Or.inl rfl) (pe_ix (ix_seqK (K := K) rfl) (pe_lst (pa_cons (pe_tup (pa_cons pe_str (pa_cons (pv 8) (pa_cons (pe_callC C__law_draw (hr.mono (by omega)) (by rfl) (pa_cons (pv 0) (pa_cons pe_int pa_nil))) pa_nil)))) (pa_cons (pe_tup (pa_cons pe_str (pa_cons (pv 8) (pa_cons (pe_callC C__law_draw (hr.mono (by omega)) (by rfl) (pa_cons (pv 0) (pa_cons pe_int pa_nil))) pa_nil)))) pa_nil))) (pe_callC C__law_draw (hr.mono (by omega)) (by rfl) (pa_cons (pv 0) (pa_cons pe_int pa_nil))) (fun _ _ => rfl)))
      (pss_cons (ps_set (i := 10) nd rfl (Or.inl rfl) (pe_ix (ix_seqK (K := K) rfl) (pe_ix (ix_seqK (K := K) rfl) (pv 3) (pv 8) (fun _ _ => rfl)) (pe_op (op_addK (K := K) rfl) pe_int (pe_callTy call_intA (by rfl) B.int_ bo_int (pa_cons (pe_cmpR (op_eqK (K := K) rfl (hu64 hr)) (pe_ix (ix_seqK (K := K) rfl) (pv 9) pe_int (fun _ _ => rfl)) pe_str (nomark _)) pa_nil))) (fun _ _ => rfl)))
      (pss_cons (ps_set (i := 11) nd rfl (Or.inl rfl) (pe_ix (ix_seqK (K := K) rfl) (pe_ix (ix_seqK (K := K) rfl) (pv 2) (pv 10) (fun _ _ => rfl)) pe_int (fun _ _ => rfl)))
      (pss_one (ps_expr (pe_bmK (K := K) rfl PySem.F.plainAttrs_list PySem.F.slot_list_append PySem.F.type_list_append mt_append (pv 7) (pa_cons (pe_tup (pa_cons (pv 10) (pa_cons (pe_callC C__law_draw (hr.mono (by omega)) (by rfl) (pa_cons (pv 0) (pa_cons (pv 11) pa_nil))) (pa_cons (pv 9) (pa_cons (pe_callC C__law_draw (hr.mono (by omega)) (by rfl) (pa_cons (pv 0) (pa_cons (pv 11) pa_nil))) pa_nil))))) pa_nil)))))))))
      (pss_one (ps_ret (pe_tup (pa_cons (pe_callTy (call_tupK (K := K) rfl) (by rfl) B.tuple_ bo_tuple (pa_cons (pv 2) pa_nil)) (pa_cons (pe_callTy (call_tupK (K := K) rfl) (by rfl) B.tuple_ bo_tuple (pa_cons (pv 3) pa_nil)) (pa_cons (pe_callTy (call_tupK (K := K) rfl) (by rfl) B.tuple_ bo_tuple (pa_cons (pv 7) pa_nil)) pa_nil))))))))))))), rfl, ?_⟩
    walk_at "q"
    refine ⟨G, b, 2, xs, rfl, eG, gb, hb, hB, by decide, fun r us r0 r1 hB1 => ?_⟩
    have s1 := s0.put (us2 := us)
    have w1 := s1.w
    generalize L2.upd H b (.lst us) = H1 at s1 w1 ⊢
    obtain ⟨r, rfl⟩ := Int.eq_ofNat_of_zero_le r0
    obtain ⟨m, em, m2, m3⟩ : ∃ m : Nat, 2 + (r : Int) = (m : Int) ∧ 2 ≤ m ∧ m ≤ 3 := ⟨2 + r, by omega, by omega, by omega⟩
    walk_at "q"
    rw [em]
    clear em
    walk_at "q"
    refine q_rng_lc m (by omega) (fun D hD => ⟨fun i H' => ∃ vs ps us G', St b G H G' H' us ∧ BoxL K G' us ∧ G' D = none ∧ H' D = some (.lst vs) ∧ Rps K G' vs ps ∧ (∀ p ∈ ps, PrOk poolPx p) ∧ (ps.map fun c => strOf (atD c 0)) = (List.range i).map pqN, ?_, ?_, ?_⟩)
    · exact ⟨[], [], us, G, s1.up (Ex.new hD), hB1, w1.back hD, upd_same, .nil, by simp, rfl⟩
    · rintro i H' hi ⟨vs, ps, us, G', s2, hB2, gD, hl2, hr2, hk, hn⟩
      have nbD := s1.ne hD
      have w2 := s2.w
      have lps : ps.length = i := by have := congrArg List.length hn; rw [List.length_map, List.length_map, List.length_range] at this; exact this
      walk_at "q"
      refine ⟨rfl, ?_⟩
      walk_at "q"
      refine q_ixPQ (by omega) ?_
      walk_at "q"
      refine ⟨G', b, 2, us, rfl, w2, s2.gb, s2.hb, hB2, by decide, fun r3 us3 r30 r31 hB3 => ?_⟩
      have s3 := s2.put (us2 := us3)
      have w3 := s3.w
      have hl3 : L2.upd H' b (.lst us3) D = some (.lst vs) := upd_mu hl2 (Ne.symm nbD)
      generalize L2.upd H' b (.lst us3) = H3 at s3 w3 hl3 ⊢
      obtain ⟨r3, rfl⟩ := Int.eq_ofNat_of_zero_le r30
      walk_at "q"
      rename_i p hp
      have nD := ne_of_none hl3 hp
      have s4 := s3.new (o := .tup [.str (pqN i), .int (1 + (r3 : Int))]) hp
      refine ⟨vs, upd_old hl3 hp, line_lt (by rw [hr2.len]; omega), vs ++ [.ref p], ps ++ [.tuple [.str (pqN i), .int (1 + (r3 : Int))]], us3, _, s4.cell (by rw [upd_ne nD]; exact gD) (s1.fresh hD) nbD, hB3.mono (Ex.new (w3.back hp)), by rw [upd_ne nD]; exact gD, upd_same, (hr2.mono (Ex.new (w3.back hp))).app (Rps.one (.tup (.inl (.inl upd_same)) (.cons (.str _) (.cons (.int _) .nil)))), ?_, ?_⟩
      · intro x hx
        rcases List.mem_append.mp hx with h | h
        · exact hk x h
        · rw [List.mem_singleton.mp h]
          exact ⟨pqN i, 1 + r3, rfl, pq_mem (by omega), by omega, by omega⟩
      · rw [List.map_append, hn, List.range_succ, List.map_append]
        rfl
    · rintro H' ⟨vs, ps, us, G', s2, hB2, gD, hl2, hr2, hk, hn⟩
      have nbD := s1.ne hD
      have lps : ps.length = m := by have := congrArg List.length hn; rw [List.length_map, List.length_map, List.length_range] at this; exact this
      have s3 := s2.knowC gD (s1.fresh hD) nbD hl2
      have rP : Rp K (L2.upd G' D (.lst vs)) (.ref D) (.list ps) := .lst upd_same (hr2.mono (Ex.new gD))
      have hB3 := hB2.mono (Ex.new (o := .lst vs) gD)
      generalize L2.upd G' D (.lst vs) = G3 at s3 rP hB3
      clear s2 hB2 gD hl2 hr2 s1 w1 hD
      walk_at "q"
      rename_i lc hlc
      have nbl := s3.ne hlc
      have hHl := s3.fresh hlc
      have gl3 := s3.w.back hlc
      have s4 := s3.up (Ex.new (o := .lst []) hlc)
      have w4 := s4.w
      have hl4 : L2.upd H' lc (.lst []) lc = some (.lst []) := upd_same
      generalize L2.upd H' lc (.lst []) = H4 at s4 w4 hl4 ⊢
      clear hlc s3
      refine ⟨G3, b, 4, us, rfl, w4, s4.gb, s4.hb, hB3, by decide, fun r5 us5 r50 r51 hB5 => ?_⟩
      have s5 := s4.put (us2 := us5)
      have w5 := s5.w
      have hl5 : L2.upd H4 b (.lst us5) lc = some (.lst []) := upd_mu hl4 (Ne.symm nbl)
      generalize L2.upd H4 b (.lst us5) = H5 at s5 w5 hl5 ⊢
      clear s4 w4 hl4
      obtain ⟨r5, rfl⟩ := Int.eq_ofNat_of_zero_le r50
      obtain ⟨nc, en, nc1, nc4⟩ : ∃ n : Nat, 1 + (r5 : Int) = (n : Int) ∧ 1 ≤ n ∧ n ≤ 4 := ⟨1 + r5, by omega, by omega, by omega⟩
      walk_at "q"
      rw [en]
      refine q_rng1 nc (by omega) (fun i σ' H' => ∃ z4 z5 z6 vs cs us G', σ' = [some (.ref b), some (.int (m : Int)), some (.ref D), some (.ref lc), z4, z5, z6, none, none, none, none, none] ∧ St b G H G' H' us ∧ Ex G3 G' ∧ BoxL K G' us ∧ G' lc = none ∧ H' lc = some (.lst vs) ∧ Rps K G' vs cs ∧ (∀ c ∈ cs, ChOk poolCx m c) ∧ (cs.map fun c => strOf (atD c 0)) = (List.range i).map cdN) ⟨none, none, none, [], [], us5, G3, rfl, s5, Ex.refl _, hB5, gl3, hl5, .nil, by simp, rfl⟩ ?_ ?_
      · clear s5 w5 hl5
        rintro i σ' H' hi ⟨z4, z5, z6, vs, cs, us, G', rfl, s6, e6, hB6, gl6, hl6, hr6, hk6, hn6⟩
        have w6 := s6.w
        have lcs : cs.length = i := by have := congrArg List.length hn6; rw [List.length_map, List.length_map, List.length_range] at this; exact this
        walk_at "q"
        refine ⟨G', b, m, us, rfl, w6, s6.gb, s6.hb, hB6, by omega, fun g us7 g0 g1 hB7 => ?_⟩
        have s7 := s6.put (us2 := us7)
        have w7 := s7.w
        have hl7 : L2.upd H' b (.lst us7) lc = some (.lst vs) := upd_mu hl6 (Ne.symm nbl)
        generalize L2.upd H' b (.lst us7) = H7 at s7 w7 hl7 ⊢
        obtain ⟨gn, rfl⟩ := Int.eq_ofNat_of_zero_le g0
        walk_at "q"
        refine ⟨G', b, (m : Int) - 1, us7, rfl, w7, s7.gb, s7.hb, hB7, by omega, fun r us8 r0 r1 hB8 => ?_⟩
        have s8 := s7.put (us2 := us8)
        have w8 := s8.w
        have hl8 : L2.upd H7 b (.lst us8) lc = some (.lst vs) := upd_mu hl7 (Ne.symm nbl)
        generalize L2.upd H7 b (.lst us8) = H8 at s8 w8 hl8 ⊢
        have ht : ∃ t : Nat, ((gn : Int) + 1 + r) % m = t ∧ t < m ∧ gn ≠ t := by
          have k1 := Int.emod_lt_of_pos ((gn : Int) + 1 + r) (show (0 : Int) < m by omega)
          have k2 := Int.emod_nonneg ((gn : Int) + 1 + r) (show (m : Int) ≠ 0 by omega)
          rcases mod_step (a := (gn : Int) + 1 + r) (m := m) (by omega) (by omega) with h | h
          · exact ⟨((gn : Int) + 1 + r).toNat, by omega, by omega, by omega⟩
          · exact ⟨((gn : Int) + 1 + r - m).toNat, by omega, by omega, by omega⟩
        obtain ⟨t, et, ht1, ht2⟩ := ht
        walk_at "q"
        rw [et]
        refine q_ixCD (by omega) ?_
        walk_at "q"
        rename_i p9 hp9
        have nb9 := s8.ne hp9
        have nl9 := ne_of_none hl8 hp9
        have s9 := s8.up (Ex.new (o := .lst [.str "order", .str "loose", .str "order lossy", .str "loose lossy"]) hp9)
        refine ⟨G', b, 4, us8, rfl, s9.w, s9.gb, s9.hb, hB8, by decide, fun r10 us10 r100 r101 hB10 => ?_⟩
        have s10 := s9.put (us2 := us10)
        have hl10 : L2.upd (L2.upd H8 p9 (.lst [.str "order", .str "loose", .str "order lossy", .str "loose lossy"])) b (.lst us10) lc = some (.lst vs) := upd_mu (upd_old hl8 hp9) (Ne.symm nbl)
        refine q_ixLn (xs := [.str "order", .str "loose", .str "order lossy", .str "loose lossy"]) (.inl (.inl (upd_mu upd_same (Ne.symm nb9)))) r100 r101 (fun v hv => ?_)
        obtain ⟨kd, rfl, hkd⟩ : ∃ kd : Str, v = .str kd ∧ kd ∈ (["order", "loose", "order lossy", "loose lossy"] : List Str) := by
          simp only [List.mem_cons, List.mem_nil_iff, or_false] at hv
          rcases hv with rfl | rfl | rfl | rfl
          · exact ⟨_, rfl, by simp⟩
          · exact ⟨_, rfl, by simp⟩
          · exact ⟨_, rfl, by simp⟩
          · exact ⟨_, rfl, by simp⟩
        generalize L2.upd (L2.upd H8 p9 (.lst [.str "order", .str "loose", .str "order lossy", .str "loose lossy"])) b (.lst us10) = H10 at s10 hl10 ⊢
        have w10 := s10.w
        walk_at "q"
        rename_i p11 hp11
        have nl11 := ne_of_none hl10 hp11
        refine q_append (upd_old hl10 hp11) (line_lt (by rw [hr6.len]; omega)) ?_
        have s11 := s10.new (o := .tup [.str (cdN i), .int gn, .int t, .str kd]) hp11
        have x11 := Ex.new (o := .tup [.str (cdN i), .int gn, .int t, .str kd]) (w10.back hp11)
        refine ⟨_, _, _, vs ++ [.ref p11], cs ++ [.tuple [.str (cdN i), .int gn, .int t, .str kd]], us10, _, rfl, s11.cell (by rw [upd_ne nl11]; exact gl6) hHl nbl, e6.trans x11, hB10.mono x11, by rw [upd_ne nl11]; exact gl6, upd_same, (hr6.mono x11).app (Rps.one (.tup (.inl (.inl upd_same)) (.cons (.str _) (.cons (.int _) (.cons (.int _) (.cons (.str _) .nil)))))), ?_, ?_⟩
        · intro c hc
          rcases List.mem_append.mp hc with h | h
          · exact hk6 c h
          · rw [List.mem_singleton.mp h]
            exact ⟨cdN i, gn, t, kd, rfl, cd_mem (by omega), by omega, ht1, ht2, hkd⟩
        · rw [List.map_append, hn6, List.range_succ, List.map_append]
          rfl
      · clear s5 w5 hl5
        rintro σ' H' ⟨z4, z5, z6, vs, cs, us, G', rfl, s6, e6, hB6, gl6, hl6, hr6, hk6, hn6⟩
        have lcs : cs.length = nc := by have := congrArg List.length hn6; rw [List.length_map, List.length_map, List.length_range] at this; exact this
        have s7 := s6.knowC gl6 hHl nbl hl6
        have rC : Rp K (L2.upd G' lc (.lst vs)) (.ref lc) (.list cs) := .lst upd_same (hr6.mono (Ex.new gl6))
        have hB7 := hB6.mono (Ex.new (o := .lst vs) gl6)
        have rP7 := rP.mono (e6.trans (Ex.new (o := .lst vs) gl6))
        generalize L2.upd G' lc (.lst vs) = G7 at s7 rC hB7 rP7
        clear s6 hB6 gl6 hl6 hr6 e6
        walk_at "q"
        rename_i lr hlr
        have nbr := s7.ne hlr
        have hHr := s7.fresh hlr
        have gr7 := s7.w.back hlr
        have s8 := s7.up (Ex.new (o := .lst []) hlr)
        have w8 := s8.w
        have hr8 : L2.upd H' lr (.lst []) lr = some (.lst []) := upd_same
        generalize L2.upd H' lr (.lst []) = H8 at s8 w8 hr8 ⊢
        clear hlr s7
        refine ⟨G7, b, 7, us, rfl, w8, s8.gb, s8.hb, hB7, by decide, fun q9 us9 q90 q91 hB9 => ?_⟩
        have s9 := s8.put (us2 := us9)
        have w9 := s9.w
        have hr9 : L2.upd H8 b (.lst us9) lr = some (.lst []) := upd_mu hr8 (Ne.symm nbr)
        generalize L2.upd H8 b (.lst us9) = H9 at s9 w9 hr9 ⊢
        clear s8 w8 hr8
        obtain ⟨q9, rfl⟩ := Int.eq_ofNat_of_zero_le q90
        obtain ⟨nr, enr, nr4⟩ : ∃ n : Nat, 6 + (q9 : Int) = (n : Int) ∧ n ≤ 12 := ⟨6 + q9, by omega, by omega⟩
        walk_at "q"
        rw [enr]
        refine q_rng1 nr (by omega) (fun i σ' H' => ∃ z4 z8 z9 z10 z11 vs rs us G', σ' = [some (.ref b), some (.int (m : Int)), some (.ref D), some (.ref lc), z4, z5, z6, some (.ref lr), z8, z9, z10, z11] ∧ St b G H G' H' us ∧ Ex G7 G' ∧ BoxL K G' us ∧ G' lr = none ∧ H' lr = some (.lst vs) ∧ Rps K G' vs rs ∧ rs.length = i ∧ (∀ r ∈ rs, RuOk ps cs r)) ⟨_, none, none, none, none, [], [], us9, G7, rfl, s9, Ex.refl _, hB9, gr7, hr9, .nil, rfl, by simp⟩ ?_ ?_
        · clear s9 w9 hr9
          rintro i σ' H' hi ⟨z4, z8, z9, z10, z11, vs, rs, us, G9, rfl, s9, e9, hB9, gr9, hr9, hrs, lrs, hks⟩
          have w9 := s9.w
          have rC9 := rC.mono e9
          walk_at "q"
          refine ⟨G9, b, _, us, rfl, w9, s9.gb, s9.hb, hB9, by omega, fun c us10 c0 c1 hB10 => ?_⟩
          have s10 := s9.put (us2 := us10)
          have w10 := s10.w
          have hr10 : L2.upd H' b (.lst us10) lr = some (.lst vs) := upd_mu hr9 (Ne.symm nbr)
          generalize L2.upd H' b (.lst us10) = H10 at s10 w10 hr10 ⊢
          obtain ⟨c, rfl⟩ := Int.eq_ofNat_of_zero_le c0
          have hcl : c < cs.length := by omega
          obtain ⟨y, gg, tt, kd, ec, _, hg, htt, _, _⟩ := hk6 cs[c] (List.getElem_mem hcl)
          walk_at "q"
          refine ⟨G9, b, 2, us10, rfl, w10, s10.gb, s10.hb, hB10, by decide, fun d1 us11 d10 d11 hB11 => ?_⟩
          have s11 := s10.put (us2 := us11)
          have w11 := s11.w
          have hr11 : L2.upd H10 b (.lst us11) lr = some (.lst vs) := upd_mu hr10 (Ne.symm nbr)
          generalize L2.upd H10 b (.lst us11) = H11 at s11 w11 hr11 ⊢
          obtain ⟨d1, rfl⟩ := Int.eq_ofNat_of_zero_le d10
          walk_at "q"
          rename_i pA hpA
          have nrA := ne_of_none hr11 hpA
          have s11A := s11.new (o := .tup [.str "send", .int (c : Int), .int (d1 : Int)]) hpA
          have xA := Ex.new (o := .tup [.str "send", .int (c : Int), .int (d1 : Int)]) (w11.back hpA)
          have rA : Rp K (L2.upd G9 pA (.tup [.str "send", .int (c : Int), .int (d1 : Int)])) (.ref pA) (.tuple [.str "send", .int (c : Int), .int (d1 : Int)]) := .tup (.inl (.inl upd_same)) (.cons (.str _) (.cons (.int _) (.cons (.int _) .nil)))
          have hr11A : L2.upd H11 pA (.tup [.str "send", .int (c : Int), .int (d1 : Int)]) lr = some (.lst vs) := upd_old hr11 hpA
          have grA : L2.upd G9 pA (.tup [.str "send", .int (c : Int), .int (d1 : Int)]) lr = none := by rw [upd_ne nrA]; exact gr9
          have hB11A := hB11.mono xA
          generalize L2.upd G9 pA (.tup [.str "send", .int (c : Int), .int (d1 : Int)]) = GA at s11A xA rA grA hB11A
          generalize L2.upd H11 pA (.tup [.str "send", .int (c : Int), .int (d1 : Int)]) = HA at s11A hr11A ⊢
          have wA := s11A.w
          refine ⟨GA, b, 2, us11, rfl, wA, s11A.gb, s11A.hb, hB11A, by decide, fun d2 us12 d20 d21 hB12 => ?_⟩
          have s12 := s11A.put (us2 := us12)
          have w12 := s12.w
          have hr12 : L2.upd HA b (.lst us12) lr = some (.lst vs) := upd_mu hr11A (Ne.symm nbr)
          generalize L2.upd HA b (.lst us12) = H12 at s12 w12 hr12 ⊢
          obtain ⟨d2, rfl⟩ := Int.eq_ofNat_of_zero_le d20
          walk_at "q"
          rename_i pB hpB pL hpL
          have nrB := ne_of_none hr12 hpB
          have s12B := s12.new (o := .tup [.str "take", .int (c : Int), .int (d2 : Int)]) hpB
          have xB := Ex.new (o := .tup [.str "take", .int (c : Int), .int (d2 : Int)]) (w12.back hpB)
          have rB : Rp K (L2.upd GA pB (.tup [.str "take", .int (c : Int), .int (d2 : Int)])) (.ref pB) (.tuple [.str "take", .int (c : Int), .int (d2 : Int)]) := .tup (.inl (.inl upd_same)) (.cons (.str _) (.cons (.int _) (.cons (.int _) .nil)))
          have hr12B : L2.upd H12 pB (.tup [.str "take", .int (c : Int), .int (d2 : Int)]) lr = some (.lst vs) := upd_old hr12 hpB
          have gr14 : L2.upd GA pB (.tup [.str "take", .int (c : Int), .int (d2 : Int)]) lr = none := by rw [upd_ne nrB]; exact grA
          replace rA := rA.mono xB
          have hB12B := hB12.mono xB
          have e914 := xA.trans xB
          generalize L2.upd GA pB (.tup [.str "take", .int (c : Int), .int (d2 : Int)]) = G14 at s12B xB rA rB gr14 hB12B e914
          generalize L2.upd H12 pB (.tup [.str "take", .int (c : Int), .int (d2 : Int)]) = HB at s12B hr12B hpL ⊢
          have nbL := s12B.ne hpL
          have s13 := s12B.up (Ex.new (o := .lst [.ref pA, .ref pB]) hpL)
          have w13 := s13.w
          refine ⟨G14, b, 2, us12, rfl, w13, s13.gb, s13.hb, hB12B, by decide, fun d3 us14 d30 d31 hB14 => ?_⟩
          have s14 := s13.put (us2 := us14)
          have w14 := s14.w
          have hr14 : L2.upd (L2.upd HB pL (.lst [.ref pA, .ref pB])) b (.lst us14) lr = some (.lst vs) := upd_mu (upd_old hr12B hpL) (Ne.symm nbr)
          refine q_ixLn (xs := [.ref pA, .ref pB]) (.inl (.inl (upd_mu upd_same (Ne.symm nbL)))) d30 d31 (fun v hv => ?_)
          generalize L2.upd (L2.upd HB pL (.lst [.ref pA, .ref pB])) b (.lst us14) = H14 at s14 w14 hr14 ⊢
          have e14 := e9.trans e914
          simp only [List.mem_cons, List.mem_nil_iff, or_false] at hv
          walk_at "q"
          rcases hv with rfl | rfl
          · skip
            refine q_ixRL (rC.mono e14) w14 (atI_at hcl) (fun y1 y1h => ?_)
            rw [ec] at y1h
            walk_at "q"
            refine q_ixRT rA w14 (atI_nat (j := 0) rfl) (fun y0 y0h => ?_)
            cases y0h
            walk_at "q"
            refine q_ixRT y1h w14 (i := 1) rfl (fun y2 y2h => ?_)
            cases y2h
            walk_at "q"
            refine q_ixRL (rP7.mono e14) w14 (atI_at (k := gg) (by omega)) (fun y3 y3h => ?_)
            obtain ⟨z, st, ep, hz, st1, st8⟩ := hk ps[gg] (List.getElem_mem (by omega))
            rw [ep] at y3h
            walk_at "q"
            refine q_ixRT y3h w14 (atI_nat (j := 1) rfl) (fun y4 y4h => ?_)
            cases y4h
            walk_at "q"
            refine ⟨G14, b, st, us14, rfl, w14, s14.gb, s14.hb, hB14, by omega, fun e us15 e0 e1 hB15 => ?_⟩
            have s15 := s14.put (us2 := us15)
            have w15 := s15.w
            have hr15 : L2.upd H14 b (.lst us15) lr = some (.lst vs) := upd_mu hr14 (Ne.symm nbr)
            generalize L2.upd H14 b (.lst us15) = H15 at s15 w15 hr15 ⊢
            walk_at "q"
            refine ⟨G14, b, st, us15, rfl, w15, s15.gb, s15.hb, hB15, by omega, fun e2 us16 e20 e21 hB16 => ?_⟩
            have s16 := s15.put (us2 := us16)
            have w16 := s16.w
            have hr16 : L2.upd H15 b (.lst us16) lr = some (.lst vs) := upd_mu hr15 (Ne.symm nbr)
            generalize L2.upd H15 b (.lst us16) = H16 at s16 w16 hr16 ⊢
            obtain ⟨e, rfl⟩ := Int.eq_ofNat_of_zero_le e0
            obtain ⟨e2, rfl⟩ := Int.eq_ofNat_of_zero_le e20
            walk_at "q"
            rename_i p17 hp17
            have nr17 := ne_of_none hr16 hp17
            refine q_append (upd_old hr16 hp17) (line_lt (by rw [hrs.len]; omega)) ?_
            have s17 := s16.new (o := .tup [.int (gg : Int), .int (e : Int), .ref pA, .int (e2 : Int)]) hp17
            have x17 := Ex.new (o := .tup [.int (gg : Int), .int (e : Int), .ref pA, .int (e2 : Int)]) (w16.back hp17)
            refine ⟨_, _, _, _, _, vs ++ [.ref p17], rs ++ [.tuple [.int (gg : Int), .int (e : Int), .tuple [.str "send", .int (c : Int), .int (d1 : Int)], .int (e2 : Int)]], us16, _, rfl, s17.cell (by rw [upd_ne nr17]; exact gr14) hHr nbr, (e9.trans e914).trans x17, hB16.mono x17, by rw [upd_ne nr17]; exact gr14, upd_same, ((hrs.mono e914).mono x17).app (Rps.one (.tup (.inl (.inl upd_same)) (.cons (.int _) (.cons (.int _) (.cons (rA.mono x17) (.cons (.int _) .nil)))))), by rw [List.length_append, lrs] <;> rfl, ?_⟩
            intro x hx
            rcases List.mem_append.mp hx with h | h
            · exact hks x h
            · rw [List.mem_singleton.mp h]
              refine ⟨gg, e, e2, _, z, st, rfl, by rw [List.getElem?_eq_getElem (by omega), ep], by omega, by omega, .inr ⟨c, d1, y, gg, tt, kd, by rw [List.getElem?_eq_getElem hcl, ec], by omega, .inl ⟨rfl, rfl⟩⟩⟩
          · skip
            refine q_ixRL (rC.mono e14) w14 (atI_at hcl) (fun y1 y1h => ?_)
            rw [ec] at y1h
            walk_at "q"
            refine q_ixRT rB w14 (atI_nat (j := 0) rfl) (fun y0 y0h => ?_)
            cases y0h
            walk_at "q"
            refine q_ixRT y1h w14 (i := 2) rfl (fun y2 y2h => ?_)
            cases y2h
            walk_at "q"
            refine q_ixRL (rP7.mono e14) w14 (atI_at (k := tt) (by omega)) (fun y3 y3h => ?_)
            obtain ⟨z, st, ep, hz, st1, st8⟩ := hk ps[tt] (List.getElem_mem (by omega))
            rw [ep] at y3h
            walk_at "q"
            refine q_ixRT y3h w14 (atI_nat (j := 1) rfl) (fun y4 y4h => ?_)
            cases y4h
            walk_at "q"
            refine ⟨G14, b, st, us14, rfl, w14, s14.gb, s14.hb, hB14, by omega, fun e us15 e0 e1 hB15 => ?_⟩
            have s15 := s14.put (us2 := us15)
            have w15 := s15.w
            have hr15 : L2.upd H14 b (.lst us15) lr = some (.lst vs) := upd_mu hr14 (Ne.symm nbr)
            generalize L2.upd H14 b (.lst us15) = H15 at s15 w15 hr15 ⊢
            walk_at "q"
            refine ⟨G14, b, st, us15, rfl, w15, s15.gb, s15.hb, hB15, by omega, fun e2 us16 e20 e21 hB16 => ?_⟩
            have s16 := s15.put (us2 := us16)
            have w16 := s16.w
            have hr16 : L2.upd H15 b (.lst us16) lr = some (.lst vs) := upd_mu hr15 (Ne.symm nbr)
            generalize L2.upd H15 b (.lst us16) = H16 at s16 w16 hr16 ⊢
            obtain ⟨e, rfl⟩ := Int.eq_ofNat_of_zero_le e0
            obtain ⟨e2, rfl⟩ := Int.eq_ofNat_of_zero_le e20
            walk_at "q"
            rename_i p17 hp17
            have nr17 := ne_of_none hr16 hp17
            refine q_append (upd_old hr16 hp17) (line_lt (by rw [hrs.len]; omega)) ?_
            have s17 := s16.new (o := .tup [.int (tt : Int), .int (e : Int), .ref pB, .int (e2 : Int)]) hp17
            have x17 := Ex.new (o := .tup [.int (tt : Int), .int (e : Int), .ref pB, .int (e2 : Int)]) (w16.back hp17)
            refine ⟨_, _, _, _, _, vs ++ [.ref p17], rs ++ [.tuple [.int (tt : Int), .int (e : Int), .tuple [.str "take", .int (c : Int), .int (d2 : Int)], .int (e2 : Int)]], us16, _, rfl, s17.cell (by rw [upd_ne nr17]; exact gr14) hHr nbr, (e9.trans e914).trans x17, hB16.mono x17, by rw [upd_ne nr17]; exact gr14, upd_same, ((hrs.mono e914).mono x17).app (Rps.one (.tup (.inl (.inl upd_same)) (.cons (.int _) (.cons (.int _) (.cons (rB.mono x17) (.cons (.int _) .nil)))))), by rw [List.length_append, lrs] <;> rfl, ?_⟩
            intro x hx
            rcases List.mem_append.mp hx with h | h
            · exact hks x h
            · rw [List.mem_singleton.mp h]
              refine ⟨tt, e, e2, _, z, st, rfl, by rw [List.getElem?_eq_getElem (by omega), ep], by omega, by omega, .inr ⟨c, d2, y, gg, tt, kd, by rw [List.getElem?_eq_getElem hcl, ec], by omega, .inr ⟨rfl, rfl⟩⟩⟩
        · clear s9 w9 hr9
          rintro σ' H' ⟨z4, z8, z9, z10, z11, vs, rs, us, G9, rfl, s9, e9, hB9, gr9, hr9, hrs, lrs, hks⟩
          have s10 := s9.knowC gr9 hHr nbr hr9
          have x10 := Ex.new (o := .lst vs) gr9
          have rR : Rp K (L2.upd G9 lr (.lst vs)) (.ref lr) (.list rs) := .lst upd_same (hrs.mono x10)
          have hB10 := hB9.mono x10
          have e10 := e9.trans x10
          generalize L2.upd G9 lr (.lst vs) = G10 at s10 rR hB10 e10
          have w10 := s10.w
          walk_at "q"
          refine q_tupRS (rP7.mono e10) (.inl rfl) w10 (fun G11 H11 t1 g11 r11 => ?_)
          walk_at "q"
          refine q_tupRS (rC.mono (e10.trans g11.g)) (.inl rfl) g11.w (fun G12 H12 t2 g12 r12 => ?_)
          walk_at "q"
          refine q_tupRS (rR.mono (g11.g.trans g12.g)) (.inl rfl) g12.w (fun G13 H13 t3 g13 r13 => ?_)
          walk_at "q"
          rename_i t4 ht4
          have s13 := ((s10.gro g11).gro g12).gro g13
          have s14 := s13.new (o := .tup [.ref t1, .ref t2, .ref t3]) ht4
          have x14 := Ex.new (o := .tup [.ref t1, .ref t2, .ref t3]) (s13.w.back ht4)
          refine q (.ref t4) ps cs rs us _ _ s14.gr s14.gb s14.hb (hB10.mono (g11.g.trans (g12.g.trans (g13.g.trans x14)))) (.tup (.inl (.inl upd_same)) (.cons (r11.mono (g12.g.trans (g13.g.trans x14))) (.cons (r12.mono (g13.g.trans x14)) (.cons (r13.mono x14) .nil)))) ?_
          exact ⟨by omega, by omega, hk, by rw [hn]; exact pq_nodup m3, by omega, by rw [lps]; exact hk6, by rw [hn6]; exact cd_nodup nc4, by omega, hks⟩
end
end Cw

set_option maxHeartbeats 4000000
namespace Cw
open PySem PySem.Spec PyProof.Rows L2
section
variable {P : Program} {w : World} {K : PySem.W.Frag} {mg : Str → Option Value} {base : Heap}
theorem word_rule {M : MN} {r : Nat} (hr : r < M.R.length) : wordD M.N (nD r) = atD (M.R[r].a.d) 0 := by
  have hr2 : r < M.N.r.length := by show r < (M.R.map Rul.d).length; rw [List.length_map]; exact hr
  rw [wordD, show isBelow M.N.r.length (nD r) = true from below_of (by omega) (by omega), if_pos rfl]
  show atD (atD (M.N.r.getD r .none) 2) 0 = _
  rw [List.getD_eq_getElem?_getD]
  show atD (atD (((M.R.map Rul.d)[r]?).getD .none) 2) 0 = _
  rw [List.getElem?_map, List.getElem?_eq_getElem hr] <;> rfl
theorem deed_eqv (D : Deed) : PyData.eqv D.d (.tuple D.ps) = true := by
  cases D <;> simp [Deed.d, Deed.ps, PyData.eqv, PyData.eqvAll, nD]
theorem any_deed {l : List Deed} {D : Deed} (h : D ∈ l) : ((l.map Deed.d).any fun z => PyData.eqv z (.tuple D.ps)) = true := by
  rw [List.any_eq_true]
  exact ⟨D.d, List.mem_map_of_mem h, deed_eqv D⟩
theorem map_at {M : MN} {r : Nat} {a : Act} (h : M.R[r]?.map Rul.a = some a) : ∃ hr : r < M.R.length, M.R[r].a = a := by
  cases e : M.R[r]? with
  | none =>
    rw [e] at h
    cases h
  | some R =>
    obtain ⟨h1, h2⟩ := List.getElem?_eq_some_iff.mp e
    rw [e] at h
    exact ⟨h1, by rw [h2]; exact Option.some.inj h⟩
theorem poss_can {M : MN} {W : Wd} {D : Deed} (h : D ∈ possM M W) : canD M W D.d = true := by
  rcases poss_mem h with ⟨r, hr, h⟩ | ⟨c, hc, h⟩
  · rcases (rule_mem h).2 with ⟨rfl, a, h1, h2⟩ | ⟨k, c, t, rfl, h1⟩
    · obtain ⟨hr, ea⟩ := map_at h1
      have h3 : isDeedD M.N (Deed.act r).d = true := by
        rw [act_deed (d := (Deed.act r).d) (i := (r : Int)) (.inr rfl)]
        rw [show wordD M.N (.int (r : Int)) = _ from word_rule hr, ea]
        cases a with
        | do_ => decide +kernel
        | send c k => show ([PyData.str "do", .str "send"].any fun k => PyData.eqv k (.str "send")) = true; decide +kernel
        | take c k => exact absurd rfl (h2 c k)
      rw [canD, h3, Bool.true_and]
      show (if PyData.eqv (.str "act") (.str "lose") = true then _ else _) = true
      rw [if_neg (by decide +kernel)]
      exact any_deed h
    · obtain ⟨hr, ea⟩ := map_at h1
      have h3 : isDeedD M.N (Deed.take r k).d = true := by
        rw [three_deed (d := (Deed.take r k).d) (w := "take") (i := (r : Int)) (k := (k : Int)) (by omega) (.inr rfl), if_pos (str_eqv _), show wordD M.N (.int (r : Int)) = _ from word_rule hr, ea]
        exact str_eqv _
      rw [canD, h3, Bool.true_and]
      show (if PyData.eqv (.str "take") (.str "lose") = true then _ else _) = true
      rw [if_neg (by decide +kernel)]
      exact any_deed h
  · obtain ⟨k, rfl, hk⟩ := loss_mem h
    have h3 : isDeedD M.N (Deed.lose c k).d = true := by
      rw [three_deed (d := (Deed.lose c k).d) (w := "lose") (i := (c : Int)) (k := (k : Int)) (by omega) (.inr rfl), if_neg (by decide +kernel), str_eqv, Bool.true_and, show isBelow M.N.c.length (.int (c : Int)) = true from below_of (by omega) (by show (c : Int) < ((M.C.map Chn.d).length : Nat); rw [List.length_map]; omega), Bool.true_and]
      have e : atD (chanAt M.N (natD (.int (c : Int)))) 3 = .str (kindM M c) := by
        show atD ((M.C.map Chn.d).getD c .none) 3 = _
        rw [List.getD_eq_getElem?_getD, List.getElem?_map, List.getElem?_eq_getElem hc, kindM_at hc] <;> rfl
      rw [e]
      exact hk
    rw [canD, h3, Bool.true_and]
    show (if PyData.eqv (.str "lose") (.str "lose") = true then _ else _) = true
    rw [if_pos (str_eqv _)]
    exact any_deed h
theorem deed_seq {D D' : Deed} (h : Seq D.d D'.ps) : D' = D := by
  rcases h with h | h
  · cases D <;> cases h
  · exact (deed_inj (PyData.tuple.inj h)).symm
theorem deed_ne (D : Deed) : PyData.eqv D.d (.tuple []) = false := by
  cases D <;> simp [Deed.d, Deed.ps, PyData.eqv, PyData.eqvAll]
def dOf (d : PyData) : Deed := match items d with
  | some [.str _, .int r] => .act r.toNat
  | some [.str w, .int r, .int k] => if w = ("take" : Str) then .take r.toNat k.toNat else .lose r.toNat k.toNat
  | _ => .act 0
theorem dOf_eq {D : Deed} {d : PyData} (h : Seq d D.ps) : dOf d = D := by
  unfold dOf
  rw [Seq.items h]
  cases D with
  | act r => rfl
  | take r k =>
    show (if ("take" : Str) = ("take" : Str) then Deed.take (r : Int).toNat (k : Int).toNat else _) = _
    rw [if_pos rfl] <;> rfl
  | lose r k =>
    show (if ("lose" : Str) = ("take" : Str) then _ else Deed.lose (r : Int).toNat (k : Int).toNat) = _
    rw [if_neg (by decide +kernel)] <;> rfl
def dueW (M : MN) (W : Wd) (d : PyData) : PyData := if canD M W d then .tuple [.str "told", (stepM M W (dOf d)).d true] else .tuple [.str "step", .int 0]
theorem eqv_prim {a x : PyData} (ha : (∃ z, a = .str z) ∨ ∃ i, a = .int i) (h : PyData.eqv a x = true) (hb : dBool x = false) : x = a := by
  rcases ha with ⟨z, rfl⟩ | ⟨i, rfl⟩
  · cases x with
    | str y =>
      rw [PyData.eqv] at h
      rw [eq_of_beq h]
    | _ => rw [PyData.eqv] at h; cases h
  · cases x with
    | int y =>
      rw [eqv_int] at h
      rw [of_decide_eq_true h]
    | bool b => cases hb
    | _ => rw [PyData.eqv] at h; cases h
theorem eqv_all : ∀ {ps ds : List PyData}, (∀ p ∈ ps, (∃ z, p = .str z) ∨ ∃ i, p = .int i) → PyData.eqvAll ps ds = true → (∀ x ∈ ds, dBool x = false) → ds = ps
  | [], [], _, _, _ => rfl
  | [], _ :: _, _, h, _ => by rw [PyData.eqvAll] at h; cases h
  | _ :: _, [], _, h, _ => by rw [PyData.eqvAll] at h; cases h
  | p :: ps, d :: ds, hp, h, hb => by
    rw [PyData.eqvAll] at h
    obtain ⟨h1, h2⟩ := bA h
    rw [eqv_prim (hp p (List.mem_cons_self ..)) h1 (hb d (List.mem_cons_self ..)), eqv_all (fun q m => hp q (List.mem_cons_of_mem _ m)) h2 (fun q m => hb q (List.mem_cons_of_mem _ m))]
theorem ps_prim (D : Deed) : ∀ p ∈ D.ps, (∃ z, p = .str z) ∨ ∃ i, p = .int i := fun p hp => by
  cases D <;> simp only [Deed.ps, List.mem_cons, List.mem_nil_iff, or_false] at hp
  · rcases hp with rfl | rfl
    · exact .inl ⟨_, rfl⟩
    · exact .inr ⟨_, rfl⟩
  · rcases hp with rfl | rfl | rfl
    · exact .inl ⟨_, rfl⟩
    · exact .inr ⟨_, rfl⟩
    · exact .inr ⟨_, rfl⟩
  · rcases hp with rfl | rfl | rfl
    · exact .inl ⟨_, rfl⟩
    · exact .inr ⟨_, rfl⟩
    · exact .inr ⟨_, rfl⟩
theorem eqv_deed {D : Deed} {ds : List PyData} (h : PyData.eqv D.d (.tuple ds) = true) (hp : plainD (.tuple ds) = true) : ds = D.ps := by
  have h2 : PyData.eqvAll D.ps ds = true := by
    rw [Deed.d, PyData.eqv] at h
    exact h
  refine eqv_all (ps_prim D) h2 fun x m => ?_
  unfold plainD at hp
  have := List.all_eq_true.mp hp x m
  simpa using this
theorem can_poss {M : MN} {W : Wd} {d : PyData} (hp : plainD d = true) (h : canD M W d = true) : ∃ D ∈ possM M W, Seq d D.ps := by
  unfold canD at h
  obtain ⟨h1, h2⟩ := bA h
  have key : ∀ {l : List Deed} {D : Deed}, Seq d D.ps → ((l.map Deed.d).any fun z => PyData.eqv z (.tuple (itemsD d))) = true → D ∈ l := fun {l D} hs ha => by
    obtain ⟨z, hz, he⟩ := List.any_eq_true.mp ha
    obtain ⟨D', hD', rfl⟩ := List.mem_map.mp hz
    rw [Seq.it hs] at he
    have e := eqv_deed he (by unfold plainD at hp ⊢; rw [Seq.it hs] at hp; exact hp)
    rw [deed_inj e]
    exact hD'
  have inR : ∀ {r : Nat} {D : Deed}, r < M.R.length → D ∈ ruleM M W r → D ∈ possM M W := fun {r D} hr hD => by
    unfold possM
    exact List.mem_append_left _ (List.mem_flatten.mpr ⟨_, List.mem_map_of_mem (List.mem_range.mpr hr), hD⟩)
  have inC : ∀ {c : Nat} {D : Deed}, c < M.C.length → D ∈ lossesM M W c → D ∈ possM M W := fun {r D} hr hD => by
    unfold possM
    exact List.mem_append_right _ (List.mem_flatten.mpr ⟨_, List.mem_map_of_mem (List.mem_range.mpr hr), hD⟩)
  rcases deed_form2 h1 with ⟨r, hr, hs, _⟩ | ⟨r, k, c, t, hr, hs, _⟩ | ⟨c, k, hc, hs⟩
  · have hs' : Seq d (Deed.act r).ps := hs
    rw [show atD d 0 = .str "act" from Seq.at hs 0, if_neg (by decide +kernel), show atD d 1 = nD r from Seq.at hs 1] at h2
    exact ⟨_, inR hr (key hs' h2), hs'⟩
  · have hs' : Seq d (Deed.take r k).ps := hs
    rw [show atD d 0 = .str "take" from Seq.at hs 0, if_neg (by decide +kernel), show atD d 1 = nD r from Seq.at hs 1] at h2
    exact ⟨_, inR hr (key hs' h2), hs'⟩
  · have hs' : Seq d (Deed.lose c k).ps := hs
    rw [show atD d 0 = .str "lose" from Seq.at hs 0, if_pos (str_eqv _), show atD d 1 = nD c from Seq.at hs 1] at h2
    exact ⟨_, inC hc (key hs' h2), hs'⟩
theorem due_can {M : MN} {W : Wd} {ds : List PyData} (hp : plainD (.tuple ds) = true) : (((possM M W).map Deed.d).any fun z => PyData.eqv z (.tuple ds)) = canD M W (.tuple ds) := by
  cases h : canD M W (.tuple ds) with
  | true =>
    obtain ⟨D, hD, hs⟩ := can_poss hp h
    rcases hs with z | z
    · cases z
    · rw [PyData.tuple.inj z]
      exact any_deed hD
  | false =>
    cases h2 : (((possM M W).map Deed.d).any fun z => PyData.eqv z (.tuple ds)) with
    | false => rfl
    | true =>
      obtain ⟨z, hz, he⟩ := List.any_eq_true.mp h2
      obtain ⟨D, hD, rfl⟩ := List.mem_map.mp hz
      rw [eqv_deed he hp] at h
      rw [show (.tuple D.ps : PyData) = D.d from rfl, poss_can hD] at h
      cases h
theorem can_list (M : MN) (W : Wd) (ds : List PyData) : canD M W (.list ds) = canD M W (.tuple ds) := rfl
theorem can_other {M : MN} {W : Wd} {d : PyData} (h : items d = none) : canD M W d = false := by
  cases e : canD M W d with
  | false => rfl
  | true =>
    unfold canD at e
    rcases deed_form2 (bA e).1 with ⟨r, _, hs, _⟩ | ⟨r, k, c, t, _, hs, _⟩ | ⟨c, k, _, hs⟩
    all_goals
      rw [Seq.items hs] at h
      cases h
theorem due_listW (M : MN) (W : Wd) (ds : List PyData) : dueW M W (.list ds) = dueW M W (.tuple ds) := rfl
theorem sm_due {M : MN} {W : Wd} {B : Nat} (ok : MNOk M) (h : WdOk M W B) (hB : B ≤ 900) (d : PyData) : Sm 6 (dueW M W d) := by
  unfold dueW
  split
  · refine ⟨by simp, fun x hx => ?_⟩
    simp only [List.mem_cons, List.mem_nil_iff, or_false] at hx
    rcases hx with rfl | rfl
    · exact True.intro
    · exact sm_wd ok (h.step _) (by omega)
  · refine ⟨by simp, fun x hx => ?_⟩
    simp only [List.mem_cons, List.mem_nil_iff, or_false] at hx
    rcases hx with rfl | rfl
    · exact True.intro
    · exact True.intro
abbrev s__law_asked : Stmt := topS 57
abbrev N__law_asked : List Str := ["made", "world", "deed", "e"]
theorem sc__law_asked : FnScope N__law_asked ["made", "world", "deed"] (defScope s__law_asked) := ⟨rfl, rfl, rfl, by decide +kernel, rfl, by decide +kernel, by decide +kernel⟩
def sp_asked5 (K : PySem.W.Frag) (C : Addr) : Sp := fun vs H Q _ => ∃ (G : Hp) (a : Addr) (M : MN) (v : V) (b : Bool) (W : Wd) (B : Nat) (u : V) (d : PyData), vs = [.ref a, v, u] ∧ Ex G H ∧ NetAt K C G a M.N ∧ MNOk M ∧ NOk M.N ∧ Rp K G v (W.d b) ∧ WdOk M W B ∧ B ≤ 900 ∧ Rp K G u d ∧ Shp d ∧
  ∀ G2 H2 p, Gro none G H G2 H2 → Rp K G2 (.ref p) (dueW M W d) → Q (.ref p) H2
theorem can_deed {M : MN} {W : Wd} {d : PyData} (h : canD M W d = true) : ∃ D : Deed, Seq d D.ps := by
  unfold canD at h
  rcases deed_form2 (bA h).1 with ⟨r, _, hs, _⟩ | ⟨r, k, c, t, _, hs, _⟩ | ⟨c, k, _, hs⟩
  · exact ⟨.act r, hs⟩
  · exact ⟨.take r k, hs⟩
  · exact ⟨.lose c k, hs⟩
theorem c_asked5 {C CS f : Addr} {fd : FuncData} (F : FnP K "_law_asked" s__law_asked f fd) (hm : mg "_law_asked" = some (.ref f)) (B : Blt mg) (T_BadStep : Xn K mg "BadStep" "at" CS) (ex : PySem.W.exmOne K (.ref CS) (.ref CS) = some true) (C_done : CalX P w K mg base 6 "done" ["net", "world", "deed"] (sp_done K C CS)) :
    Cal P w K mg base 7 "_law_asked" ["made", "world", "deed"] (sp_asked5 K C) := by
  have m_BadStep := T_BadStep.1
  refine cal_of F hm sc__law_asked (fun _ _ _ _ _ _ _ us hl => match us, hl with | [_, _, _], _ => rfl) (fun vs H Q E h => ?_) (fun cdv A outer s H vs Q E hr h => ?_)
  · obtain ⟨_, _, _, _, _, _, _, _, _, rfl, _⟩ := h
    rfl
  · obtain ⟨G, a, M, v, b, W, BB, u, d, rfl, eG, hN, ok, nok, hv, wok, hB, hu, hd, q⟩ := h
    have nd := sc__law_asked.nd
    refine ⟨_, [some _, some _, some _, none], ((pss_one (ps_tryK (K := K) rfl rfl rfl takes0 (fun W pn xe tk _ => (pss_one (ps_ret (pe_tup (pa_cons pe_str (pa_cons (pe_callXC C_done (hr.mono (by omega)) (by rfl) (fun σ => passAt tk σ) (pa_cons (pv 0) (pa_cons (pv 1) (pa_cons (pv 2) pa_nil)))) pa_nil))))))
      (HdsA.as_ (i := 3) ⟨by rfl, by decide, Or.inl m_BadStep⟩ nd rfl (by rfl) (fun a oe cls d pn hz hf => (pss_one (ps_ret (pe_tup (pa_cons pe_str (pa_cons (pe_xf T_BadStep.xf.1 T_BadStep.xf.2 hz hf (pv 3)) pa_nil))))))
      HdsA.nil)))), rfl, ?_⟩
    walk_at "q"
    refine ⟨G, a, M, v, b, W, BB, u, d, rfl, eG, hN, ok, nok, hv, wok, hB, hu, hd, fun hc D G2 H2 p2 hs g2 r2 => ?_, fun hc H1 dd e1 hdd => ?_⟩
    · walk_at "q"
      rename_i p hp
      have g3 := Gro.new (o := .tup [.str "told", .ref p2]) g2.w hp
      refine q _ _ p (g2.trans0 g3) ?_
      rw [dueW, if_pos hc, dOf_eq hs]
      exact .tup (.inl (.inl upd_same)) (.cons (.str _) (.cons (r2.mono g3.g) .nil))
    · refine q_wY ex (fun e he => ?_)
      walk_at "q"
      rename_i p hp
      have e2 := e1.trans (Ex.new (o := .xd [("at", .int 0)]) hdd)
      refine q _ _ p ((Gro.up eG e2).trans0 (Gro.new (eG.trans e2) hp)) ?_
      rw [dueW, if_neg (by rw [hc]; decide)]
      exact .tup (.inl (.inl upd_same)) (.cons (.str _) (.cons (.int 0) .nil))
abbrev s__law_due : Stmt := topS 58
abbrev N__law_due : List Str := ["net", "world", "deed"]
theorem sc__law_due : FnScope N__law_due ["net", "world", "deed"] (defScope s__law_due) := ⟨rfl, rfl, rfl, by decide +kernel, rfl, by decide +kernel, by decide +kernel⟩
def sp_due5 (K : PySem.W.Frag) : Sp := fun vs H Q _ => ∃ (G : Hp) (v x u : V) (M : MN) (W : Wd) (B : Nat) (d : PyData), vs = [v, x, u] ∧ Ex G H ∧ MNOk M ∧ Rp K G v M.d ∧ Rp K G x (W.d true) ∧ WdOk M W B ∧ B ≤ 900 ∧ Rp K G u d ∧ Shp d ∧ plainD d = true ∧ (∀ ds, d ≠ .list ds) ∧
  ∀ G2 H2 p, Gro none G H G2 H2 → Rp K G2 (.ref p) (dueW M W d) → Q (.ref p) H2
theorem c_due5 {f : Addr} {fd : FuncData} (F : FnP K "_law_due" s__law_due f fd) (hm : mg "_law_due" = some (.ref f)) (B : Blt mg) (C__law_possible : Cal P w K mg base 2 "_law_possible" ["net", "world"] (sp_lposs K)) (C__law_done : Cal P w K mg base 2 "_law_done" ["net", "world", "deed"] (sp_ldone K)) : Cal P w K mg base 3 "_law_due" ["net", "world", "deed"] (sp_due5 K) := by
  refine cal_of F hm sc__law_due (fun _ _ _ _ _ _ _ us hl => match us, hl with | [_, _, _], _ => rfl) (fun vs H Q E h => ?_) (fun cdv A outer s H vs Q E hr h => ?_)
  · obtain ⟨_, _, _, _, _, _, _, _, rfl, _⟩ := h
    rfl
  · obtain ⟨G, v, x, u, M, W, BB, d, rfl, eG, ok, hv, hx, wok, hB, hu, hd, hpl, hnl, q⟩ := h
    have nd := sc__law_due.nd
    have bad : ∀ G1 H1 p, Gro none G H G1 H1 → H1 p = none → canD M W d = false → Q (.ref p) (L2.upd H1 p (.tup [.str "step", .int 0])) := fun G1 H1 p g hp hc => by
      refine q _ _ p (g.trans0 (Gro.new g.w hp)) ?_
      rw [dueW, if_neg (by rw [hc]; decide)]
      exact .tup (.inl (.inl upd_same)) (.cons (.str _) (.cons (.int 0) .nil))
    refine ⟨_, [some _, some _, some _], ((pss_cons (ps_if (PW.pt (pw_and (pt_val (pe_callB (call_isiQ (K := K) rfl) (by rfl) B.isinstance_ bo_isinstance (pa_cons (pv 2) (pa_cons (pe_bty (by rfl) B.tuple_ bo_tuple) pa_nil)))) (pw_and1 (pt_cmpR (op_inB (K := K) rfl (hu65 hr)) (pv 2) (pe_callC C__law_possible (hr.mono (by omega)) (by rfl) (pa_cons (pv 0) (pa_cons (pv 1) pa_nil))) (by with_unfolding_all rfl))))) (pss_one (ps_ret (pe_tup (pa_cons pe_str (pa_cons (pe_callC C__law_done (hr.mono (by omega)) (by rfl) (pa_cons (pv 0) (pa_cons (pv 1) (pa_cons (pv 2) pa_nil)))) pa_nil))))) pss_nil)
      (pss_one (ps_ret (pe_tup (pa_cons pe_str (pa_cons pe_int pa_nil))))))), rfl, ?_⟩
    walk_at "q"
    refine q_ifb (fun h => ?_) (fun h => ?_)
    · obtain ⟨ds, rfl⟩ : ∃ ds, d = .tuple ds := by
        cases d with
        | tuple ds => exact ⟨ds, rfl⟩
        | _ => cases h
      walk_at "q"
      refine ⟨G, v, x, M, W, BB, rfl, eG, ok, hv, hx, wok, by omega, fun G1 H1 p1 g1 r1 => ?_⟩
      walk_at "q"
      refine q_inT (hu.mono g1.g) r1 g1.w hd (shp_tup (.inl rfl) (shp_deeds _ (by have := poss_len ok wok (show BB ≤ 1000 by omega); omega))) ?_
      walk_at "q"
      rw [due_can hpl]
      refine q_ifb (fun h2 => ?_) (fun h2 => ?_)
      · obtain ⟨D, hD, hs⟩ := can_poss hpl h2
        have e : (.tuple ds : PyData) = D.d := by
          rcases hs with z | z
          · cases z
          · exact z
        walk_at "q"
        refine ⟨G1, v, x, u, M, W, BB, D, rfl, g1.w, ok, hv.mono g1.g, hx.mono g1.g, wok, hB, by rw [← e]; exact hu.mono g1.g, poss_dv hD, fun G2 H2 p2 g2 r2 => ?_⟩
        walk_at "q"
        rename_i p3 hp3
        have g3 := Gro.new (o := .tup [.str "told", .ref p2]) g2.w hp3
        refine q _ _ p3 ((g1.trans0 g2).trans0 g3) ?_
        rw [dueW, if_pos h2, dOf_eq hs]
        exact .tup (.inl (.inl upd_same)) (.cons (.str _) (.cons (r2.mono g3.g) .nil))
      · walk_at "q"
        exact bad _ _ _ g1 (by assumption) h2
    · walk_at "q"
      refine bad _ _ _ (Gro.refl eG) (by assumption) (can_other ?_)
      cases d with
      | tuple ds => cases h
      | list ds => exact absurd rfl (hnl ds)
      | _ => rfl
abbrev s__law_right : Stmt := topS 61
abbrev N__law_right : List Str := ["made", "net", "world", "deed", "due", "passed", "row", "pair"]
theorem sc__law_right : FnScope N__law_right ["made", "net", "world", "deed"] (defScope s__law_right) := ⟨rfl, rfl, rfl, by decide +kernel, rfl, by decide +kernel, by decide +kernel⟩
def sp_right5 (K : PySem.W.Frag) (C : Addr) : Sp := fun vs H Q _ => ∃ (G : Hp) (a : Addr) (v x u : V) (M : MN) (W : Wd) (B : Nat) (d : PyData), vs = [.ref a, v, x, u] ∧ Ex G H ∧ NetAt K C G a M.N ∧ MNOk M ∧ NOk M.N ∧ Rp K G v M.d ∧ Rp K G x (W.d true) ∧ WdOk M W B ∧ B ≤ 900 ∧ Rp K G u d ∧ Shp d ∧ plainD d = true ∧ (∀ ds, d ≠ .list ds) ∧ ∀ H', Ex H H' → Q (.bl true) H'
theorem c_right5 {C CS f : Addr} {fd : FuncData} (F : FnP K "_law_right" s__law_right f fd) (hm : mg "_law_right" = some (.ref f)) (B : Blt mg) (C__law_due : Cal P w K mg base 3 "_law_due" ["net", "world", "deed"] (sp_due5 K)) (C__law_asked : Cal P w K mg base 7 "_law_asked" ["made", "world", "deed"] (sp_asked5 K C))
    (C__law_alike : Cal P w K mg base 7 "_law_alike" ["told", "due"] (sp_alike K 6)) (CK_done_deed_world_net : CalXK P w K mg base (L2.CX P w) 6 "done" ["net", "world", "deed"] ["deed", "world", "net"] [2, 1, 0] (sp_done K C CS)) : Cal P w K mg base 8 "_law_right" ["made", "net", "world", "deed"] (sp_right5 K C) := by
  refine cal_of F hm sc__law_right (fun _ _ _ _ _ _ _ us hl => match us, hl with | [_, _, _, _], _ => rfl) (fun vs H Q E h => ?_) (fun cdv A outer s H vs Q E hr h => ?_)
  · obtain ⟨_, _, _, _, _, _, _, _, _, rfl, _⟩ := h
    rfl
  · obtain ⟨G, a, v, x, u, M, W, BB, d, rfl, eG, hN, ok, nok, hv, hx, wok, hB, hu, hd, hpl, hnl, q⟩ := h
    have nd := sc__law_right.nd
    have sm := sm_due ok wok hB d
    refine ⟨_, [some _, some _, some _, some _, none, none, none, none], ((pss_cons (ps_set (i := 4) nd rfl (Or.inl rfl) (pe_callC C__law_due (hr.mono (by omega)) (by rfl) (pa_cons (pv 1) (pa_cons (pv 2) (pa_cons (pv 3) pa_nil)))))
      (pss_cons (ps_if (pt_not (pt_val (pe_callC C__law_alike (hr.mono (by omega)) (by rfl) (pa_cons (pe_callC C__law_asked (hr.mono (by omega)) (by rfl) (pa_cons (pv 0) (pa_cons (pv 2) (pa_cons (pv 3) pa_nil)))) (pa_cons (pv 4) pa_nil))))) (pss_one (ps_ret pe_bl)) pss_nil)
      (pss_cons (ps_if (PW.pt (pw_and (pt_val (pe_callB (call_isiQ (K := K) rfl) (by rfl) B.isinstance_ bo_isinstance (pa_cons (pv 3) (pa_cons (pe_bty (by rfl) B.tuple_ bo_tuple) pa_nil)))) (pw_and1 (pt_not (pt_val (pe_callC C__law_alike (hr.mono (by omega)) (by rfl) (pa_cons (pe_callC C__law_asked (hr.mono (by omega)) (by rfl) (pa_cons (pv 0) (pa_cons (pv 2) (pa_cons (pe_callTy (call_listK (K := K) rfl) (by rfl) B.list_ bo_list (pa_cons (pv 3) pa_nil)) pa_nil)))) (pa_cons (pv 4) pa_nil)))))))) (pss_one (ps_ret pe_bl)) pss_nil)
      (pss_cons (ps_set (i := 5) nd rfl (Or.inl rfl) (pe_lst (pa_cons (pe_callTy (call_listK (K := K) rfl) (by rfl) B.list_ bo_list (pa_cons (pe_ix (ix_seqK (K := K) rfl) (pv 2) pe_int (fun _ _ => rfl)) pa_nil)) (pa_cons (pe_callTy (call_listK (K := K) rfl) (by rfl) B.list_ bo_list (pa_cons (pe_ix (ix_seqK (K := K) rfl) (pv 2) pe_int (fun _ _ => rfl)) pa_nil)) (pa_cons (pe_lc (own := [("row", 6)]) rfl nd (pi_seqK (K := K) rfl (pe_ix (ix_seqK (K := K) rfl) (pv 2) pe_int (fun _ _ => rfl))) (blkOk_by (N := N__law_right) (sc := defScope s__law_right) (by decide +kernel)) (fun _ _ _ _ _ => (pg_name (i := 6) nd rfl (by first | exact Or.inl rfl | exact Or.inr rfl))) (fun _ _ _ _ _ => pts_nil) (fun _ _ _ _ _ => (pe_lc (own := [("pair", 7)]) rfl nd (pi_seqK (K := K) rfl (pv 6)) (blkOk_by (by kernel_rfl)) (fun _ _ _ _ _ => (pg_name (i := 7) nd rfl (by first | exact Or.inl rfl | exact Or.inr rfl))) (fun _ _ _ _ _ => pts_nil) (fun _ _ _ _ _ => (pe_callTy (call_listK (K := K) rfl) (by rfl) B.list_ bo_list (pa_cons (pv 7) pa_nil)))))) pa_nil)))))
      (pss_one (ps_ret (pe_or (pe_cmpR (op_neK (K := K) rfl (hu64 hr)) (pe_ix (ix_seqK (K := K) rfl) (pv 4) pe_int (fun _ _ => rfl)) pe_str (nomark _)) (pe_one (pe_callC C__law_alike (hr.mono (by omega)) (by rfl) (pa_cons (pe_kwS CK_done_deed_world_net (hr.mono (by omega)) (by rfl) pxL (pk_cons (pe_callTy (call_listK (K := K) rfl) (by rfl) B.list_ bo_list (pa_cons (pv 3) pa_nil)) (pk_cons (pv 5) (pk_cons (pv 0) pk_nil)))) (pa_cons (pe_ix (ix_seqK (K := K) rfl) (pv 4) pe_int (fun _ _ => rfl)) pa_nil)))))))))))), rfl, ?_⟩
    walk_at "q"
    refine ⟨G, v, x, u, M, W, BB, d, rfl, eG, ok, hv, hx, wok, hB, hu, hd, hpl, hnl, fun G1 H1 pd g1 rd => ?_⟩
    walk_at "q"
    refine ⟨G1, a, M, x, true, W, BB, u, d, rfl, g1.w, hN.mono g1.g, ok, nok, hx.mono g1.g, wok, hB, hu.mono g1.g, hd, fun G2 H2 pa g2 ra => ?_⟩
    walk_at "q"
    refine ⟨G2, .ref pa, .ref pd, _, rfl, g2.w, ra, rd.mono g2.g, sm, fun H3 e3 => ?_⟩
    have t12 := (g1.trans0 g2).ex.trans e3
    have w3 := g2.w.trans e3
    have gg := g1.g.trans g2.g
    have rd2 := rd.mono g2.g
    have hu2 := hu.mono gg
    walk_at "q"
    refine q_ifb (fun ht => ?_) (fun ht => ?_)
    · obtain ⟨ds, rfl⟩ : ∃ ds, d = .tuple ds := by
        cases d with
        | tuple ds => exact ⟨ds, rfl⟩
        | _ => cases ht
      walk_at "q"
      refine q_lstRS hu2 (.inr rfl) w3 (fun vs l hvs hl => ?_)
      have g3 := Gro.new (o := .lst vs) w3 hl
      have rl : Rp K (L2.upd G2 l (.lst vs)) (.ref l) (.list ds) := .lst upd_same (hvs.mono g3.g)
      walk_at "q"
      refine ⟨_, a, M, x, true, W, BB, .ref l, .list ds, rfl, g3.w, hN.mono (gg.trans g3.g), ok, nok, hx.mono (gg.trans g3.g), wok, hB, rl, shp_list hd, fun G4 H4 pa2 g4' ra2 => ?_⟩
      have g4 := g3.trans0 g4'
      rw [due_listW] at ra2
      walk_at "q"
      refine ⟨G4, .ref pa2, .ref pd, _, rfl, g4.w, ra2, rd2.mono g4.g, sm, fun H5 e5 => ?_⟩
      have t5 := t12.trans (g4.ex.trans e5)
      have w5 := g4.w.trans e5
      have gg4 := gg.trans g4.g
      have rd5 := rd2.mono g4.g
      clear g4 g4' g3 rl hl hvs ra2
      walk_at "q"
      refine q_ixRT (hx.mono gg4) w5 rfl (fun x0 k0 => ?_)
      walk_at "q"
      refine q_lstRS k0 (.inr rfl) w5 (fun vs1 p1 hvs1 hp1 => ?_)
      have n1 := Gro.new (o := .lst vs1) w5 hp1
      have r1 : Rp K (L2.upd G4 p1 (.lst vs1)) (.ref p1) (sqD false (W.s.map nD)) := .lst upd_same (hvs1.mono n1.g)
      walk_at "q"
      refine q_ixRT (hx.mono (gg4.trans n1.g)) n1.w rfl (fun x1 k1 => ?_)
      walk_at "q"
      refine q_lstRS k1 (.inr rfl) n1.w (fun vs2 p2 hvs2 hp2 => ?_)
      have n2 := Gro.new (o := .lst vs2) n1.w hp2
      have r2 : Rp K (L2.upd (L2.upd G4 p1 (.lst vs1)) p2 (.lst vs2)) (.ref p2) (sqD false (W.n.map nD)) := .lst upd_same (hvs2.mono n2.g)
      have n12 := n1.trans0 n2
      have wn := n2.w
      replace r1 := r1.mono n2.g
      generalize L2.upd (L2.upd G4 p1 (.lst vs1)) p2 (.lst vs2) = GN at n12 r1 r2 wn
      generalize L2.upd (L2.upd _ p1 (.lst vs1)) p2 (.lst vs2) = HN at n12 wn ⊢
      clear n1 n2 hp1 hp2
      walk_at "q"
      refine q_lcT ?_
      walk_at "q"
      refine q_ixRT (hx.mono (gg4.trans n12.g)) wn rfl (fun x2 k2 => ?_)
      refine q_fmT (h := rowMD true) (f := fun r => some (rowMD false r)) k2 wn (by rw [wok.lp]; have := ok.lc; omega) (fun i r u' G' H' hr' gr ru C N yes no => ?_) (fun GM HM DM gM hDM rM => ?_)
      · have w1 := gr.w
        walk_at "q"
        refine ⟨rfl, ?_⟩
        walk_at "q"
        refine q_lcT ?_
        walk_at "q"
        refine q_fmT (h := msgD true) (f := fun m => some (msgD false m)) ru w1 (by have := wok.b r (List.mem_of_getElem? hr'); omega) (fun j m u2 G5 H5 hm2 gr5 ru2 C2 N2 yes2 no2 => ?_) (fun G5 H5 D5 g5 hD5 r5 => ?_)
        · have w5 := gr5.w
          walk_at "q"
          refine ⟨rfl, ?_⟩
          walk_at "q"
          refine q_lstRS ru2 (.inr rfl) w5 (fun vs6 p6 hvs6 hp6 => ?_)
          have g6 := Gro.new (o := .lst vs6) w5 hp6
          exact yes2 _ _ _ _ rfl g6 (.lst upd_same (hvs6.mono g6.g))
        · rw [fm_map] at r5
          exact yes _ _ _ _ rfl g5 r5
      · rw [fm_map] at rM
        walk_at "q"
        rename_i p4 hp4
        have g4 := Gro.new (o := .lst [.ref p1, .ref p2, .ref DM]) gM.w hp4
        have rl : Rp K (L2.upd GM p4 (.lst [.ref p1, .ref p2, .ref DM])) (.ref p4) (W.d false) := .lst upd_same (.cons (r1.mono (gM.g.trans g4.g)) (.cons (r2.mono (gM.g.trans g4.g)) (.cons (rM.mono g4.g) .nil)))
        have g04 := (n12.trans0 gM).trans0 g4
        have w04 := g04.w
        generalize L2.upd GM p4 (.lst [.ref p1, .ref p2, .ref DM]) = G4 at g04 rl w04
        generalize L2.upd HM p4 (.lst [.ref p1, .ref p2, .ref DM]) = H4 at g04 w04 ⊢
        clear g4 gM hp4
        have rd4 := (rd5).mono g04.g
        have e4 := gg4.trans g04.g
        cases hc : canD M W (.tuple ds) with
        | false =>
          rw [dueW, if_neg (by rw [hc]; decide)] at rd4
          refine q_ixRT rd4 w04 rfl (fun y0 y0h => ?_)
          cases y0h
          walk_at "q"
          exact q _ (t5.trans g04.ex)
        | true =>
          obtain ⟨D, hD, hs⟩ := can_poss hpl hc
          have ed : (.tuple ds : PyData) = .tuple D.ps := by
            rcases hs with z | z
            · exact absurd z (hnl _)
            · exact z
          rw [dueW, if_pos hc, dOf_eq hs] at rd4
          refine q_ixRT rd4 w04 rfl (fun y0 y0h => ?_)
          cases y0h
          walk_at "q"
          have hu4 := hu.mono e4
          rw [ed] at hu4
          refine q_lstRS hu4 (.inr rfl) w04 (fun vs7 p7 hvs7 hp7 => ?_)
          have g7 := Gro.new (o := .lst vs7) w04 hp7
          have r7 : Rp K (L2.upd G4 p7 (.lst vs7)) (.ref p7) (.list D.ps) := .lst upd_same (hvs7.mono g7.g)
          walk_at "q"
          have hcl : canD M W (.list D.ps) = true := by rw [can_list, ← ed]; exact hc
          refine ⟨rfl, _, a, M, .ref p4, false, W, BB, .ref p7, .list D.ps, rfl, g7.w, hN.mono (e4.trans g7.g), ok, nok, rl.mono g7.g, wok, hB, r7, shp_list (by rw [← ed]; exact hd), fun _ D' G8 H8 p8 hs8 g8 r8 => ?_, fun z => absurd hcl (by rw [z]; decide)⟩
          have eD : D' = D := by
            rcases hs8 with z | z
            · exact (deed_inj (PyData.list.inj z)).symm
            · cases z
          rw [eD] at r8
          walk_at "q"
          refine q_ixRT (rd4.mono (g7.g.trans g8.g)) g8.w rfl (fun y1 y1h => ?_)
          walk_at "q"
          refine ⟨G8, .ref p8, y1, _, rfl, g8.w, r8, y1h, sm_up (sm_wd ok (wok.step D) (by omega)), fun H9 e9 => ?_⟩
          exact q _ (t5.trans (g04.ex.trans ((g7.ex.trans g8.ex).trans e9)))
    · skip
      walk_at "q"
      refine q_ixRT (hx.mono gg) w3 rfl (fun x0 k0 => ?_)
      walk_at "q"
      refine q_lstRS k0 (.inr rfl) w3 (fun vs1 p1 hvs1 hp1 => ?_)
      have n1 := Gro.new (o := .lst vs1) w3 hp1
      have r1 : Rp K (L2.upd G2 p1 (.lst vs1)) (.ref p1) (sqD false (W.s.map nD)) := .lst upd_same (hvs1.mono n1.g)
      walk_at "q"
      refine q_ixRT (hx.mono (gg.trans n1.g)) n1.w rfl (fun x1 k1 => ?_)
      walk_at "q"
      refine q_lstRS k1 (.inr rfl) n1.w (fun vs2 p2 hvs2 hp2 => ?_)
      have n2 := Gro.new (o := .lst vs2) n1.w hp2
      have r2 : Rp K (L2.upd (L2.upd G2 p1 (.lst vs1)) p2 (.lst vs2)) (.ref p2) (sqD false (W.n.map nD)) := .lst upd_same (hvs2.mono n2.g)
      have n12 := n1.trans0 n2
      have wn := n2.w
      replace r1 := r1.mono n2.g
      generalize L2.upd (L2.upd G2 p1 (.lst vs1)) p2 (.lst vs2) = GN at n12 r1 r2 wn
      generalize L2.upd (L2.upd _ p1 (.lst vs1)) p2 (.lst vs2) = HN at n12 wn ⊢
      clear n1 n2 hp1 hp2
      walk_at "q"
      refine q_lcT ?_
      walk_at "q"
      refine q_ixRT (hx.mono (gg.trans n12.g)) wn rfl (fun x2 k2 => ?_)
      refine q_fmT (h := rowMD true) (f := fun r => some (rowMD false r)) k2 wn (by rw [wok.lp]; have := ok.lc; omega) (fun i r u' G' H' hr' gr ru C N yes no => ?_) (fun GM HM DM gM hDM rM => ?_)
      · have w1 := gr.w
        walk_at "q"
        refine ⟨rfl, ?_⟩
        walk_at "q"
        refine q_lcT ?_
        walk_at "q"
        refine q_fmT (h := msgD true) (f := fun m => some (msgD false m)) ru w1 (by have := wok.b r (List.mem_of_getElem? hr'); omega) (fun j m u2 G5 H5 hm2 gr5 ru2 C2 N2 yes2 no2 => ?_) (fun G5 H5 D5 g5 hD5 r5 => ?_)
        · have w5 := gr5.w
          walk_at "q"
          refine ⟨rfl, ?_⟩
          walk_at "q"
          refine q_lstRS ru2 (.inr rfl) w5 (fun vs6 p6 hvs6 hp6 => ?_)
          have g6 := Gro.new (o := .lst vs6) w5 hp6
          exact yes2 _ _ _ _ rfl g6 (.lst upd_same (hvs6.mono g6.g))
        · rw [fm_map] at r5
          exact yes _ _ _ _ rfl g5 r5
      · rw [fm_map] at rM
        walk_at "q"
        rename_i p4 hp4
        have g4 := Gro.new (o := .lst [.ref p1, .ref p2, .ref DM]) gM.w hp4
        have rl : Rp K (L2.upd GM p4 (.lst [.ref p1, .ref p2, .ref DM])) (.ref p4) (W.d false) := .lst upd_same (.cons (r1.mono (gM.g.trans g4.g)) (.cons (r2.mono (gM.g.trans g4.g)) (.cons (rM.mono g4.g) .nil)))
        have g04 := (n12.trans0 gM).trans0 g4
        have w04 := g04.w
        generalize L2.upd GM p4 (.lst [.ref p1, .ref p2, .ref DM]) = G4 at g04 rl w04
        generalize L2.upd HM p4 (.lst [.ref p1, .ref p2, .ref DM]) = H4 at g04 w04 ⊢
        clear g4 gM hp4
        have rd4 := (rd2).mono g04.g
        have e4 := gg.trans g04.g
        cases hc : canD M W d with
        | false =>
          rw [dueW, if_neg (by rw [hc]; decide)] at rd4
          refine q_ixRT rd4 w04 rfl (fun y0 y0h => ?_)
          cases y0h
          walk_at "q"
          exact q _ (t12.trans g04.ex)
        | true =>
          obtain ⟨D, hD, hs⟩ := can_poss hpl hc
          have ed : d = .tuple D.ps := by
            rcases hs with z | z
            · exact absurd z (hnl _)
            · exact z
          rw [dueW, if_pos hc, dOf_eq hs] at rd4
          refine q_ixRT rd4 w04 rfl (fun y0 y0h => ?_)
          cases y0h
          walk_at "q"
          have hu4 := hu.mono e4
          rw [ed] at hu4
          refine q_lstRS hu4 (.inr rfl) w04 (fun vs7 p7 hvs7 hp7 => ?_)
          have g7 := Gro.new (o := .lst vs7) w04 hp7
          have r7 : Rp K (L2.upd G4 p7 (.lst vs7)) (.ref p7) (.list D.ps) := .lst upd_same (hvs7.mono g7.g)
          walk_at "q"
          have hcl : canD M W (.list D.ps) = true := by rw [can_list, ← ed]; exact hc
          refine ⟨rfl, _, a, M, .ref p4, false, W, BB, .ref p7, .list D.ps, rfl, g7.w, hN.mono (e4.trans g7.g), ok, nok, rl.mono g7.g, wok, hB, r7, shp_list (by rw [← ed]; exact hd), fun _ D' G8 H8 p8 hs8 g8 r8 => ?_, fun z => absurd hcl (by rw [z]; decide)⟩
          have eD : D' = D := by
            rcases hs8 with z | z
            · exact (deed_inj (PyData.list.inj z)).symm
            · cases z
          rw [eD] at r8
          walk_at "q"
          refine q_ixRT (rd4.mono (g7.g.trans g8.g)) g8.w rfl (fun y1 y1h => ?_)
          walk_at "q"
          refine ⟨G8, .ref p8, y1, _, rfl, g8.w, r8, y1h, sm_up (sm_wd ok (wok.step D) (by omega)), fun H9 e9 => ?_⟩
          exact q _ (t12.trans (g04.ex.trans ((g7.ex.trans g8.ex).trans e9)))
end
end Cw

set_option maxHeartbeats 4000000
namespace Cw
open PySem PySem.Spec PyProof.Rows L2
section
variable {P : Program} {w : World} {K : PySem.W.Frag} {mg : Str → Option Value} {base : Heap}
abbrev s__law_near : Stmt := topS 59
abbrev N__law_near : List Str := ["box", "net", "world", "deeds", "k", "c", "number", "odds", "at"]
theorem sc__law_near : FnScope N__law_near ["box", "net", "world"] (defScope s__law_near) := ⟨rfl, rfl, rfl, by decide +kernel, rfl, by decide +kernel, by decide +kernel⟩
def Fit5 (d : PyData) : Prop := Fit d ∧ ∀ ds, d ≠ .list ds
theorem fit5B {d : PyData} (h : (okD 3 d && plainD d && !dLst d) = true) : Fit5 d := by
  obtain ⟨h1, h2⟩ := bA h
  refine ⟨fitB h1, fun ds e => ?_⟩
  subst e
  cases h2
theorem fit5_tup {ds : List PyData} (h : Fit (.tuple ds)) : Fit5 (.tuple ds) := ⟨h, fun es e => nomatch e⟩
theorem all_fit5 {ds : List PyData} (h : (ds.all fun d => okD 3 d && plainD d && !dLst d) = true) : ∀ d ∈ ds, Fit5 d := fun d m => fit5B (List.all_eq_true.mp h d m)
theorem q_lenKn5 {K : PySem.W.Frag} {Q : VK} {b a : Addr} {G H G1 H1 H2 : Hp} {us xs : List V} {ds : List PyData} {l : List (Addr × HO)} (y : Lay H1 l H2) (m : (a, HO.lst xs) ∈ l) (s : St b G H G1 H1 us) (r : ∀ G2 : Hp, (∀ p o, (p, o) ∈ l → G2 p = some o) → Rps K G2 xs ds) (f : (ds.all fun d => okD 3 d && plainD d && !dLst d) = true)
    (q : ∀ (G2 : Hp) (xo : List V) (eo : List PyData), eo.length = ds.length → St b G H G2 H2 us → Ex G1 G2 → G2 a = some (.lst xo) → Rps K G2 xo eo → (∀ d ∈ eo, Fit5 d) → Q (.int (ds.length : Nat)) H2) : rLenA K [.ref a] H2 Q := by
  obtain ⟨G2, s2, e2, k2⟩ := s.know y
  have ha := k2 _ _ m
  refine q_lenC (.inl (.inl (s2.w _ _ ha))) ?_
  have hr := r G2 k2
  rw [hr.len]
  exact q G2 xs ds rfl s2 e2 ha hr (all_fit5 f)
def sp_near (K : PySem.W.Frag) : Sp := fun vs H Q _ => ∃ (G : Hp) (b : Addr) (v x : V) (xs : List V) (M : MN) (W : Wd) (B : Nat), vs = [.ref b, v, x] ∧ Ex G H ∧ G b = none ∧ H b = some (.lst xs) ∧ BoxL K G xs ∧ MNOk M ∧ Rp K G v M.d ∧ Rp K G x (W.d true) ∧ WdOk M W B ∧ B ≤ 900 ∧ (∀ n ∈ W.n, n ≤ 900) ∧
  ∀ (p : Addr) (ds : List PyData) (us : List V) (G' H' : Hp), St b G H G' H' us → BoxL K G' us → Rp K G' (.ref p) (.list ds) → ds.length ≤ 1000 → (∀ d ∈ ds, Fit5 d) → Q (.ref p) H'
theorem c_near {f : Addr} {fd : FuncData} (F : FnP K "_law_near" s__law_near f fd) (hm : mg "_law_near" = some (.ref f)) (B : Blt mg) (C__law_draw : Cal P w K mg base 2 "_law_draw" ["box", "many"] (sp_draw K)) : Cal P w K mg base 3 "_law_near" ["box", "net", "world"] (sp_near K) := by
  refine cal_of F hm sc__law_near (fun _ _ _ _ _ _ _ us hl => match us, hl with | [_, _, _], _ => rfl) (fun vs H Q E h => ?_) (fun cdv A outer s H vs Q E hr h => ?_)
  · obtain ⟨_, _, _, _, _, _, _, _, rfl, _⟩ := h
    rfl
  · obtain ⟨G, b, v, x, xs, M, W, BB, rfl, eG, gb, hb, hB, ok, hv, hx, wok, hBB, hnn, q⟩ := h
    have nd := sc__law_near.nd
    have s0 := St.start eG gb hb
    have lR : (M.R.map Rul.d).length ≤ 40 := by rw [List.length_map]; exact ok.lr
    have lC : (M.C.map Chn.d).length ≤ 8 := by rw [List.length_map]; exact ok.lc
    refine ⟨_, [some _, some _, some _, none, none, none, none, none, none], ((pss_cons (ps_setLc (i := 3) (own := [("k", 4)]) rfl nd rfl rfl (sw_true rfl rfl rfl (by decide +kernel)) (pi_range1 (by rfl) B.range_ (pa_cons pe_int pa_nil)) (blkOk_by (N := N__law_near) (sc := defScope s__law_near) (by decide +kernel)) (fun _ _ _ _ _ => (pg_name (i := 4) nd rfl (by first | exact Or.inl rfl | exact Or.inr rfl))) (fun _ _ _ _ _ => pts_nil) (fun _ _ _ _ _ => (pe_tup (pa_cons pe_str (pa_cons (pe_callC C__law_draw (hr.mono (by omega)) (by rfl) (pa_cons (pv 0) (pa_cons (pe_op (op_addK (K := K) rfl) (pe_callB (call_lenK (K := K) rfl) (by rfl) B.len_ bo_len (pa_cons (pe_ix (ix_seqK (K := K) rfl) (pv 1) pe_int (fun _ _ => rfl)) pa_nil)) pe_int) pa_nil))) pa_nil)))))
      (pss_cons (ps_for PassesOwn.never rfl (pi_range1 (by rfl) B.range_ (pa_cons pe_int pa_nil)) (pg_name (i := 4) nd rfl (by first | exact Or.inl rfl | exact Or.inr rfl)) (pss_cons (ps_set (i := 5) nd rfl (Or.inl rfl) (pe_callC C__law_draw (hr.mono (by omega)) (by rfl) (pa_cons (pv 0) (pa_cons (pe_op (op_addK (K := K) rfl) (pe_callB (call_lenK (K := K) rfl) (by rfl) B.len_ bo_len (pa_cons (pe_ix (ix_seqK (K := K) rfl) (pv 1) pe_int (fun _ _ => rfl)) pa_nil)) pe_int) pa_nil))))
      (pss_cons (ps_set (i := 6) nd rfl (Or.inl rfl) (pe_callC C__law_draw (hr.mono (by omega)) (by rfl) (pa_cons (pv 0) (pa_cons pe_int pa_nil))))
      (pss_cut (ps_if (pt_cmpR op_lt (pv 5) (pe_callB (call_lenK (K := K) rfl) (by rfl) B.len_ bo_len (pa_cons (pe_ix (ix_seqK (K := K) rfl) (pv 1) pe_int (fun _ _ => rfl)) pa_nil)) (nomark _)) (pss_cons (ps_set (i := 6) nd rfl (Or.inl rfl) (pe_callC C__law_draw (hr.mono (by omega)) (by rfl) (pa_cons (pv 0) (pa_cons (pe_op (op_addK (K := K) rfl) (pe_ix (ix_seqK (K := K) rfl) (pe_ix (ix_seqK (K := K) rfl) (pv 2) pe_int (fun _ _ => rfl)) (pv 5) (fun _ _ => rfl)) pe_int) pa_nil))))
      (pss_one (ps_if (PW.pt (pw_and (pt_cmpR op_gt (pe_callB (call_lenK (K := K) rfl) (by rfl) B.len_ bo_len (pa_cons (pe_ix (ix_seqK (K := K) rfl) (pe_ix (ix_seqK (K := K) rfl) (pv 2) pe_int (fun _ _ => rfl)) (pv 5) (fun _ _ => rfl)) pa_nil)) pe_int (nomark _)) (pw_and1 (pt_cmpR (op_eqK (K := K) rfl (hu64 hr)) (pe_callC C__law_draw (hr.mono (by omega)) (by rfl) (pa_cons (pv 0) (pa_cons pe_int pa_nil))) pe_int (nomark _))))) (pss_one (ps_set (i := 6) nd rfl (Or.inl rfl) (pe_ix (ix_seqK (K := K) rfl) (pe_ix (ix_seqK (K := K) rfl) (pe_ix (ix_seqK (K := K) rfl) (pe_ix (ix_seqK (K := K) rfl) (pv 2) pe_int (fun _ _ => rfl)) (pv 5) (fun _ _ => rfl)) (pe_callC C__law_draw (hr.mono (by omega)) (by rfl) (pa_cons (pv 0) (pa_cons (pe_callB (call_lenK (K := K) rfl) (by rfl) B.len_ bo_len (pa_cons (pe_ix (ix_seqK (K := K) rfl) (pe_ix (ix_seqK (K := K) rfl) (pv 2) pe_int (fun _ _ => rfl)) (pv 5) (fun _ _ => rfl)) pa_nil)) pa_nil))) (fun _ _ => rfl)) pe_int (fun _ _ => rfl)))) pss_nil))) pss_nil)
      (pss_one (ps_set (i := 3) nd rfl (Or.inl rfl) (pe_op (op_addK (K := K) rfl) (pv 3) (pe_lst (pa_cons (pe_tup (pa_cons pe_str (pa_cons (pv 5) (pa_cons (pv 6) pa_nil)))) (pa_cons (pe_tup (pa_cons pe_str (pa_cons (pe_callC C__law_draw (hr.mono (by omega)) (by rfl) (pa_cons (pv 0) (pa_cons (pe_op (op_addK (K := K) rfl) (pe_callB (call_lenK (K := K) rfl) (by rfl) B.len_ bo_len (pa_cons (pe_ix (ix_seqK (K := K) rfl) (pv 1) pe_int (fun _ _ => rfl)) pa_nil)) pe_int) pa_nil))) (pa_cons (pv 6) pa_nil)))) pa_nil))))))))))
      (pss_cons (ps_set (i := 7) nd rfl (Or.inl rfl) (pe_lst (pa_cons pe_non (pa_cons (pe_tup pa_nil) (pa_cons pe_str (pa_cons pe_int (pa_cons (pe_tup (pa_cons pe_str pa_nil)) (pa_cons (pe_tup (pa_cons pe_str (pa_cons pe_int (pa_cons pe_int pa_nil)))) (pa_cons (pe_tup (pa_cons pe_str (pa_cons pe_int pa_nil))) (pa_cons (pe_tup (pa_cons pe_str (pa_cons pe_int pa_nil))) (pa_cons (pe_tup (pa_cons pe_str (pa_cons pe_int (pa_cons pe_str pa_nil)))) (pa_cons (pe_tup (pa_cons pe_str (pa_cons pe_int (pa_cons pe_non pa_nil)))) (pa_cons (pe_tup (pa_cons pe_str (pa_cons pe_str pa_nil))) pa_nil)))))))))))))
      (pss_cons (ps_set (i := 8) nd rfl (Or.inl rfl) (pe_callC C__law_draw (hr.mono (by omega)) (by rfl) (pa_cons (pv 0) (pa_cons (pe_callB (call_lenK (K := K) rfl) (by rfl) B.len_ bo_len (pa_cons (pv 7) pa_nil)) pa_nil))))
      (pss_cons (ps_set (i := 3) nd rfl (Or.inl rfl) (pe_op (op_addK (K := K) rfl) (pe_op (op_addK (K := K) rfl) (pv 3) (pe_slice (sl_anyK (K := K) rfl) (pe_op (op_addK (K := K) rfl) (pe_slice (sl_anyK (K := K) rfl) (pv 7) (po_some (pv 8)) po_none) (pe_slice (sl_anyK (K := K) rfl) (pv 7) po_none (po_some (pv 8)))) po_none (po_some pe_int))) (pe_lst (pa_cons (pe_tup (pa_cons pe_str (pa_cons (pe_op op_sub (pe_callB (call_lenK (K := K) rfl) (by rfl) B.len_ bo_len (pa_cons (pe_ix (ix_seqK (K := K) rfl) (pv 1) pe_int (fun _ _ => rfl)) pa_nil)) pe_int) (pa_cons (pe_un un_neg pe_int) pa_nil)))) (pa_cons (pe_tup (pa_cons pe_str (pa_cons pe_int (pa_cons (pe_op op_pow pe_int pe_int) pa_nil)))) pa_nil)))))
      (pss_one (ps_ret (pe_op (op_addK (K := K) rfl) (pv 3) (pe_lst (pa_cons (pe_tup (pa_cons pe_str (pa_cons (pe_un un_neg pe_int) pa_nil))) (pa_cons (pe_tup (pa_cons pe_str (pa_cons (pe_callB (call_lenK (K := K) rfl) (by rfl) B.len_ bo_len (pa_cons (pe_ix (ix_seqK (K := K) rfl) (pv 1) pe_int (fun _ _ => rfl)) pa_nil)) (pa_cons pe_int pa_nil)))) (pa_cons (pe_tup (pa_cons pe_str (pa_cons (pe_un un_neg pe_int) (pa_cons pe_int pa_nil)))) (pa_cons (pe_tup (pa_cons pe_str (pa_cons (pe_callB (call_lenK (K := K) rfl) (by rfl) B.len_ bo_len (pa_cons (pe_ix (ix_seqK (K := K) rfl) (pv 1) pe_int (fun _ _ => rfl)) pa_nil)) (pa_cons pe_int pa_nil)))) pa_nil)))))))))))))), rfl, ?_⟩
    walk_at "q"
    refine q_rng_lc 3 (by omega) (fun D hD => ⟨fun i H' => ∃ vs ds us G', St b G H G' H' us ∧ BoxL K G' us ∧ G' D = none ∧ H' D = some (.lst vs) ∧ Rps K G' vs ds ∧ ds.length = i ∧ (∀ d ∈ ds, Fit5 d), ?_, ?_, ?_⟩)
    · exact ⟨[], [], xs, G, s0.up (Ex.new hD), hB, eG.back hD, upd_same, .nil, rfl, by simp⟩
    · rintro i H' hi ⟨vs, ds, us, G', s1, hB1, gD, hl1, hr1, hlen, fit⟩
      have nbD := s0.ne hD
      have w1 := s1.w
      walk_at "q"
      refine ⟨rfl, ?_⟩
      walk_at "q"
      refine q_ixRT (hv.mono s1.g) w1 rfl (fun v2 h2 => ?_)
      walk_at "q"
      refine ⟨G', b, _, us, rfl, w1, s1.gb, s1.hb, hB1, by omega, fun r us2 r0 r1 hB2 => ?_⟩
      have s2 := s1.put (us2 := us2)
      have w2 := s2.w
      have hl2 : L2.upd H' b (.lst us2) D = some (.lst vs) := upd_mu hl1 (Ne.symm nbD)
      generalize L2.upd H' b (.lst us2) = H2 at s2 w2 hl2 ⊢
      walk_at "q"
      rename_i p hp
      have nD := ne_of_none hl2 hp
      have s3 := s2.new (o := .tup [.str "act", .int r]) hp
      have x3 := Ex.new (o := .tup [.str "act", .int r]) (w2.back hp)
      exact ⟨vs, upd_old hl2 hp, line_lt (by rw [hr1.len]; omega), vs ++ [.ref p], ds ++ [.tuple [.str "act", .int r]], us2, _, s3.cell (by rw [upd_ne nD]; exact gD) (s0.fresh hD) nbD, hB2.mono x3, by rw [upd_ne nD]; exact gD, upd_same, (hr1.mono x3).app (Rps.one (.tup (.inl (.inl upd_same)) (.cons (.str _) (.cons (.int _) .nil)))), by rw [List.length_append, hlen] <;> rfl,
        fun d hd => by
          rcases List.mem_append.mp hd with h | h
          · exact fit d h
          · rw [List.mem_singleton.mp h]
            exact fit5_tup (fit_act _ (by decide +kernel) _)⟩
    · rintro H' ⟨vs, ds, us, G', s1, hB1, gD, hl1, hr1, hlen, fit⟩
      have nbD := s0.ne hD
      have s2 := s1.knowC gD (s0.fresh hD) nbD hl1
      have x2 := Ex.new (o := .lst vs) gD
      have hl2 : L2.upd G' D (.lst vs) D = some (.lst vs) := upd_same
      have hr2 := hr1.mono x2
      have hB2 := hB1.mono x2
      generalize L2.upd G' D (.lst vs) = G2 at s2 hl2 hr2 hB2
      clear s1 hB1 gD hl1 hr1 x2
      walk_at "q"
      refine q_rng1 5 (by decide) (fun i σ' H' => ∃ z4 z5 z6 l vs ds us G', σ' = [some (.ref b), some v, some x, some (.ref l), z4, z5, z6, none, none] ∧ St b G H G' H' us ∧ BoxL K G' us ∧ G' l = some (.lst vs) ∧ Rps K G' vs ds ∧ ds.length = 3 + 2 * i ∧ ∀ d ∈ ds, Fit5 d) ⟨none, none, none, D, vs, ds, us, G2, rfl, s2, hB2, hl2, hr2, hlen, fit⟩ ?_ ?_
      · clear s2 hl2 hr2 hB2 hlen fit
        rintro i σ' H' hi ⟨z4, z5, z6, l, vs, ds, us, G1, rfl, s1, hB1, gl, hr1, hlen, fit⟩
        have w1 := s1.w
        have hv1 := hv.mono s1.g
        have hx1 := hx.mono s1.g
        walk_at "q"
        refine q_ixRT hv1 w1 rfl (fun v2 h2 => ?_)
        walk_at "q"
        refine ⟨G1, b, _, us, rfl, w1, s1.gb, s1.hb, hB1, by omega, fun c us2 c0 c1 hB2 => ?_⟩
        have s2 := s1.put (us2 := us2)
        have w2 := s2.w
        generalize L2.upd H' b (.lst us2) = H2 at s2 w2 ⊢
        obtain ⟨c, rfl⟩ := Int.eq_ofNat_of_zero_le c0
        walk_at "q"
        refine ⟨G1, b, 4, us2, rfl, w2, s2.gb, s2.hb, hB2, by decide, fun n0 us3 n00 n01 hB3 => ?_⟩
        have s3 := s2.put (us2 := us3)
        have w3 := s3.w
        generalize L2.upd H2 b (.lst us3) = H3 at s3 w3 ⊢
        walk_at "q"
        refine q_cut (M := fun σ' H' => ∃ (n : Int) (us : List V), σ' = [some (.ref b), some v, some x, some (.ref l), some (.int (i : Int)), some (.int (c : Int)), some (.int n), none, none] ∧ St b G H G1 H' us ∧ BoxL K G1 us) ?_ ?_
        · walk_at "q"
          refine q_ixRT hv1 w3 rfl (fun v4 h4 => ?_)
          walk_at "q"
          rw [List.length_map]
          refine q_ifd (fun hc => ?_) (fun hc => ?_)
          · have hcl : c < M.C.length := by omega
            have hcn : c < W.n.length := by rw [wok.ln]; exact hcl
            walk_at "q"
            refine q_ixRT hx1 w3 rfl (fun v5 h5 => ?_)
            walk_at "q"
            refine q_ixRT h5 w3 (at_map hcn) (fun v6 h6 => ?_)
            obtain rfl := rp_nD h6
            have hnc := hnn _ (List.getElem_mem hcn)
            walk_at "q"
            refine ⟨G1, b, _, us3, rfl, w3, s3.gb, s3.hb, hB3, by omega, fun n1 us4 n10 n11 hB4 => ?_⟩
            have s4 := s3.put (us2 := us4)
            have w4 := s4.w
            generalize L2.upd H3 b (.lst us4) = H4 at s4 w4 ⊢
            walk_at "q"
            refine q_ixRT hx1 w4 rfl (fun v7 h7 => ?_)
            walk_at "q"
            refine q_ixRT h7 w4 (wok.at2 hcl true) (fun v8 h8 => ?_)
            walk_at "q"
            rw [List.length_map]
            refine q_ifd (fun hl => ?_) (fun hl => ?_)
            · walk_at "q"
              refine ⟨G1, b, 2, us4, rfl, w4, s4.gb, s4.hb, hB4, by decide, fun r5 us5 r50 r51 hB5 => ?_⟩
              have s5 := s4.put (us2 := us5)
              have w5 := s5.w
              generalize L2.upd H4 b (.lst us5) = H5 at s5 w5 ⊢
              walk_at "q"
              refine q_ifd (fun h5' => ?_) (fun h5' => ?_)
              · walk_at "q"
                refine q_ixRT hx1 w5 rfl (fun v9 h9 => ?_)
                walk_at "q"
                refine q_ixRT h9 w5 (wok.at2 hcl true) (fun v10 h10 => ?_)
                walk_at "q"
                refine q_ixRT hx1 w5 rfl (fun v11 h11 => ?_)
                walk_at "q"
                refine q_ixRT h11 w5 (wok.at2 hcl true) (fun v12 h12 => ?_)
                walk_at "q"
                rw [List.length_map]
                have hrow := wok.row c
                refine ⟨G1, b, _, us5, rfl, w5, s5.gb, s5.hb, hB5, by omega, fun r6 us6 r60 r61 hB6 => ?_⟩
                have s6 := s5.put (us2 := us6)
                have w6 := s6.w
                generalize L2.upd H5 b (.lst us6) = H6 at s6 w6 ⊢
                obtain ⟨r6, rfl⟩ := Int.eq_ofNat_of_zero_le r60
                have hr6 : r6 < (rowM W c).length := by omega
                refine q_ixRT (ds := (rowM W c).map (msgD true)) h10 w6 (at_map hr6) (fun v13 h13 => ?_)
                walk_at "q"
                refine q_ixRT h13 w6 (atI_nat (j := 0) rfl) (fun v14 h14 => ?_)
                obtain rfl := rp_nD h14
                exact ⟨_, us6, rfl, s6, hB6⟩
              · walk_at "q"
                exact ⟨n1, us5, rfl, s5, hB5⟩
            · walk_at "q"
              exact ⟨n1, us4, rfl, s4, hB4⟩
          · walk_at "q"
            exact ⟨n0, us3, rfl, s3, hB3⟩
        · clear s3 w3 s2 w2 hB3 hB2
          rintro σ' H' ⟨n, us, rfl, s3, hB3⟩
          have w3 := s3.w
          have hl3 := w3 _ _ gl
          walk_at "q"
          rename_i pA hpA
          have sA := s3.new (o := .tup [.str "lose", .int (c : Int), .int n]) hpA
          have xA := Ex.new (o := .tup [.str "lose", .int (c : Int), .int n]) (w3.back hpA)
          have rA : Rp K (L2.upd G1 pA (.tup [.str "lose", .int (c : Int), .int n])) (.ref pA) (.tuple [.str "lose", .int (c : Int), .int n]) := .tup (.inl (.inl upd_same)) (.cons (.str _) (.cons (.int _) (.cons (.int _) .nil)))
          generalize L2.upd G1 pA (.tup [.str "lose", .int (c : Int), .int n]) = GA at sA xA rA
          generalize L2.upd H' pA (.tup [.str "lose", .int (c : Int), .int n]) = HA at sA ⊢
          have wA := sA.w
          refine q_ixRT (hv1.mono xA) wA rfl (fun v4 h4 => ?_)
          walk_at "q"
          refine ⟨GA, b, _, us, rfl, wA, sA.gb, sA.hb, hB3.mono xA, by omega, fun r us4 r0 r1 hB4 => ?_⟩
          have s4 := sA.put (us2 := us4)
          have w4 := s4.w
          generalize L2.upd HA b (.lst us4) = H4 at s4 w4 ⊢
          have hl4 := w4 _ _ (xA _ _ gl)
          walk_at "q"
          refine q_cat (by walk_at "at") (by walk_at "at") (by rw [hr1.len]; exact Nat.le_trans (show _ ≤ 100 by simp; omega) (by decide)) (fun p2 hp2 => ?_)
          obtain ⟨G7, s7, e7, k7, kp⟩ := s4.know2 hp2 (by walk_at "lay") (.lst _)
          walk_at "q"
          refine ⟨_, _, _, p2, _, ds ++ [.tuple [.str "lose", .int (c : Int), .int n], .tuple [.str "take", .int r, .int n]], us4, G7, rfl, s7, hB4.mono e7, kp, (hr1.mono (xA.trans e7)).app (.cons (rA.mono e7) (by walk_at "rps")), by simp; omega, fun d hd => ?_⟩
          rcases List.mem_append.mp hd with h | h
          · exact fit d h
          · simp only [List.mem_cons, List.mem_nil_iff, or_false] at h
            rcases h with rfl | rfl
            · exact fit5_tup (fit_three _ (by decide +kernel) _ _)
            · exact fit5_tup (fit_three _ (by decide +kernel) _ _)
      · clear s2 hl2 hr2 hB2 hlen fit
        rintro σ' H' ⟨z4, z5, z6, l, vs, ds, us, G1, rfl, s1, hB1, gl, hr1, hlen, fit⟩
        have w1 := s1.w
        have hv1 := hv.mono s1.g
        walk_at "q"
        refine q_lenKn5 (ds := [.none, .tuple [], .str "act", .int 3, .tuple [.str "act"], .tuple [.str "act", .int 0, .int 0], .tuple [.str "jump", .int 0], .tuple [.str "take", .int 0], .tuple [.str "take", .int 0, .str "0"], .tuple [.str "lose", .int 0, .none], .tuple [.str "act", .str "0"]]) (by walk_at "lay") (by walk_at "mem") s1 (fun G2 k2 => by walk_at "rps") (by kernel_rfl) (fun G4 xo eo l11 s4 e4 ho ro fo => ?_)
        replace l11 : eo.length = 11 := l11
        have lx := ro.len
        have w4 := s4.w
        generalize L2.upd _ _ _ = H4 at s4 w4 ⊢
        walk_at "q"
        refine ⟨G4, b, _, us, rfl, w4, s4.gb, s4.hb, hB1.mono e4, by simp, fun a us5 a0 a1 hB5 => ?_⟩
        have s5 := s4.put (us2 := us5)
        have w5 := s5.w
        generalize L2.upd H4 b (.lst us5) = H5 at s5 w5 ⊢
        obtain ⟨a, rfl⟩ := Int.eq_ofNat_of_zero_le a0
        have a2 : a < 11 := by simp at a1; omega
        have gl5 := w5 _ _ (e4 _ _ gl)
        have ho5 := w5 _ _ ho
        walk_at "q"
        refine q_slL ho5 (fun p1 hp1 => ?_)
        rw [cut_from (by omega)]
        walk_at "q"
        refine q_slL (by walk_at "at") (fun p2 hp2 => ?_)
        rw [cut_to]
        walk_at "q"
        refine q_cat (by walk_at "at") (by walk_at "at") (by rw [List.length_drop, List.length_take]; exact Nat.le_trans (show _ ≤ 100 by omega) (by decide)) (fun p3 hp3 => ?_)
        walk_at "q"
        refine q_slL (by walk_at "at") (fun p4 hp4 => ?_)
        rw [show (3 : Int) = ((3 : Nat) : Int) from rfl, cut_to]
        have l8 : (List.take 3 (List.drop a xo ++ List.take a xo)).length ≤ 3 := List.length_take_le _ _
        walk_at "q"
        refine q_cat (by walk_at "at") (by walk_at "at") (by rw [hr1.len]; exact Nat.le_trans (show _ ≤ 100 by omega) (by decide)) (fun p5 hp5 => ?_)
        walk_at "q"
        refine q_ixRT (hv1.mono e4) (by walk_at "ex") rfl (fun v4 h4 => ?_)
        walk_at "q"
        refine q_cat (by walk_at "at") (by walk_at "at") ?_ (fun p6 hp6 => ?_)
        · refine Nat.le_trans (m := 100) ?_ (by decide)
          rw [List.length_append, hr1.len]
          show _ + 2 ≤ 100
          omega
        walk_at "q"
        refine q_ixRT (hv1.mono e4) (by walk_at "ex") rfl (fun v5 h5 => ?_)
        walk_at "q"
        refine q_ixRT (hv1.mono e4) (by walk_at "ex") rfl (fun v6 h6 => ?_)
        walk_at "q"
        refine q_cat (by walk_at "at") (by walk_at "at") ?_ (fun p7 hp7 => ?_)
        · refine Nat.le_trans (m := 100) ?_ (by decide)
          rw [List.length_append, List.length_append, hr1.len]
          show _ + 2 + 4 ≤ 100
          omega
        obtain ⟨G7, s7, e7, k7, kp⟩ := s5.know2 hp7 (by walk_at "lay") (.lst _)
        walk_at "q"
        have r1 := hr1.mono (e4.trans e7)
        have r2 := ro.mono e7
        refine q p7 ((ds ++ ((eo.drop a ++ eo.take a).take 3) ++ [.tuple [.str "take", .int _, .int _], .tuple [.str "lose", .int 0, .int _]]) ++ [.tuple [.str "act", .int _], .tuple [.str "take", .int _, .int 0], .tuple [.str "lose", .int _, .int 0], .tuple [.str "lose", .int _, .int 0]]) us5 G7 _ s7 (hB5.mono e7) (.lst kp (((r1.app (((r2.drop a).app (r2.take a)).take 3)).app (by walk_at "rps")).app (by walk_at "rps"))) ?_ ?_
        · simp only [List.length_append, List.length_take, List.length_drop, List.length_cons, List.length_nil]
          omega
        · intro d hd
          rcases List.mem_append.mp hd with hd | hd
          · rcases List.mem_append.mp hd with hd | hd
            · rcases List.mem_append.mp hd with hd | hd
              · exact fit d hd
              · rcases List.mem_append.mp (List.mem_of_mem_take hd) with hd | hd
                · exact fo d (List.mem_of_mem_drop hd)
                · exact fo d (List.mem_of_mem_take hd)
            · simp only [List.mem_cons, List.mem_nil_iff, or_false] at hd
              rcases hd with rfl | rfl
              · exact fit5_tup (fit_three _ (by decide +kernel) _ _)
              · exact fit5_tup (fit_three _ (by decide +kernel) _ _)
          · simp only [List.mem_cons, List.mem_nil_iff, or_false] at hd
            rcases hd with rfl | rfl | rfl | rfl
            · exact fit5_tup (fit_act _ (by decide +kernel) _)
            · exact fit5_tup (fit_three _ (by decide +kernel) _ _)
            · exact fit5_tup (fit_three _ (by decide +kernel) _ _)
            · exact fit5_tup (fit_three _ (by decide +kernel) _ _)
end
end Cw

set_option maxHeartbeats 4000000
namespace Cw
open PySem PySem.Spec PyProof.Rows L2
section
variable {P : Program} {w : World} {K : PySem.W.Frag} {mg : Str → Option Value} {base : Heap}
abbrev s__law_alone : Stmt := topS 60
abbrev N__law_alone : List Str := ["net", "world", "deeds", "r", "rule", "pair"]
theorem sc__law_alone : FnScope N__law_alone ["net", "world"] (defScope s__law_alone) := ⟨rfl, rfl, rfl, by decide +kernel, rfl, by decide +kernel, by decide +kernel⟩
def sp_alone (K : PySem.W.Frag) : Sp := fun vs H Q _ => ∃ (G : Hp) (v x : V) (M : MN) (W : Wd) (B : Nat), vs = [v, x] ∧ Ex G H ∧ MNOk M ∧ Rp K G v M.d ∧ Rp K G x (W.d true) ∧ WdOk M W B ∧ B ≤ 900 ∧ ∀ G2 H2 p (L : List Deed), Gro none G H G2 H2 → L.length ≤ 16 → Rp K G2 (.ref p) (.list (L.map Deed.d)) → Q (.ref p) H2
theorem c_alone5 {f : Addr} {fd : FuncData} (F : FnP K "_law_alone" s__law_alone f fd) (hm : mg "_law_alone" = some (.ref f)) (B : Blt mg) : Cal P w K mg base 1 "_law_alone" ["net", "world"] (sp_alone K) := by
  refine cal_of F hm sc__law_alone (fun _ _ _ _ _ _ _ us hl => match us, hl with | [_, _], _ => rfl) (fun vs H Q E h => ?_) (fun cdv A outer s H vs Q E hr h => ?_)
  · obtain ⟨_, _, _, _, _, _, rfl, _⟩ := h
    rfl
  · obtain ⟨G, v, x, M, W, BB, rfl, eG, ok, hv, hx, wok, hB, q⟩ := h
    have nd := sc__law_alone.nd
    have lR := ok.lr
    refine ⟨_, [some _, some _, none, none, none, none], ((pss_cons (ps_set (i := 2) nd rfl (Or.inl rfl) (pe_lst pa_nil))
      (pss_cons (ps_for PassesOwn.never rfl (pi_range1 (by rfl) B.range_ (pa_cons (pe_callB (call_lenK (K := K) rfl) (by rfl) B.len_ bo_len (pa_cons (pe_ix (ix_seqK (K := K) rfl) (pv 0) pe_int (fun _ _ => rfl)) pa_nil)) pa_nil)) (pg_name (i := 3) nd rfl (Or.inr rfl)) (pss_cons (ps_set (i := 4) nd rfl (Or.inl rfl) (pe_ix (ix_seqK (K := K) rfl) (pe_ix (ix_seqK (K := K) rfl) (pv 0) pe_int (fun _ _ => rfl)) (pv 3) (fun _ _ => rfl)))
      (pss_one (ps_if (pt_cmpR (op_eqK (K := K) rfl (hu64 hr)) (pe_ix (ix_seqK (K := K) rfl) (pe_ix (ix_seqK (K := K) rfl) (pv 4) pe_int (fun _ _ => rfl)) pe_int (fun _ _ => rfl)) pe_str (nomark _)) (pss_cons (ps_set (i := 2) nd rfl (Or.inl rfl) (pe_op (op_addK (K := K) rfl) (pv 2) (pe_lc (own := [("pair", 5)]) rfl nd (pi_seqK (K := K) rfl (pe_slice (sl_anyK (K := K) rfl) (pe_ix (ix_seqK (K := K) rfl) (pe_ix (ix_seqK (K := K) rfl) (pv 1) pe_int (fun _ _ => rfl)) (pe_ix (ix_seqK (K := K) rfl) (pe_ix (ix_seqK (K := K) rfl) (pv 4) pe_int (fun _ _ => rfl)) pe_int (fun _ _ => rfl)) (fun _ _ => rfl)) po_none (po_some pe_int))) (blkOk_by (N := N__law_alone) (sc := defScope s__law_alone) (by decide +kernel)) (fun _ _ _ _ _ => (pg_name (i := 5) nd rfl (by first | exact Or.inl rfl | exact Or.inr rfl))) (fun _ _ _ _ _ => pts_nil) (fun _ _ _ _ _ => (pe_tup (pa_cons pe_str (pa_cons (pv 3) (pa_cons (pe_ix (ix_seqK (K := K) rfl) (pv 5) pe_int (fun _ _ => rfl)) pa_nil))))))))
      (pss_one (ps_set (i := 2) nd rfl (Or.inl rfl) (pe_op (op_addK (K := K) rfl) (pv 2) (pe_lst (pa_cons (pe_tup (pa_cons pe_str (pa_cons (pv 3) (pa_cons (pe_ix (ix_seqK (K := K) rfl) (pe_ix (ix_seqK (K := K) rfl) (pv 1) pe_int (fun _ _ => rfl)) (pe_ix (ix_seqK (K := K) rfl) (pe_ix (ix_seqK (K := K) rfl) (pv 4) pe_int (fun _ _ => rfl)) pe_int (fun _ _ => rfl)) (fun _ _ => rfl)) pa_nil)))) pa_nil)))))) (pss_one (ps_if (pt_cmpR (op_neK (K := K) rfl (hu64 hr)) (pe_ix (ix_seqK (K := K) rfl) (pe_ix (ix_seqK (K := K) rfl) (pv 1) pe_int (fun _ _ => rfl)) (pe_ix (ix_seqK (K := K) rfl) (pv 4) pe_int (fun _ _ => rfl)) (fun _ _ => rfl)) (pe_ix (ix_seqK (K := K) rfl) (pv 4) pe_int (fun _ _ => rfl)) (nomark _)) (pss_one (ps_expr (pe_bmK (K := K) rfl PySem.F.plainAttrs_list PySem.F.slot_list_append PySem.F.type_list_append mt_append (pv 2) (pa_cons (pe_tup (pa_cons pe_str (pa_cons (pv 3) pa_nil))) pa_nil)))) pss_nil))))))
      (pss_one (ps_ret (pe_slice (sl_anyK (K := K) rfl) (pv 2) po_none (po_some pe_int))))))), rfl, ?_⟩
    walk_at "q"
    rename_i l0 hl0
    have a0 : Acc l0 G H G _ [] := Acc.first eG hl0
    have w0 := a0.w
    generalize L2.upd H l0 (.lst []) = H0 at a0 w0 ⊢
    refine q_ixRT hv w0 rfl (fun v1 h1 => ?_)
    walk_at "q"
    rw [List.length_map]
    refine q_rng1 M.R.length (by omega) (fun i σ' H' => ∃ z3 z4 l vs G' LL, σ' = [some v, some x, some (.ref l), z3, z4, none] ∧ Acc l G H G' H' vs ∧ Rps K G' vs (LL.map Deed.d) ∧ LL.length ≤ i * 5) ⟨none, none, l0, [], G, [], rfl, a0, .nil, by simp⟩ ?_ ?_
    · rintro i σ' H' hi ⟨z3, z4, l, vs, G', LL, rfl, ac, hr1, hll⟩
      have w1 := ac.w
      have hl1 := ac.hl
      have eg := ac.gr.g
      have hx1 := hx.mono eg
      obtain ⟨hp, hcc⟩ := ok.ru _ (List.getElem_mem hi)
      have hps : M.R[i].p < W.s.length := by rw [wok.ls]; exact hp
      walk_at "q"
      refine q_ixRT (hv.mono eg) w1 rfl (fun v2 h2 => ?_)
      walk_at "q"
      refine q_ixRT h2 w1 (MN.rule hi) (fun v3 h3 => ?_)
      walk_at "q"
      generalize ea : M.R[i].a = ac0 at hcc
      cases ac0 with
      | do_ =>
        refine q_ixRT h3 w1 rfl (fun v8 h8 => ?_)
        rw [ea] at h8
        walk_at "q"
        refine q_ixRT h8 w1 (atI_nat (j := 0) rfl) (fun v9 h9 => ?_)
        cases h9
        walk_at "q"
        refine q_ixRT hx1 w1 rfl (fun x5 k5 => ?_)
        walk_at "q"
        refine q_ixRT h3 w1 rfl (fun x6 k6 => ?_)
        obtain rfl := rp_nD k6
        refine q_ixRT k5 w1 (at_map hps) (fun x7 k7 => ?_)
        obtain rfl := rp_nD k7
        walk_at "q"
        refine q_ixRT h3 w1 rfl (fun x8 k8 => ?_)
        obtain rfl := rp_nD k8
        walk_at "q"
        refine q_ifnd (fun h => ?_) (fun h => ?_)
        · walk_at "q"
          rename_i pa hpa
          refine q_append (upd_old hl1 hpa) (line_lt (by rw [hr1.len, List.length_map]; have := Nat.mul_le_mul_right 5 (show i ≤ 40 by omega); omega)) ?_
          have g2 := Gro.new (o := .tup [.str "act", .int (i : Int)]) w1 hpa
          refine ⟨_, _, l, _, _, LL ++ [.act i], rfl, (ac.gro g2).put, ?_, by rw [List.length_append, List.length_singleton]; omega⟩
          rw [List.map_append]
          exact (hr1.mono g2.g).app (Rps.one (.tup (.inl (.inl upd_same)) (.cons (.str _) (.cons (.int _) .nil))))
        · walk_at "q"
          exact ⟨_, _, l, vs, G', LL, rfl, ac, hr1, by omega⟩
      | send c k =>
        refine q_ixRT h3 w1 rfl (fun v8 h8 => ?_)
        rw [ea] at h8
        walk_at "q"
        refine q_ixRT h8 w1 (atI_nat (j := 0) rfl) (fun v9 h9 => ?_)
        cases h9
        walk_at "q"
        refine q_ixRT hx1 w1 rfl (fun x5 k5 => ?_)
        walk_at "q"
        refine q_ixRT h3 w1 rfl (fun x6 k6 => ?_)
        obtain rfl := rp_nD k6
        refine q_ixRT k5 w1 (at_map hps) (fun x7 k7 => ?_)
        obtain rfl := rp_nD k7
        walk_at "q"
        refine q_ixRT h3 w1 rfl (fun x8 k8 => ?_)
        obtain rfl := rp_nD k8
        walk_at "q"
        refine q_ifnd (fun h => ?_) (fun h => ?_)
        · walk_at "q"
          rename_i pa hpa
          refine q_append (upd_old hl1 hpa) (line_lt (by rw [hr1.len, List.length_map]; have := Nat.mul_le_mul_right 5 (show i ≤ 40 by omega); omega)) ?_
          have g2 := Gro.new (o := .tup [.str "act", .int (i : Int)]) w1 hpa
          refine ⟨_, _, l, _, _, LL ++ [.act i], rfl, (ac.gro g2).put, ?_, by rw [List.length_append, List.length_singleton]; omega⟩
          rw [List.map_append]
          exact (hr1.mono g2.g).app (Rps.one (.tup (.inl (.inl upd_same)) (.cons (.str _) (.cons (.int _) .nil))))
        · walk_at "q"
          exact ⟨_, _, l, vs, G', LL, rfl, ac, hr1, by omega⟩
      | take c k =>
        refine q_ixRT h3 w1 rfl (fun v8 h8 => ?_)
        rw [ea] at h8
        walk_at "q"
        refine q_ixRT h8 w1 (atI_nat (j := 0) rfl) (fun v9 h9 => ?_)
        cases h9
        walk_at "q"
        have hcl := hcc c k (.inr rfl)
        have hcn : c < W.n.length := by rw [wok.ln]; exact hcl
        refine q_lcT ?_
        walk_at "q"
        refine q_ixRT hx1 w1 rfl (fun x2 y2 => ?_)
        walk_at "q"
        refine q_ixRT h3 w1 rfl (fun x3 y3 => ?_)
        rw [ea] at y3
        walk_at "q"
        refine q_ixRT y3 w1 (atI_nat (j := 1) rfl) (fun x4 y4 => ?_)
        cases y4
        refine q_ixRT y2 w1 (wok.at2 hcl true) (fun x5 y5 => ?_)
        walk_at "q"
        refine q_slTo (k := 4) (b := true) y5 w1 (fun G2 H2 p2 g2 r2 => ?_)
        rw [← List.map_take] at r2
        refine q_fmT (h := msgD true) (f := fun m => some (Deed.take i m.1).d) r2 g2.w (by have := List.length_take_le 4 (rowM W c); omega) (fun j m u3 G3 H3 hm' gr3 ru C N yes no => ?_) (fun G3 H3 D g3 hD r3 => ?_)
        · have w3 := gr3.w
          walk_at "q"
          refine ⟨rfl, ?_⟩
          walk_at "q"
          refine q_ixRT ru w3 rfl (fun u6 hu6 => ?_)
          obtain rfl := rp_nD hu6
          walk_at "q"
          rename_i p hp
          exact yes _ _ _ _ rfl (Gro.new w3 hp) (.tup (.inl (.inl upd_same)) (.cons (.str _) (.cons (.int _) (.cons (.int _) .nil))))
        · rw [fm_map, show (((rowM W c).take 4).map fun m => (Deed.take i m.1).d) = (((rowM W c).take 4).map fun m => Deed.take i m.1).map Deed.d from by rw [List.map_map]; rfl] at r3
          have l4 : (((rowM W c).take 4).map fun m => Deed.take i m.1).length ≤ 4 := by rw [List.length_map]; exact List.length_take_le _ _
          generalize (((rowM W c).take 4).map fun m => Deed.take i m.1) = L4 at r3 l4
          obtain ⟨al, zs, e, hL, hz⟩ := rp_lst r3
          cases e
          obtain ⟨c1, c2, c3, c4⟩ := one_step ac hr1 (g2.trans0 g3) hL hz (by rw [List.length_map, List.length_map]; have := Nat.mul_le_mul_right 5 (show i ≤ 40 by omega); omega)
          refine q_cat c1 c2 c3 (fun p hp => ?_)
          obtain ⟨c5, c6⟩ := c4 p hp
          have w5 := c5.w
          have hl5 := c5.hl
          have e5 := g2.g.trans g3.g
          generalize L2.upd H3 p (.lst (vs ++ zs)) = H5 at c5 w5 hl5 ⊢
          walk_at "q"
          refine q_ixRT (hx1.mono e5) w5 rfl (fun x6 y6 => ?_)
          walk_at "q"
          refine q_ixRT (h3.mono e5) w5 rfl (fun x7 y7 => ?_)
          rw [ea] at y7
          walk_at "q"
          refine q_ixRT y7 w5 (atI_nat (j := 1) rfl) (fun x8 y8 => ?_)
          cases y8
          refine q_ixRT y6 w5 (at_map hcn) (fun x9 y9 => ?_)
          obtain rfl := rp_nD y9
          walk_at "q"
          rename_i pt hpt pl hpl
          have g6 := Gro.new (o := .tup [.str "take", .int (i : Int), .int (W.n[c] : Int)]) w5 hpt
          refine q_cat (by walk_at "at") (by walk_at "at") (by rw [c6.len, List.length_append, List.length_map, List.length_map]; have := Nat.mul_le_mul_right 5 (show i ≤ 40 by omega); exact Nat.le_trans (show _ ≤ 1000 by simp only [List.length_cons, List.length_nil]; omega) (by decide)) (fun p7 hp7 => ?_)
          have g7 : Gro none G H _ _ := c5.gr.trans0 (g6.trans0 (Gro.up g6.w (Ex.new (o := .lst [.ref pt]) hpl)))
          refine ⟨_, _, p7, _, _, LL ++ L4 ++ [.take i W.n[c]], rfl, Acc.newL (l := p7) g7 hp7, ?_, by rw [List.length_append, List.length_append, List.length_singleton]; omega⟩
          rw [List.map_append, List.map_append]
          exact (c6.mono g6.g).app (Rps.one (.tup (.inl (.inl upd_same)) (.cons (.str _) (.cons (.int _) (.cons (.int _) .nil)))))
    · rintro σ' H' ⟨z3, z4, l, vs, G', LL, rfl, ac, hr1, hll⟩
      walk_at "q"
      refine q_slL ac.hl (fun p hp => ?_)
      rw [show (16 : Int) = ((16 : Nat) : Int) from rfl, cut_to]
      walk_at "q"
      have g3 := Gro.new (o := .lst (vs.take 16)) ac.know.w hp
      refine q _ _ p (LL.take 16) (ac.know.trans0 g3) (List.length_take_le _ _) ?_
      rw [List.map_take]
      exact .lst upd_same ((hr1.take 16).mono ((Ex.new ac.gl).trans g3.g))
end
end Cw

set_option maxHeartbeats 4000000
namespace Cw
open PySem PySem.Spec PyProof.Rows L2
section
variable {P : Program} {w : World} {K : PySem.W.Frag} {mg : Str → Option Value} {base : Heap}
abbrev s__law_walked : Stmt := topS 62
abbrev N__law_walked : List Str := ["box", "net", "turns", "made", "world", "asked", "turn", "step", "deed"]
theorem sc__law_walked : FnScope N__law_walked ["box", "net", "turns"] (defScope s__law_walked) := ⟨rfl, rfl, rfl, by decide +kernel, rfl, by decide +kernel, by decide +kernel⟩
theorem fit5_deed (D : Deed) : Fit5 D.d := by
  refine ⟨⟨okD_le (okD_deed D) (by decide), ?_⟩, fun ds e => ?_⟩
  · cases D <;> rfl
  · cases D <;> cases e
theorem step_n {M : MN} {W : Wd} {B : Nat} (h : ∀ k ∈ W.n, k ≤ B) (D : Deed) : ∀ k ∈ (stepM M W D).n, k ≤ B + 1 := by
  have same : ∀ k ∈ W.n, k ≤ B + 1 := fun k hk => Nat.le_trans (h k hk) (Nat.le_succ _)
  have gd : ∀ c, W.n.getD c 0 ≤ B := fun c => by
    rw [List.getD_eq_getElem?_getD]
    cases e : W.n[c]? with
    | none => exact Nat.zero_le _
    | some k => exact h k (List.mem_of_getElem? e)
  cases D with
  | lose c k => exact same
  | act r =>
    show ∀ k ∈ (match M.R[r]? with | none => W | some R => _ : Wd).n, k ≤ B + 1
    cases M.R[r]? with
    | none => exact same
    | some R =>
      show ∀ k ∈ (match R.a with | .send c k => _ | _ => _ : Wd).n, k ≤ B + 1
      cases R.a with
      | send c k =>
        intro k' hk'
        rcases List.mem_or_eq_of_mem_set hk' with h1 | rfl
        · exact same _ h1
        · have := gd c
          omega
      | do_ => exact same
      | take c k => exact same
  | take r k =>
    show ∀ k ∈ (match M.R[r]? with | none => W | some R => _ : Wd).n, k ≤ B + 1
    cases M.R[r]? with
    | none => exact same
    | some R =>
      show ∀ k ∈ (match R.a with | .take c _ => _ | _ => _ : Wd).n, k ≤ B + 1
      cases R.a with
      | take c t => exact same
      | do_ => exact same
      | send c t => exact same
def sp_walked (K : PySem.W.Frag) : Sp := fun vs H Q _ => ∃ (G : Hp) (b : Addr) (v : V) (xs : List V) (ps cs rs : List PyData) (n : Nat), vs = [.ref b, v, .int (n : Int)] ∧ Ex G H ∧ G b = none ∧ H b = some (.lst xs) ∧ BoxL K G xs ∧ Rp K G v (.tuple [.tuple ps, .tuple cs, .tuple rs]) ∧ LNet ps cs rs ∧ n ≤ 50 ∧
  ∀ (us : List V) (G' H' : Hp), St b G H G' H' us → BoxL K G' us → Q (.bl true) H'
theorem c_walked {C CB f : Addr} {fd : FuncData} (F : FnP K "_law_walked" s__law_walked f fd) (hm : mg "_law_walked" = some (.ref f)) (B : Blt mg) (M_Net : Mkx P w K mg base 6 "Net" C ["self", "processes", "channels", "rules"] (sp_net K C CB)) (C__law_start : Cal P w K mg base 1 "_law_start" ["net"] (sp_lstart K))
    (C__law_step : Cal P w K mg base 3 "_law_step" ["box", "net", "world"] (sp_step K)) (C__law_draw : Cal P w K mg base 2 "_law_draw" ["box", "many"] (sp_draw K)) (C__law_near : Cal P w K mg base 3 "_law_near" ["box", "net", "world"] (sp_near K)) (C__law_alone : Cal P w K mg base 1 "_law_alone" ["net", "world"] (sp_alone K)) (C__law_right : Cal P w K mg base 8 "_law_right" ["made", "net", "world", "deed"] (sp_right5 K C)) (C__law_done : Cal P w K mg base 2 "_law_done" ["net", "world", "deed"] (sp_ldone K)) :
    Cal P w K mg base 9 "_law_walked" ["box", "net", "turns"] (sp_walked K) := by
  refine cal_of F hm sc__law_walked (fun _ _ _ _ _ _ _ us hl => match us, hl with | [_, _, _], _ => rfl) (fun vs H Q E h => ?_) (fun cdv A outer s H vs Q E hr h => ?_)
  · obtain ⟨_, _, _, _, _, _, _, _, rfl, _⟩ := h
    rfl
  · obtain ⟨G, b, v, xs, ps, cs, rs, n, rfl, eG, gb, hb, hB, hv, ln, hn, q⟩ := h
    have nd := sc__law_walked.nd
    have s0 := St.start eG gb hb
    have ok := ln.mnOk
    have emd := ln.mnd
    have emn := ln.mnN
    generalize hM : mnOf ps cs rs = M at ok emd emn
    have nok : NOk M.N := by rw [emn]; exact ln.nok
    have hvM : Rp K G v M.d := by rw [emd]; exact hv
    refine ⟨_, [some _, some _, some _, none, none, none, none, none, none], ((pss_cons (ps_set (i := 3) nd rfl (Or.inl rfl) (pe_mkS0 M_Net (hr.mono (by omega)) (by rfl) (pa_cons (pe_ix (ix_seqK (K := K) rfl) (pv 1) pe_int (fun _ _ => rfl)) (pa_cons (pe_ix (ix_seqK (K := K) rfl) (pv 1) pe_int (fun _ _ => rfl)) (pa_cons (pe_ix (ix_seqK (K := K) rfl) (pv 1) pe_int (fun _ _ => rfl)) pa_nil)))))
      (pss_cons (ps_set (i := 4) nd rfl (Or.inl rfl) (pe_callC C__law_start (hr.mono (by omega)) (by rfl) (pa_cons (pv 1) pa_nil)))
      (pss_cons (ps_set (i := 5) nd rfl (Or.inl rfl) (pe_lst (pa_cons (pe_callC C__law_draw (hr.mono (by omega)) (by rfl) (pa_cons (pv 0) (pa_cons (pe_op (op_addK (K := K) rfl) (pv 2) pe_int) pa_nil))) (pa_cons (pv 2) pa_nil))))
      (pss_cons (ps_for PassesOwn.never rfl (pi_range1 (by rfl) B.range_ (pa_cons (pe_op (op_addK (K := K) rfl) (pv 2) pe_int) pa_nil)) (pg_name (i := 6) nd rfl (by first | exact Or.inl rfl | exact Or.inr rfl)) (pss_cons (ps_set (i := 7) nd rfl (Or.inl rfl) (pe_callC C__law_step (hr.mono (by omega)) (by rfl) (pa_cons (pv 0) (pa_cons (pv 1) (pa_cons (pv 4) pa_nil)))))
      (pss_cut (ps_if (PW.pt (pw_or (pt_cmpR (op_inB (K := K) rfl (hu65 hr)) (pv 6) (pv 5) (by with_unfolding_all rfl)) (pw_or1 (pt_cmpR (op_eqK (K := K) rfl (hu64 hr)) (pv 7) (pe_tup pa_nil) (nomark _))))) (pss_one (ps_for PassesOwn.never rfl (pi_seqK (K := K) rfl (pe_op (op_addK (K := K) rfl) (pe_callC C__law_near (hr.mono (by omega)) (by rfl) (pa_cons (pv 0) (pa_cons (pv 1) (pa_cons (pv 4) pa_nil)))) (pe_callC C__law_alone (hr.mono (by omega)) (by rfl) (pa_cons (pv 1) (pa_cons (pv 4) pa_nil))))) (pg_name (i := 8) nd rfl (by first | exact Or.inl rfl | exact Or.inr rfl)) (pss_one (ps_if (pt_not (pt_val (pe_callC C__law_right (hr.mono (by omega)) (by rfl) (pa_cons (pv 3) (pa_cons (pv 1) (pa_cons (pv 4) (pa_cons (pv 8) pa_nil))))))) (pss_one (ps_ret pe_bl)) pss_nil)))) pss_nil)
      (pss_cons (ps_if (pt_cmpR (op_eqK (K := K) rfl (hu64 hr)) (pv 7) (pe_tup pa_nil) (nomark _)) (pss_one (ps_ret pe_bl)) pss_nil)
      (pss_cons (ps_if (pt_not (pt_val (pe_callC C__law_right (hr.mono (by omega)) (by rfl) (pa_cons (pv 3) (pa_cons (pv 1) (pa_cons (pv 4) (pa_cons (pv 7) pa_nil))))))) (pss_one (ps_ret pe_bl)) pss_nil)
      (pss_one (ps_set (i := 4) nd rfl (Or.inl rfl) (pe_callC C__law_done (hr.mono (by omega)) (by rfl) (pa_cons (pv 1) (pa_cons (pv 4) (pa_cons (pv 7) pa_nil)))))))))))
      (pss_one (ps_ret pe_bl))))))), rfl, ?_⟩
    walk_at "q"
    refine q_ixRT hv eG rfl (fun v0 h0 => ?_)
    walk_at "q"
    refine q_ixRT hv eG rfl (fun v1 h1 => ?_)
    walk_at "q"
    refine q_ixRT hv eG rfl (fun v2 h2 => ?_)
    walk_at "q"
    refine q_netP eG h0 (okD_le ln.okP (by decide)) h1 (okD_le ln.okC (by decide)) h2 (okD_le ln.okR (by decide)) ln.good (fun G3 H3 m g3 hN => ?_)
    rw [ln.of, ← emn] at hN
    have s3 := s0.gro g3
    have hv3 := hvM.mono g3.g
    have hB3 := hB.mono g3.g
    walk_at "q"
    refine ⟨G3, v, M, rfl, s3.w, ok, hv3, fun G4 H4 x g4 r4 => ?_⟩
    have s4 := s3.gro g4
    have hB4 := hB3.mono g4.g
    walk_at "q"
    refine ⟨G4, b, _, xs, rfl, s4.w, s4.gb, s4.hb, hB4, by omega, fun r us r0 r1 hB5 => ?_⟩
    have s5 := s4.put (us2 := us)
    have w5 := s5.w
    generalize L2.upd H4 b (.lst us) = H5 at s5 w5 ⊢
    walk_at "q"
    rename_i pk hpk
    have s6 := s5.new (o := .lst [.int r, .int (n : Int)]) hpk
    have x6 := Ex.new (o := .lst [.int r, .int (n : Int)]) (w5.back hpk)
    have rk : Rp K (L2.upd G4 pk (.lst [.int r, .int (n : Int)])) (.ref pk) (.list [.int r, .int (n : Int)]) := .lst upd_same (.cons (.int _) (.cons (.int _) .nil))
    have e36 := g4.g.trans x6
    have r46 := r4.mono x6
    have hB6 := hB5.mono x6
    generalize L2.upd G4 pk (.lst [.int r, .int (n : Int)]) = G6 at s6 x6 rk e36 r46 hB6
    generalize L2.upd H5 pk (.lst [.int r, .int (n : Int)]) = H6 at s6 ⊢
    have hv6 := hv3.mono e36
    have hN6 := hN.mono e36
    have shk : Shp (.list [.int r, .int (n : Int)]) := shp_list (okD_le (n := 1) (okD_tup (by simp) fun d hd => by
      simp only [List.mem_cons, List.mem_nil_iff, or_false] at hd
      rcases hd with rfl | rfl
      · exact okD_int _ _
      · exact okD_int _ _) (by decide))
    have she : Shp (.tuple []) := by
      show okD 60 _ = true
      decide +kernel
    rw [show ((n : Int) + 1) = ((n + 1 : Nat) : Int) from rfl]
    refine q_rng1 (n + 1) (by omega) (fun i σ' H' => ∃ x z6 z7 z8 us G' W, σ' = [some (.ref b), some v, some (.int (n : Int)), some (.ref m), some x, some (.ref pk), z6, z7, z8] ∧ St b G H G' H' us ∧ Ex G6 G' ∧ BoxL K G' us ∧ Rp K G' x (W.d true) ∧ WdOk M W i ∧ (∀ k ∈ W.n, k ≤ i)) ⟨.ref x, none, none, none, us, G6, startM M, rfl, s6, Ex.refl _, hB6, r46, start_ok M, fun k hk => by rw [(List.mem_replicate.mp hk).2]; exact Nat.le_refl _⟩ ?_ ?_
    · clear s6 r46 hB6 s5 w5 hpk x6 r4 s4 s3 hB5 hB4 hB3
      rintro i σ' H' hi ⟨x, z6, z7, z8, us, G1, W, rfl, s1, e1, hB1, hx, wok, hnb⟩
      have w1 := s1.w
      walk_at "q"
      refine ⟨G1, b, v, x, us, M, W, i, rfl, w1, s1.gb, s1.hb, hB1, ok, hv6.mono e1, hx, wok, by omega, fun y us8 G8 H8 s8' hB8 hy => ?_⟩
      have s8 := s1.grob s8'.gr s8'.gb s8'.hb
      have w8 := s8.w
      have e18 := s8'.g
      clear s8'
      have hv8 := hv6.mono (e1.trans e18)
      have hN8 := hN6.mono (e1.trans e18)
      have rk8 := rk.mono (e1.trans e18)
      have hx8 := hx.mono e18
      obtain ⟨yd, hyd, shy, hyc⟩ : ∃ yd, Rp K G8 y yd ∧ Shp yd ∧ (yd = .tuple [] ∨ ∃ D ∈ possM M W, yd = D.d) := by
        rcases hy with ⟨_, hy⟩ | ⟨D, hD, hy⟩
        · exact ⟨_, hy, she, .inl rfl⟩
        · exact ⟨_, hy, okD_le (okD_deed D) (by decide), .inr ⟨D, hD, rfl⟩⟩
      clear hy
      walk_at "q"
      refine q_cut (M := fun σ' H' => ∃ z8 us G', σ' = [some (.ref b), some v, some (.int (n : Int)), some (.ref m), some x, some (.ref pk), some (.int (i : Int)), some y, z8] ∧ St b G H G' H' us ∧ Ex G8 G' ∧ BoxL K G' us) ?_ ?_
      · walk_at "q"
        refine q_inL (.int (i : Int)) rk8 w8 (shp_int _) shk ?_
        walk_at "q"
        refine q_ifb (fun ha => ?_) (fun ha => ?_)
        · walk_at "q"
          refine q_forL ?_
          walk_at "q"
          refine ⟨G8, b, v, x, us8, M, W, i, rfl, w8, s8.gb, s8.hb, hB8, ok, hv8, hx8, wok, by omega, fun k hk => by have := hnb k hk; omega, fun p9 ds9 us9 G9 H9 s9' hB9 r9 l9 fit9 => ?_⟩
          have s9 := s8.grob s9'.gr s9'.gb s9'.hb
          have e89 := s9'.g
          clear s9'
          walk_at "q"
          refine ⟨G9, v, x, M, W, i, rfl, s9.w, ok, hv8.mono e89, hx8.mono e89, wok, by omega, fun G10 H10 p10 L g10 lL r10 => ?_⟩
          have s10 := s9.gro g10
          have w10 := s10.w
          have e810 := e89.trans g10.g
          obtain ⟨a1, vs1, e1', hL1, hr1⟩ := rp_lst (r9.mono g10.g)
          cases e1'
          obtain ⟨a2, vs2, e2', hL2, hr2⟩ := rp_lst r10
          cases e2'
          walk_at "q"
          refine q_cat (w10 _ _ hL1) (w10 _ _ hL2) (by rw [hr1.len, hr2.len, List.length_map]; exact Nat.le_trans (show _ ≤ 2000 by omega) (by decide)) (fun p11 hp11 => ?_)
          have s11 := s10.up (Ex.new (o := .lst (vs1 ++ vs2)) hp11)
          have hL11 : L2.upd H10 p11 (.lst (vs1 ++ vs2)) p11 = some (.lst (vs1 ++ vs2)) := upd_same
          generalize L2.upd H10 p11 (.lst (vs1 ++ vs2)) = H11 at s11 hL11 ⊢
          have hrs := hr1.app hr2
          refine q_lst_for (xs := vs1 ++ vs2) (.inl (.inl hL11)) (fun j σ' H' => ∃ z8, σ' = [some (.ref b), some v, some (.int (n : Int)), some (.ref m), some x, some (.ref pk), some (.int (i : Int)), some y, z8] ∧ Ex H11 H') ⟨_, rfl, Ex.refl _⟩ ?_ ?_ ?_
          · rintro j σ' H' hj ⟨z8, rfl, e⟩
            exact .inl (.inl (e _ _ hL11))
          · rintro j t σ' H' ht ⟨z8, rfl, e⟩
            obtain ⟨d, hd, rx⟩ := hrs.at ht
            have fd' : Fit5 d := by
              rcases List.mem_append.mp (List.mem_of_getElem? hd) with h | h
              · exact fit9 d h
              · obtain ⟨D, _, rfl⟩ := List.mem_map.mp h
                exact fit5_deed D
            walk_at "q"
            refine ⟨G10, m, v, x, t, M, W, i, d, rfl, s11.w.trans e, hN8.mono e810, ok, nok, hv8.mono e810, hx8.mono e810, wok, by omega, rx, fd'.1.shp, fd'.1.2, fd'.2, fun H12 e12 => ?_⟩
            walk_at "q"
            exact ⟨_, rfl, e.trans e12⟩
          · rintro σ' H' ⟨z8, rfl, e⟩
            exact ⟨_, us9, G10, rfl, s11.up e, e810, hB9.mono g10.g⟩
        · walk_at "q"
          rename_i p9 hp9
          have s9n := s8.new (o := .tup []) hp9
          refine q_eqR (hyd.mono (Ex.new (w8.back hp9))) (.tup (.inl (.inl upd_same)) .nil) s9n.w shy she ?_
          have s8u := s8.up (Ex.new (o := .tup []) hp9)
          have w8u := s8u.w
          generalize L2.upd H8 p9 (.tup []) = H8u at s8u w8u ⊢
          clear s9n hp9
          walk_at "q"
          refine q_ifb (fun hb' => ?_) (fun hb' => ?_)
          · walk_at "q"
            refine q_forL ?_
            walk_at "q"
            refine ⟨G8, b, v, x, us8, M, W, i, rfl, w8u, s8u.gb, s8u.hb, hB8, ok, hv8, hx8, wok, by omega, fun k hk => by have := hnb k hk; omega, fun p9 ds9 us9 G9 H9 s9' hB9 r9 l9 fit9 => ?_⟩
            have s9 := s8u.grob s9'.gr s9'.gb s9'.hb
            have e89 := s9'.g
            clear s9'
            walk_at "q"
            refine ⟨G9, v, x, M, W, i, rfl, s9.w, ok, hv8.mono e89, hx8.mono e89, wok, by omega, fun G10 H10 p10 L g10 lL r10 => ?_⟩
            have s10 := s9.gro g10
            have w10 := s10.w
            have e810 := e89.trans g10.g
            obtain ⟨a1, vs1, e1', hL1, hr1⟩ := rp_lst (r9.mono g10.g)
            cases e1'
            obtain ⟨a2, vs2, e2', hL2, hr2⟩ := rp_lst r10
            cases e2'
            walk_at "q"
            refine q_cat (w10 _ _ hL1) (w10 _ _ hL2) (by rw [hr1.len, hr2.len, List.length_map]; exact Nat.le_trans (show _ ≤ 2000 by omega) (by decide)) (fun p11 hp11 => ?_)
            have s11 := s10.up (Ex.new (o := .lst (vs1 ++ vs2)) hp11)
            have hL11 : L2.upd H10 p11 (.lst (vs1 ++ vs2)) p11 = some (.lst (vs1 ++ vs2)) := upd_same
            generalize L2.upd H10 p11 (.lst (vs1 ++ vs2)) = H11 at s11 hL11 ⊢
            have hrs := hr1.app hr2
            refine q_lst_for (xs := vs1 ++ vs2) (.inl (.inl hL11)) (fun j σ' H' => ∃ z8, σ' = [some (.ref b), some v, some (.int (n : Int)), some (.ref m), some x, some (.ref pk), some (.int (i : Int)), some y, z8] ∧ Ex H11 H') ⟨_, rfl, Ex.refl _⟩ ?_ ?_ ?_
            · rintro j σ' H' hj ⟨z8, rfl, e⟩
              exact .inl (.inl (e _ _ hL11))
            · rintro j t σ' H' ht ⟨z8, rfl, e⟩
              obtain ⟨d, hd, rx⟩ := hrs.at ht
              have fd' : Fit5 d := by
                rcases List.mem_append.mp (List.mem_of_getElem? hd) with h | h
                · exact fit9 d h
                · obtain ⟨D, _, rfl⟩ := List.mem_map.mp h
                  exact fit5_deed D
              walk_at "q"
              refine ⟨G10, m, v, x, t, M, W, i, d, rfl, s11.w.trans e, hN8.mono e810, ok, nok, hv8.mono e810, hx8.mono e810, wok, by omega, rx, fd'.1.shp, fd'.1.2, fd'.2, fun H12 e12 => ?_⟩
              walk_at "q"
              exact ⟨_, rfl, e.trans e12⟩
            · rintro σ' H' ⟨z8, rfl, e⟩
              exact ⟨_, us9, G10, rfl, s11.up e, e810, hB9.mono g10.g⟩
          · walk_at "q"
            exact ⟨_, us8, G8, rfl, s8u, Ex.refl _, hB8⟩
      · clear s8 w8 hB8
        rintro σ' H' ⟨z8, us, G9, rfl, s9, e89, hB9⟩
        have w9 := s9.w
        walk_at "q"
        rename_i p9 hp9
        have s9n := s9.new (o := .tup []) hp9
        refine q_eqR ((hyd.mono e89).mono (Ex.new (w9.back hp9))) (.tup (.inl (.inl upd_same)) .nil) s9n.w shy she ?_
        have s10 := s9.up (Ex.new (o := .tup []) hp9)
        have w10 := s10.w
        generalize L2.upd H' p9 (.tup []) = H10 at s10 w10 ⊢
        clear s9n hp9
        walk_at "q"
        rcases hyc with rfl | ⟨D, hD, rfl⟩
        · refine q_ifTr (show PyData.eqv (.tuple []) (.tuple []) = true by decide +kernel) ?_
          walk_at "q"
          exact q _ _ _ s10 hB9
        · refine q_ifFa (deed_ne D) ?_
          walk_at "q"
          have f5 := fit5_deed D
          refine ⟨G9, m, v, x, y, M, W, i, D.d, rfl, w10, hN8.mono e89, ok, nok, hv8.mono e89, hx8.mono e89, wok, by omega, hyd.mono e89, f5.1.shp, f5.1.2, f5.2, fun H11 e11 => ?_⟩
          have s11 := s10.up e11
          walk_at "q"
          refine ⟨G9, v, x, y, M, W, i, D, rfl, s11.w, ok, hv8.mono e89, hx8.mono e89, wok, by omega, hyd.mono e89, poss_dv hD, fun G12 H12 p12 g12 r12 => ?_⟩
          exact ⟨.ref p12, _, _, _, us, G12, stepM M W D, rfl, s11.gro g12, e1.trans (e18.trans (e89.trans g12.g)), hB9.mono g12.g, r12, wok.step D, step_n hnb D⟩
    · rintro σ' H' ⟨x, z6, z7, z8, us, G1, W, rfl, s1, e1, hB1, hx, wok, hnb⟩
      walk_at "q"
      exact q _ _ _ s1 hB1
end
end Cw

set_option maxHeartbeats 4000000
namespace Cw
open PySem PySem.Spec PyProof.Rows L2
section
variable {P : Program} {w : World} {K : PySem.W.Frag} {mg : Str → Option Value} {base : Heap}
abbrev s_law : Stmt := topS 63
abbrev N_law : List Str := ["script", "box", "net", "far"]
theorem sc_law : FnScope N_law ["script"] (defScope s_law) := ⟨rfl, rfl, rfl, by decide +kernel, rfl, by decide +kernel, by decide +kernel⟩
def sp_law (K : PySem.W.Frag) : Sp := fun vs H Q _ => ∃ (s : Addr) (ns : List Int), vs = [.ref s] ∧ SqL K H s (ns.map V.int) ∧ ns.length ≤ 1000 ∧ ∀ H', Q (.bl true) H'
theorem c_law {f : Addr} {fd : FuncData} (F : FnP K "law" s_law f fd) (B : Blt mg) (C__law_box : Cal P w K mg base 1 "_law_box" ["script", "at"] (sp_box K)) (C__law_net : Cal P w K mg base 5 "_law_net" ["box"] (sp_lnet K)) (C__law_lively : Cal P w K mg base 3 "_law_lively" ["box"] (sp_lnet K))
    (C__law_draw : Cal P w K mg base 2 "_law_draw" ["box", "many"] (sp_draw K)) (C__law_walked : Cal P w K mg base 9 "_law_walked" ["box", "net", "turns"] (sp_walked K)) : FnOk P w K mg base CX0 10 f fd ["script"] (sp_law K) := by
  refine fnok_of F sc_law (fun vs H Q E h => ?_) (fun cdv A outer s H vs Q E hr h => ?_)
  · obtain ⟨_, _, rfl, _⟩ := h
    rfl
  · obtain ⟨sc, ns, rfl, hS, hl, q⟩ := h
    have nd := sc_law.nd
    refine ⟨_, [some _, none, none, none], ((pss_cons (ps_set (i := 1) nd rfl (Or.inl rfl) (pe_callC C__law_box (hr.mono (by omega)) (by rfl) (pa_cons (pv 0) (pa_cons pe_int pa_nil))))
      (pss_cons (ps_set (i := 2) nd rfl (Or.inl rfl) (pe_callC C__law_net (hr.mono (by omega)) (by rfl) (pa_cons (pv 1) pa_nil)))
      (pss_cons (ps_set (i := 3) nd rfl (Or.inl rfl) (pe_callC C__law_box (hr.mono (by omega)) (by rfl) (pa_cons (pv 0) (pa_cons pe_int pa_nil))))
      (pss_one (ps_ret (pe_and (pe_callC C__law_walked (hr.mono (by omega)) (by rfl) (pa_cons (pv 1) (pa_cons (pv 2) (pa_cons pe_int pa_nil)))) (pe_one (pe_callC C__law_walked (hr.mono (by omega)) (by rfl) (pa_cons (pv 3) (pa_cons (pe_callC C__law_lively (hr.mono (by omega)) (by rfl) (pa_cons (pv 3) pa_nil)) (pa_cons (pe_op (op_addK (K := K) rfl) pe_int (pe_callC C__law_draw (hr.mono (by omega)) (by rfl) (pa_cons (pv 3) (pa_cons pe_int pa_nil)))) pa_nil)))))))))))), rfl, ?_⟩
    walk_at "q"
    refine ⟨sc, ns, 0, rfl, hS, hl, fun c b hc hb => ?_⟩
    have hS1 := Ex.sl (Ex.new (o := .lst (ns.map V.int)) hc) hS
    have bx : BoxL K (L2.upd H c (.lst (ns.map V.int))) [.int 0, .int 0, .int 0, .int 0, .int 0, .ref c] := ⟨0, 0, 0, 0, 0, c, ns, rfl, .inl (.inl upd_same), by decide⟩
    generalize L2.upd H c (.lst (ns.map V.int)) = G1 at hb hS1 bx ⊢
    have e1 := Ex.new (o := .lst [.int 0, .int 0, .int 0, .int 0, .int 0, .ref c]) hb
    have hb1 : L2.upd G1 b (.lst [.int 0, .int 0, .int 0, .int 0, .int 0, .ref c]) b = _ := upd_same
    generalize L2.upd G1 b (.lst [.int 0, .int 0, .int 0, .int 0, .int 0, .ref c]) = H1 at e1 hb1 ⊢
    walk_at "q"
    refine ⟨G1, b, _, rfl, e1, hb, hb1, bx, fun u ps cs rs us G2 H2 g2 gb2 b2 hB2 ru ln => ?_⟩
    have w2 := g2.w
    have hS2 := Ex.sl g2.g hS1
    walk_at "q"
    refine ⟨sc, ns, 1, rfl, Ex.sl w2 hS2, hl, fun c2 b3 hc2 hb3 => ?_⟩
    have g9 := Gro.new (o := .lst (ns.map V.int)) w2 hc2
    have gb9 := g9.w.back hb3
    have bx9 : BoxL K (L2.upd G2 c2 (.lst (ns.map V.int))) [.int 0, .int 0, .int 1, .int 0, .int 1, .ref c2] := ⟨0, 0, 1, 0, 1, c2, ns, rfl, .inl (.inl upd_same), by decide⟩
    have w9 : Ex _ (L2.upd (L2.upd H2 c2 (.lst (ns.map V.int))) b3 (.lst [.int 0, .int 0, .int 1, .int 0, .int 1, .ref c2])) := g9.w.trans (Ex.new hb3)
    have hb9 : L2.upd (L2.upd H2 c2 (.lst (ns.map V.int))) b3 (.lst [.int 0, .int 0, .int 1, .int 0, .int 1, .ref c2]) b3 = _ := upd_same
    have nbc : b ≠ c2 := ne_of_none b2 hc2
    have b9 : L2.upd (L2.upd H2 c2 (.lst (ns.map V.int))) b3 (.lst [.int 0, .int 0, .int 1, .int 0, .int 1, .ref c2]) b = some (.lst us) := upd_old (upd_old b2 hc2) hb3
    have nbb : b3 ≠ b := Ne.symm (ne_of_none (upd_old b2 hc2) hb3)
    have gb29 : L2.upd G2 c2 (.lst (ns.map V.int)) b = none := by rw [upd_ne nbc]; exact gb2
    have ru9 := ru.mono g9.g
    have hB9 := hB2.mono g9.g
    generalize L2.upd (L2.upd H2 c2 (.lst (ns.map V.int))) b3 (.lst [.int 0, .int 0, .int 1, .int 0, .int 1, .ref c2]) = H9 at w9 hb9 b9 ⊢
    generalize L2.upd G2 c2 (.lst (ns.map V.int)) = G9 at w9 gb9 bx9 gb29 ru9 hB9
    clear g9
    walk_at "q"
    refine ⟨G9, b, u, us, ps, cs, rs, 6, rfl, w9, gb29, b9, hB9, ru9, ln, by decide, fun us3 G10 H10 s10 hB10 => ?_⟩
    have hb10 : H10 b3 = _ := s10.gr.k b3 _ (fun z => nbb (by cases z; rfl)) hb9
    have gb10 : G10 b3 = none := s10.gr.n b3 (by rw [hb9]; exact fun z => nomatch z) gb9
    have bx10 := bx9.mono s10.g
    have w10 := s10.w
    clear s10
    walk_at "q"
    refine ⟨G10, b3, _, rfl, w10, gb10, hb10, bx10, fun u2 ps2 cs2 rs2 us4 G11 H11 g11 gb11 b11 hB11 ru11 ln11 => ?_⟩
    walk_at "q"
    refine ⟨G11, b3, 15, us4, rfl, g11.w, gb11, b11, hB11, by decide, fun r us5 r0 r1 hB12 => ?_⟩
    obtain ⟨r, rfl⟩ := Int.eq_ofNat_of_zero_le r0
    obtain ⟨n, en, hn⟩ : ∃ n : Nat, 6 + (r : Int) = (n : Int) ∧ n ≤ 50 := ⟨6 + r, by omega, by omega⟩
    have w12 : Ex G11 (L2.upd H11 b3 (.lst us5)) := Ex.mut g11.w gb11
    walk_at "q"
    rw [en]
    refine ⟨G11, b3, u2, us5, ps2, cs2, rs2, n, rfl, w12, gb11, upd_same, hB12, ru11, ln11, hn, fun us6 G13 H13 s13 hB13 => ?_⟩
    exact q _
end
end Cw

set_option maxHeartbeats 0
namespace Cw
open PySem PySem.Spec PyProof.Rows L2
theorem initS_BadValue : InitS (clsInit (topS 2) 0) "BadValue.__init__" "at" := ⟨⟨_, _, _, _, rfl⟩, rfl, rfl, rfl, fun _ _ _ => rfl, fun _ _ _ => rfl, fun _ _ => rfl, fun _ _ _ _ _ => ⟨rfl, rfl⟩, fun _ _ _ _ _ _ _ _ => rfl, by decide⟩
def di_BadValue : He.DefD := ⟨("BadValue", some "__init__"), "__init__", "BadValue.__init__", defArgs (clsInit (topS 2) 0), defBody (clsInit (topS 2) 0), defScope (clsInit (topS 2) 0), [], []⟩
theorem initS_BadStep : InitS (clsInit (topS 3) 0) "BadStep.__init__" "at" := ⟨⟨_, _, _, _, rfl⟩, rfl, rfl, rfl, fun _ _ _ => rfl, fun _ _ _ => rfl, fun _ _ => rfl, fun _ _ _ _ _ => ⟨rfl, rfl⟩, fun _ _ _ _ _ _ _ _ => rfl, by decide⟩
def di_BadStep : He.DefD := ⟨("BadStep", some "__init__"), "__init__", "BadStep.__init__", defArgs (clsInit (topS 3) 0), defBody (clsInit (topS 3) 0), defScope (clsInit (topS 3) 0), [], []⟩
def dm_Net___init__ : He.DefD := ⟨("Net", some "__init__"), "__init__", "Net.__init__", defArgs (clsInit (topS 20) 0), defBody (clsInit (topS 20) 0), defScope (clsInit (topS 20) 0), [], []⟩
def dm_Net___eq__ : He.DefD := ⟨("Net", some "__eq__"), "__eq__", "Net.__eq__", defArgs (clsInit (topS 20) 1), defBody (clsInit (topS 20) 1), defScope (clsInit (topS 20) 1), [], []⟩
def d_is_number : He.DefD := ⟨("is_number", none), "is_number", "is_number", defArgs (topS 5), defBody (topS 5), defScope (topS 5), [], []⟩
def d_is_below : He.DefD := ⟨("is_below", none), "is_below", "is_below", defArgs (topS 6), defBody (topS 6), defScope (topS 6), [], []⟩
def d_is_sequence : He.DefD := ⟨("is_sequence", none), "is_sequence", "is_sequence", defArgs (topS 7), defBody (topS 7), defScope (topS 7), [], []⟩
def d_is_row : He.DefD := ⟨("is_row", none), "is_row", "is_row", defArgs (topS 8), defBody (topS 8), defScope (topS 8), [], []⟩
def d_is_name : He.DefD := ⟨("is_name", none), "is_name", "is_name", defArgs (topS 21), defBody (topS 21), defScope (topS 21), [], []⟩
def d_are_unlike : He.DefD := ⟨("are_unlike", none), "are_unlike", "are_unlike", defArgs (topS 22), defBody (topS 22), defScope (topS 22), [], []⟩
def d_is_process : He.DefD := ⟨("is_process", none), "is_process", "is_process", defArgs (topS 23), defBody (topS 23), defScope (topS 23), [], []⟩
def d_are_processes : He.DefD := ⟨("are_processes", none), "are_processes", "are_processes", defArgs (topS 24), defBody (topS 24), defScope (topS 24), [], []⟩
def d_is_channel : He.DefD := ⟨("is_channel", none), "is_channel", "is_channel", defArgs (topS 25), defBody (topS 25), defScope (topS 25), [], []⟩
def d_are_channels : He.DefD := ⟨("are_channels", none), "are_channels", "are_channels", defArgs (topS 26), defBody (topS 26), defScope (topS 26), [], []⟩
def d_is_act : He.DefD := ⟨("is_act", none), "is_act", "is_act", defArgs (topS 27), defBody (topS 27), defScope (topS 27), [], []⟩
def d_is_rule : He.DefD := ⟨("is_rule", none), "is_rule", "is_rule", defArgs (topS 28), defBody (topS 28), defScope (topS 28), [], []⟩
def d_are_rules : He.DefD := ⟨("are_rules", none), "are_rules", "are_rules", defArgs (topS 29), defBody (topS 29), defScope (topS 29), [], []⟩
def d_is_deed : He.DefD := ⟨("is_deed", none), "is_deed", "is_deed", defArgs (topS 31), defBody (topS 31), defScope (topS 31), [], []⟩
def d_act_word : He.DefD := ⟨("act_word", none), "act_word", "act_word", defArgs (topS 32), defBody (topS 32), defScope (topS 32), [], []⟩
def d_rule_deeds : He.DefD := ⟨("rule_deeds", none), "rule_deeds", "rule_deeds", defArgs (topS 33), defBody (topS 33), defScope (topS 33), [], []⟩
def d_losses : He.DefD := ⟨("losses", none), "losses", "losses", defArgs (topS 34), defBody (topS 34), defScope (topS 34), [], []⟩
def d_at_hand : He.DefD := ⟨("at_hand", none), "at_hand", "at_hand", defArgs (topS 35), defBody (topS 35), defScope (topS 35), [], []⟩
def d_done : He.DefD := ⟨("done", none), "done", "done", defArgs (topS 36), defBody (topS 36), defScope (topS 36), [], []⟩
def d_can_be_done : He.DefD := ⟨("can_be_done", none), "can_be_done", "can_be_done", defArgs (topS 37), defBody (topS 37), defScope (topS 37), [], []⟩
def d_present_rows : He.DefD := ⟨("present_rows", none), "present_rows", "present_rows", defArgs (topS 38), defBody (topS 38), defScope (topS 38), [], []⟩
def d_without : He.DefD := ⟨("without", none), "without", "without", defArgs (topS 39), defBody (topS 39), defScope (topS 39), [], []⟩
def d_changed : He.DefD := ⟨("changed", none), "changed", "changed", defArgs (topS 40), defBody (topS 40), defScope (topS 40), [], []⟩
def d__law_mix : He.DefD := ⟨("_law_mix", none), "_law_mix", "_law_mix", defArgs (topS 42), defBody (topS 42), defScope (topS 42), [], []⟩
def d__law_box : He.DefD := ⟨("_law_box", none), "_law_box", "_law_box", defArgs (topS 43), defBody (topS 43), defScope (topS 43), [], []⟩
def d__law_draw : He.DefD := ⟨("_law_draw", none), "_law_draw", "_law_draw", defArgs (topS 44), defBody (topS 44), defScope (topS 44), [], []⟩
def d__law_alike : He.DefD := ⟨("_law_alike", none), "_law_alike", "_law_alike", defArgs (topS 45), defBody (topS 45), defScope (topS 45), [], []⟩
def d__law_names : He.DefD := ⟨("_law_names", none), "_law_names", "_law_names", defArgs (topS 46), defBody (topS 46), defScope (topS 46), [], []⟩
def d__law_channels : He.DefD := ⟨("_law_channels", none), "_law_channels", "_law_channels", defArgs (topS 47), defBody (topS 47), defScope (topS 47), [], []⟩
def d__law_rule : He.DefD := ⟨("_law_rule", none), "_law_rule", "_law_rule", defArgs (topS 48), defBody (topS 48), defScope (topS 48), [], []⟩
def d__law_net : He.DefD := ⟨("_law_net", none), "_law_net", "_law_net", defArgs (topS 49), defBody (topS 49), defScope (topS 49), [], []⟩
def d__law_start : He.DefD := ⟨("_law_start", none), "_law_start", "_law_start", defArgs (topS 50), defBody (topS 50), defScope (topS 50), [], []⟩
def d__law_takes : He.DefD := ⟨("_law_takes", none), "_law_takes", "_law_takes", defArgs (topS 51), defBody (topS 51), defScope (topS 51), [], []⟩
def d__law_possible : He.DefD := ⟨("_law_possible", none), "_law_possible", "_law_possible", defArgs (topS 52), defBody (topS 52), defScope (topS 52), [], []⟩
def d__law_with : He.DefD := ⟨("_law_with", none), "_law_with", "_law_with", defArgs (topS 53), defBody (topS 53), defScope (topS 53), [], []⟩
def d__law_done : He.DefD := ⟨("_law_done", none), "_law_done", "_law_done", defArgs (topS 54), defBody (topS 54), defScope (topS 54), [], []⟩
def d__law_step : He.DefD := ⟨("_law_step", none), "_law_step", "_law_step", defArgs (topS 55), defBody (topS 55), defScope (topS 55), [], []⟩
def d__law_lively : He.DefD := ⟨("_law_lively", none), "_law_lively", "_law_lively", defArgs (topS 56), defBody (topS 56), defScope (topS 56), [], []⟩
def d__law_asked : He.DefD := ⟨("_law_asked", none), "_law_asked", "_law_asked", defArgs (topS 57), defBody (topS 57), defScope (topS 57), [], []⟩
def d__law_due : He.DefD := ⟨("_law_due", none), "_law_due", "_law_due", defArgs (topS 58), defBody (topS 58), defScope (topS 58), [], []⟩
def d__law_near : He.DefD := ⟨("_law_near", none), "_law_near", "_law_near", defArgs (topS 59), defBody (topS 59), defScope (topS 59), [], []⟩
def d__law_alone : He.DefD := ⟨("_law_alone", none), "_law_alone", "_law_alone", defArgs (topS 60), defBody (topS 60), defScope (topS 60), [], []⟩
def d__law_right : He.DefD := ⟨("_law_right", none), "_law_right", "_law_right", defArgs (topS 61), defBody (topS 61), defScope (topS 61), [], []⟩
def d__law_walked : He.DefD := ⟨("_law_walked", none), "_law_walked", "_law_walked", defArgs (topS 62), defBody (topS 62), defScope (topS 62), [], []⟩
def d_law : He.DefD := ⟨("law", none), "law", "law", defArgs (topS 63), defBody (topS 63), defScope (topS 63), [], []⟩
def fnL_0 : List He.DefD := [d_is_number, d_is_below, d_is_sequence, d_is_row, d_is_name, d_are_unlike, d_is_process, d_are_processes, d_is_channel, d_are_channels, d_is_act, d_is_rule, d_are_rules, d_is_deed, d_act_word, d_rule_deeds, d_losses, d_at_hand, d_done, d_can_be_done, d_present_rows, d_without, d_changed, d__law_mix, d__law_box]
def fnL_1 : List He.DefD := [d__law_draw, d__law_alike, d__law_names, d__law_channels, d__law_rule, d__law_net, d__law_start, d__law_takes, d__law_possible, d__law_with, d__law_done, d__law_step, d__law_lively, d__law_asked, d__law_due, d__law_near, d__law_alone, d__law_right, d__law_walked, d_law, di_BadValue, di_BadStep, dm_Net___init__, dm_Net___eq__]
def fnL : List He.DefD := fnL_0 ++ fnL_1
def gloL_0 : List Str := ["is_number", "is_below", "is_sequence", "is_row", "is_name", "are_unlike", "is_process", "are_processes", "is_channel", "are_channels", "is_act", "is_rule", "are_rules", "is_deed", "act_word", "rule_deeds", "losses", "at_hand", "done", "can_be_done", "present_rows", "without", "changed", "_law_mix", "_law_box"]
def gloL_1 : List Str := ["_law_draw", "_law_alike", "_law_names", "_law_channels", "_law_rule", "_law_net", "_law_start", "_law_takes", "_law_possible", "_law_with", "_law_done", "_law_step", "_law_lively", "_law_asked", "_law_due", "_law_near", "_law_alone", "_law_right", "_law_walked", "law", "BadValue", "BadStep", "CutError", "Net", "ORDERED"]
def gloL_2 : List Str := ["LOSSY", "KINDS"]
def gloL : List Str := gloL_0 ++ gloL_1 ++ gloL_2
def faX_0 : List He.Fa := [.int "MOST_PROCESSES" 5, .int "MOST_STATES" 8, .int "MOST_CHANNELS" 8, .int "MOST_RULES" 40, .int "MANY_TOKENS" 10, .int "LONGEST_NAME" 6, .str "LETTERS" "abcdefghijklmnopqrstuvwxyz", .cls "Net", .mkr "Net", .noat "Net" "processes", .noat "Net" "channels", .noat "Net" "rules"]
def faX : List He.Fa := faX_0
def faL : List He.Fa := gloL.map He.Fa.glo ++ (bltNames.map He.Fa.free ++ faX)
def xsL : List Xf := [.xc "BadValue" "at", .xc "BadStep" "at", .exm "BadStep" "BadStep" true, .tup "ORDERED" ["order", "order lossy"], .tup "LOSSY" ["order lossy", "loose lossy"], .tup "KINDS" ["order", "loose", "order lossy", "loose lossy"]]
abbrev RL : PySem.W.OpenRow := PySem.W.OpenLaw.row PySem.Challenge.rw_cutweave_k05_deeds_done
abbrev hkL : PySem.W.Hook := hookX 5 faL fnL xsL
def obL (s : PySem.W.SharedT) : AlX := obsXG 5 faL fnL xsL (HandSHeadRun.getT s)
theorem obL_eq (s : PySem.W.SharedT) : obL s = hkL.obs s.abs := obsXG_eq (HandSHeadRun.getT_eq s)
def looseL_0 : List Str := ["__name__", "CutError", "BadValue", "BadStep", "Net", "MOST_PROCESSES", "MOST_STATES", "MOST_CHANNELS", "MOST_RULES", "MANY_TOKENS", "LONGEST_NAME", "LETTERS", "ORDERED", "LOSSY", "KINDS", "is_number", "is_below", "is_sequence", "is_row", "is_name", "are_unlike", "is_process", "are_processes", "is_channel", "are_channels", "is_act", "is_rule", "are_rules", "is_deed", "act_word"]
def looseL_1 : List Str := ["rule_deeds", "losses", "at_hand", "done", "can_be_done", "present_rows", "without", "changed", "_law_mix", "_law_box", "_law_draw", "_law_alike", "_law_names", "_law_channels", "_law_rule", "_law_net", "_law_start", "_law_takes", "_law_possible", "_law_with", "_law_done", "_law_step", "_law_lively", "_law_asked", "_law_due", "_law_near", "_law_alone", "_law_right", "_law_walked"]
def looseL : List Str := looseL_0 ++ looseL_1
theorem facts {P : Program} {w : World} {K : PySem.W.Frag} {h : Heap} {mg : Str → Option Value} {f : Addr} (X : K.In h) (G : h.Ns mainGlobals mg) (hfa : mg ("law" : Str) = some (.ref f)) (c : SaysX faL fnL xsL K) :
    ∃ fd : FuncData, (∀ (s : Shared) (v : Value), BindsTo s fd ⟨[v], []⟩ [("script", v)]) ∧ ∀ base : Heap, K.In base → base.Ns mainGlobals mg → FnOk P w K mg base CX0 10 f fd ["script"] (sp_law K) := by
  have g : ∀ x, x ∈ gloL → mg x = some (.ref (He.ga K x)) := fun x hx => He.glo_ok X G (c.f (x := .glo x) (List.mem_append_left _ (List.mem_map_of_mem hx)))
  have B : Blt mg := blt_of fun x hx => He.free_ok X G (c.f (x := .free x) (List.mem_append_right _ (List.mem_append_left _ (List.mem_map_of_mem hx))))
  have fx : ∀ x, x ∈ faX → x.ok K = true := fun x hx => c.f (List.mem_append_right _ (List.mem_append_right _ hx))
  obtain ⟨fd_is_number, F_is_number⟩ := c.d.def_ 0 (d := d_is_number) rfl
  obtain ⟨fd_is_below, F_is_below⟩ := c.d.def_ 1 (d := d_is_below) rfl
  obtain ⟨fd_is_sequence, F_is_sequence⟩ := c.d.def_ 2 (d := d_is_sequence) rfl
  obtain ⟨fd_is_row, F_is_row⟩ := c.d.def_ 3 (d := d_is_row) rfl
  obtain ⟨fd_is_name, F_is_name⟩ := c.d.def_ 4 (d := d_is_name) rfl
  obtain ⟨fd_are_unlike, F_are_unlike⟩ := c.d.def_ 5 (d := d_are_unlike) rfl
  obtain ⟨fd_is_process, F_is_process⟩ := c.d.def_ 6 (d := d_is_process) rfl
  obtain ⟨fd_are_processes, F_are_processes⟩ := c.d.def_ 7 (d := d_are_processes) rfl
  obtain ⟨fd_is_channel, F_is_channel⟩ := c.d.def_ 8 (d := d_is_channel) rfl
  obtain ⟨fd_are_channels, F_are_channels⟩ := c.d.def_ 9 (d := d_are_channels) rfl
  obtain ⟨fd_is_act, F_is_act⟩ := c.d.def_ 10 (d := d_is_act) rfl
  obtain ⟨fd_is_rule, F_is_rule⟩ := c.d.def_ 11 (d := d_is_rule) rfl
  obtain ⟨fd_are_rules, F_are_rules⟩ := c.d.def_ 12 (d := d_are_rules) rfl
  obtain ⟨fd_is_deed, F_is_deed⟩ := c.d.def_ 13 (d := d_is_deed) rfl
  obtain ⟨fd_act_word, F_act_word⟩ := c.d.def_ 14 (d := d_act_word) rfl
  obtain ⟨fd_rule_deeds, F_rule_deeds⟩ := c.d.def_ 15 (d := d_rule_deeds) rfl
  obtain ⟨fd_losses, F_losses⟩ := c.d.def_ 16 (d := d_losses) rfl
  obtain ⟨fd_at_hand, F_at_hand⟩ := c.d.def_ 17 (d := d_at_hand) rfl
  obtain ⟨fd_done, F_done⟩ := c.d.def_ 18 (d := d_done) rfl
  obtain ⟨fd_can_be_done, F_can_be_done⟩ := c.d.def_ 19 (d := d_can_be_done) rfl
  obtain ⟨fd_present_rows, F_present_rows⟩ := c.d.def_ 20 (d := d_present_rows) rfl
  obtain ⟨fd_without, F_without⟩ := c.d.def_ 21 (d := d_without) rfl
  obtain ⟨fd_changed, F_changed⟩ := c.d.def_ 22 (d := d_changed) rfl
  obtain ⟨fd__law_mix, F__law_mix⟩ := c.d.def_ 23 (d := d__law_mix) rfl
  obtain ⟨fd__law_box, F__law_box⟩ := c.d.def_ 24 (d := d__law_box) rfl
  obtain ⟨fd__law_draw, F__law_draw⟩ := c.d.def_ 25 (d := d__law_draw) rfl
  obtain ⟨fd__law_alike, F__law_alike⟩ := c.d.def_ 26 (d := d__law_alike) rfl
  obtain ⟨fd__law_names, F__law_names⟩ := c.d.def_ 27 (d := d__law_names) rfl
  obtain ⟨fd__law_channels, F__law_channels⟩ := c.d.def_ 28 (d := d__law_channels) rfl
  obtain ⟨fd__law_rule, F__law_rule⟩ := c.d.def_ 29 (d := d__law_rule) rfl
  obtain ⟨fd__law_net, F__law_net⟩ := c.d.def_ 30 (d := d__law_net) rfl
  obtain ⟨fd__law_start, F__law_start⟩ := c.d.def_ 31 (d := d__law_start) rfl
  obtain ⟨fd__law_takes, F__law_takes⟩ := c.d.def_ 32 (d := d__law_takes) rfl
  obtain ⟨fd__law_possible, F__law_possible⟩ := c.d.def_ 33 (d := d__law_possible) rfl
  obtain ⟨fd__law_with, F__law_with⟩ := c.d.def_ 34 (d := d__law_with) rfl
  obtain ⟨fd__law_done, F__law_done⟩ := c.d.def_ 35 (d := d__law_done) rfl
  obtain ⟨fd__law_step, F__law_step⟩ := c.d.def_ 36 (d := d__law_step) rfl
  obtain ⟨fd__law_lively, F__law_lively⟩ := c.d.def_ 37 (d := d__law_lively) rfl
  obtain ⟨fd__law_asked, F__law_asked⟩ := c.d.def_ 38 (d := d__law_asked) rfl
  obtain ⟨fd__law_due, F__law_due⟩ := c.d.def_ 39 (d := d__law_due) rfl
  obtain ⟨fd__law_near, F__law_near⟩ := c.d.def_ 40 (d := d__law_near) rfl
  obtain ⟨fd__law_alone, F__law_alone⟩ := c.d.def_ 41 (d := d__law_alone) rfl
  obtain ⟨fd__law_right, F__law_right⟩ := c.d.def_ 42 (d := d__law_right) rfl
  obtain ⟨fd__law_walked, F__law_walked⟩ := c.d.def_ 43 (d := d__law_walked) rfl
  obtain ⟨fd_law, F_law⟩ := c.d.def_ 44 (d := d_law) rfl
  obtain ⟨fi_BadValue, Fi_BadValue⟩ := c.d.def_ 45 (d := di_BadValue) rfl
  have T_BadValue : Xn K mg "BadValue" "at" (He.ga K "BadValue") := ⟨g _ (by decide), He.ma K (He.ga K "BadValue") "__init__", _, _, fi_BadValue, xcB_ok (c.x (x := .xc "BadValue" "at") (by simp [xsL])), initS_BadValue, Fi_BadValue⟩
  obtain ⟨fi_BadStep, Fi_BadStep⟩ := c.d.def_ 46 (d := di_BadStep) rfl
  have T_BadStep : Xn K mg "BadStep" "at" (He.ga K "BadStep") := ⟨g _ (by decide), He.ma K (He.ga K "BadStep") "__init__", _, _, fi_BadStep, xcB_ok (c.x (x := .xc "BadStep" "at") (by simp [xsL])), initS_BadStep, Fi_BadStep⟩
  obtain ⟨fm_Net___init__, F_Net___init__⟩ := c.d.def_ 47 (d := dm_Net___init__) rfl
  obtain ⟨fm_Net___eq__, F_Net___eq__⟩ := c.d.def_ 48 (d := dm_Net___eq__) rfl
  have Mk_Net : L2.Mk K (He.ga K "Net") (He.ma K (He.ga K "Net") "__init__") := He.mkr_ok (fx (.mkr "Net") (by simp [faX, faX_0]))
  have nt : NtC K mg (He.ga K "Net") := ⟨g _ (by decide), He.cls_ok (fx (.cls "Net") (by simp [faX, faX_0])), He.noat_ok (fx (.noat "Net" "processes") (by simp [faX, faX_0])), He.noat_ok (fx (.noat "Net" "channels") (by simp [faX, faX_0])), He.noat_ok (fx (.noat "Net" "rules") (by simp [faX, faX_0]))⟩
  have exm_BadStep_BadStep := of_decide_eq_true (c.x (x := .exm "BadStep" "BadStep" true) (by simp [xsL]))
  have cs : Cst K mg := { MOST_PROCESSES := He.int_ok X G (fx (.int "MOST_PROCESSES" 5) (by simp [faX, faX_0])), MOST_STATES := He.int_ok X G (fx (.int "MOST_STATES" 8) (by simp [faX, faX_0])), MOST_CHANNELS := He.int_ok X G (fx (.int "MOST_CHANNELS" 8) (by simp [faX, faX_0])), MOST_RULES := He.int_ok X G (fx (.int "MOST_RULES" 40) (by simp [faX, faX_0])), MANY_TOKENS := He.int_ok X G (fx (.int "MANY_TOKENS" 10) (by simp [faX, faX_0])), LONGEST_NAME := He.int_ok X G (fx (.int "LONGEST_NAME" 6) (by simp [faX, faX_0])), LETTERS := He.str_ok X G (fx (.str "LETTERS" "abcdefghijklmnopqrstuvwxyz") (by simp [faX, faX_0])), ORDERED_a := He.ga K "ORDERED", ORDERED := g _ (by decide), ORDERED_s := fun H => He.tupB_ok (c.x (x := .tup "ORDERED" ["order", "order lossy"]) (by simp [xsL])) H, LOSSY_a := He.ga K "LOSSY", LOSSY := g _ (by decide), LOSSY_s := fun H => He.tupB_ok (c.x (x := .tup "LOSSY" ["order lossy", "loose lossy"]) (by simp [xsL])) H, KINDS_a := He.ga K "KINDS", KINDS := g _ (by decide), KINDS_s := fun H => He.tupB_ok (c.x (x := .tup "KINDS" ["order", "loose", "order lossy", "loose lossy"]) (by simp [xsL])) H }
  have e := hfa.symm.trans (g "law" (by decide))
  cases e
  have b := FunD.bindsA (ps := ["script"]) F_law fun _ _ _ _ _ _ us hl => match us, hl with | [_], _ => rfl
  refine ⟨fd_law, fun s v => b s [v] rfl, fun base _ _ => ?_⟩
  have C_is_number := c_is_number (P := P) (w := w) (base := base) F_is_number (g "is_number" (by decide)) B
  have C_is_below := c_is_below (P := P) (w := w) (base := base) F_is_below (g "is_below" (by decide)) C_is_number
  have C_is_sequence := c_is_sequence (P := P) (w := w) (base := base) F_is_sequence (g "is_sequence" (by decide)) B
  have C_is_row := c_is_row (P := P) (w := w) (base := base) F_is_row (g "is_row" (by decide)) B C_is_sequence
  have C_is_name := c_is_name (P := P) (w := w) (base := base) F_is_name (g "is_name" (by decide)) B cs
  have C_are_unlike := c_are_unlike (P := P) (w := w) (base := base) F_are_unlike (g "are_unlike" (by decide)) B
  have C_is_process := c_is_process (P := P) (w := w) (base := base) F_is_process (g "is_process" (by decide)) B cs C_is_row C_is_name C_is_below
  have C_are_processes := c_are_processes (P := P) (w := w) (base := base) F_are_processes (g "are_processes" (by decide)) B cs C_is_sequence C_is_process C_are_unlike
  have C_is_channel := c_is_channel (P := P) (w := w) (base := base) F_is_channel (g "is_channel" (by decide)) B cs C_is_row C_is_name C_is_below
  have C_are_channels := c_are_channels (P := P) (w := w) (base := base) F_are_channels (g "are_channels" (by decide)) B cs C_is_sequence C_is_channel C_are_unlike
  have C_is_act := c_is_act (P := P) (w := w) (base := base) F_is_act (g "is_act" (by decide)) B cs C_is_row C_is_below
  have C_is_rule := c_is_rule (P := P) (w := w) (base := base) F_is_rule (g "is_rule" (by decide)) B C_is_row C_is_below C_is_act
  have C_are_rules := c_are_rules (P := P) (w := w) (base := base) F_are_rules (g "are_rules" (by decide)) B cs C_is_sequence C_is_rule
  have M_Net := c_Net (P := P) (w := w) (base := base) F_Net___init__ Mk_Net nt B T_BadValue C_are_processes C_are_channels C_are_rules
  have C_act_word := c_act_word (P := P) (w := w) (base := base) F_act_word (g "act_word" (by decide)) B nt C_is_below
  have C_is_deed := c_is_deed (P := P) (w := w) (base := base) F_is_deed (g "is_deed" (by decide)) B cs nt C_is_row C_is_below C_is_number C_act_word
  have C_changed := c_changed (P := P) (w := w) (base := base) F_changed (g "changed" (by decide)) B
  have C_without := c_without (P := P) (w := w) (base := base) F_without (g "without" (by decide)) B C_changed
  have C_at_hand := c_at_hand (P := P) (w := w) (base := base) F_at_hand (g "at_hand" (by decide)) B cs nt
  have C_present_rows := c_present_rows (P := P) (w := w) (base := base) F_present_rows (g "present_rows" (by decide)) B
  have C_losses := c_losses (P := P) (w := w) (base := base) F_losses (g "losses" (by decide)) B cs nt C_at_hand
  have C_rule_deeds := c_rule_deeds (P := P) (w := w) (base := base) F_rule_deeds (g "rule_deeds" (by decide)) B nt C_at_hand
  have C_can_be_done := c_can (P := P) (w := w) (base := base) F_can_be_done (g "can_be_done" (by decide)) B C_is_deed C_rule_deeds C_losses
  have ok_done := fn_done (P := P) (w := w) (base := base) F_done B nt T_BadStep C_can_be_done C_present_rows C_without C_changed
  have C_done := c_done (P := P) (w := w) (base := base) F_done (g "done" (by decide)) ok_done
  have CK_done_deed_world_net := ck_done (P := P) (w := w) (base := base) F_done (g "done" (by decide)) ok_done
  have C__law_mix := c_mix (P := P) (w := w) (base := base) F__law_mix (g "_law_mix" (by decide)) B
  have C__law_draw := c_draw (P := P) (w := w) (base := base) F__law_draw (g "_law_draw" (by decide)) B C__law_mix
  have C__law_alike := c_alike (P := P) (w := w) (base := base) F__law_alike (g "_law_alike" (by decide)) B 6
  have C__law_box := c_box (P := P) (w := w) (base := base) F__law_box (g "_law_box" (by decide)) B
  have C__law_names := c_names (P := P) (w := w) (base := base) F__law_names (g "_law_names" (by decide)) B C__law_draw
  have C__law_channels := c_channels (P := P) (w := w) (base := base) F__law_channels (g "_law_channels" (by decide)) B C__law_draw C__law_names
  have C__law_rule := c_lrule (P := P) (w := w) (base := base) F__law_rule (g "_law_rule" (by decide)) B C__law_draw
  have C__law_net := c_lnet (P := P) (w := w) (base := base) F__law_net (g "_law_net" (by decide)) B C__law_draw C__law_names C__law_channels C__law_rule
  have C__law_start := c_lstart (P := P) (w := w) (base := base) F__law_start (g "_law_start" (by decide)) B
  have C__law_takes := c_takes (P := P) (w := w) (base := base) F__law_takes (g "_law_takes" (by decide)) B
  have C__law_possible := c_lposs (P := P) (w := w) (base := base) F__law_possible (g "_law_possible" (by decide)) B C__law_takes
  have C__law_with := c_with (P := P) (w := w) (base := base) F__law_with (g "_law_with" (by decide)) B
  have C__law_done := c_ldone (P := P) (w := w) (base := base) F__law_done (g "_law_done" (by decide)) B C__law_with
  have C__law_step := c_step (P := P) (w := w) (base := base) F__law_step (g "_law_step" (by decide)) B C__law_draw C__law_possible
  have C__law_lively := c_lively (P := P) (w := w) (base := base) F__law_lively (g "_law_lively" (by decide)) B C__law_draw
  have C__law_asked := c_asked5 (P := P) (w := w) (base := base) F__law_asked (g "_law_asked" (by decide)) B T_BadStep exm_BadStep_BadStep C_done
  have C__law_due := c_due5 (P := P) (w := w) (base := base) F__law_due (g "_law_due" (by decide)) B C__law_possible C__law_done
  have C__law_right := c_right5 (P := P) (w := w) (base := base) F__law_right (g "_law_right" (by decide)) B C__law_due C__law_asked C__law_alike CK_done_deed_world_net
  have C__law_near := c_near (P := P) (w := w) (base := base) F__law_near (g "_law_near" (by decide)) B C__law_draw
  have C__law_alone := c_alone5 (P := P) (w := w) (base := base) F__law_alone (g "_law_alone" (by decide)) B
  have C__law_walked := c_walked (P := P) (w := w) (base := base) F__law_walked (g "_law_walked" (by decide)) B M_Net C__law_start C__law_step C__law_draw C__law_near C__law_alone C__law_right C__law_done
  exact c_law F_law B C__law_box C__law_net C__law_lively C__law_draw C__law_walked
end Cw

set_option maxHeartbeats 0
namespace Cw
open PySem PySem.Spec PyProof.Rows L2
theorem runL (w : World) : HandSHeadRun.RunEq RL (PySem.W.view RL.prog [63]) hkL obL 3000 looseL w := by
  intro os
  kernel_rfl
end Cw
open PySem PySem.W PySem.Calls PyProof.Rows
theorem PySem.Challenge.cw_cutweave_k05_deeds_done_holds : PySem.Challenge.rw_cutweave_k05_deeds_done.Holds := by
  w_on; o_law
  refine HandSHeadRun.head_any (r := OpenLaw.row PySem.Challenge.rw_cutweave_k05_deeds_done) (q := view (OpenLaw.row PySem.Challenge.rw_cutweave_k05_deeds_done).prog [63]) (H := Cw.hkL) (ob := Cw.obL) (M := 3000) (loose := Cw.looseL) (d := HandSHeadRun.topDef (OpenLaw.row PySem.Challenge.rw_cutweave_k05_deeds_done).prog 63) (kwd := []) Cw.obL_eq
    (by kernel_rfl) (fun s => by kernel_rfl) Cw.runL (by kernel_rfl) (by kernel_rfl) (by kernel_rfl) (by rfl) (by first | assumption | decide +kernel) (by decide +kernel) ⟨rfl, rfl, rfl, rfl, rfl, by decide +kernel⟩ ?hw ?hc
  case hw => w_witness2
  case hc =>
    refine L2.walk_ofE (l := PySem.Challenge.rw_cutweave_k05_deeds_done) (n := 63) (k := 10) (x := "script") (CX := L2.CX0) rfl (by decide) (by kernel_rfl) ⟨rfl, by decide, by decide⟩ ?F (fun _ _ _ _ z => z)
    intro w mg fa h Y G hmg0
    obtain ⟨K, KX, c⟩ := Y
    have hmg : mg ("law" : PySem.Str) = some (.ref fa) := by
      have e : (HandSHeadRun.topDef (OpenLaw.row PySem.Challenge.rw_cutweave_k05_deeds_done).prog 63).name = ("law" : PySem.Str) := by kernel_rfl
      rw [← e]
      exact hmg0
    obtain ⟨fd, hb, hF⟩ := Cw.facts (P := (PySem.Challenge.rw_cutweave_k05_deeds_done).prog) (w := w) KX G hmg c
    exact ⟨K, fd, Cw.sp_law K, KX, hb, fun H a ns hl _ hS => ⟨a, ns, rfl, hS, by omega, fun _ => rfl⟩, hF⟩
#print axioms PySem.Challenge.cw_cutweave_k05_deeds_done_holds
