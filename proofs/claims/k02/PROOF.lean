import PyProof.Rows.All
import Wide.All
import OpenK.AllK
import Wide.FinOn
import PySem.Challenge.RW_lanerules_k02_rules_and_rows_judged
import HandS.ForMost
import HandS.Wide
import HandS.Conv
import HandS.More
import HandS.Style
import HandS.TupMul
import HandS.TupAny
import HandS.IsInst
import HandS.EndBits
import HandS.Evl
import KE.GoesMore
import KE.GoesEnum
import HandS.SetFor
import HandS.Strs
set_option Elab.async false
set_option linter.all false
set_option maxRecDepth 100000
set_option maxHeartbeats 4000000
namespace Lr
open PySem L2
abbrev Ex := Evl.Ex
/-! ### the drawer of numbers: its dict and its list of great numbers are known only by what always holds of them -/
def canKvs (d a : Addr) (t : Int) : List (Key × V) := [(Sum.inr "deep", .ref d), (Sum.inr "all", .ref a), (Sum.inr "times", .int t)]
def DeepOk (ds : List Int) : Prop := (∀ x ∈ ds, 0 ≤ x) ∧ ds.length ≤ 63
section
variable (P : Program) (w : World)
abbrev H0 : Hp := fun _ => none
def phiC (c d a : Addr) : Heap → Prop := fun h => ∃ t : Int, ObjOk P w H0 h c (.dK (canKvs d a t))
def phiD (d : Addr) : Heap → Prop := fun h => ∃ ds : List Int, DeepOk ds ∧ ObjOk P w H0 h d (.lst (ds.map V.int))
/-- the drawer stands at c -/
def Can (H : Hp) (c : Addr) : Prop := ∃ d a cs, H c = some (.ext (phiC P w c d a)) ∧ H d = some (.ext (phiD P w d)) ∧ H a = some (.lst (cs.map V.int)) ∧ cs ≠ [] ∧ cs.length ≤ 64 ∧ d ≠ c
end
section
variable {P : Program} {w : World} {H H' : Hp} {c d a : Addr}
theorem Can.mono (h : Can P w H c) (e : Ex H H') : Can P w H' c := by
  obtain ⟨d, a, cs, h1, h2, h3, h4⟩ := h
  exact ⟨d, a, cs, e _ _ h1, e _ _ h2, e _ _ h3, h4⟩
theorem stayC {h1 h2 : Heap} (x : phiC P w c d a h1) (k : ∀ o, h1.get? c = some o → h2.get? c = some o) : phiC P w c d a h2 := by
  obtain ⟨t, x⟩ := x
  refine ⟨t, ObjOk.stay x (fun b u hb e => ?_) (fun _ q => nomatch q) fun _ _ q => nomatch q⟩
  rcases hb with rfl | q
  · exact k u e
  · cases q
theorem stayD {h1 h2 : Heap} (x : phiD P w d h1) (k : ∀ o, h1.get? d = some o → h2.get? d = some o) : phiD P w d h2 := by
  obtain ⟨t, g, x⟩ := x
  refine ⟨t, g, ObjOk.stay x (fun b u hb e => ?_) (fun _ q => nomatch q) fun _ _ q => nomatch q⟩
  rcases hb with rfl | q
  · exact k u e
  · cases q
theorem there_dK {h : Heap} {kvs : List (Key × V)} (x : ObjOk P w H h c (.dK kvs)) : ∃ o, h.get? c = some o := by
  obtain ⟨_, _, _, _, o, _, _, e, _⟩ := x
  exact ⟨o, e⟩
theorem there_lst {h : Heap} {xs : List V} (x : ObjOk P w H h c (.lst xs)) : ∃ o, h.get? c = some o := by
  obtain ⟨_, _, _, _, e⟩ := x
  exact ⟨_, e⟩
end
section
variable {X : Cx} {pins : List (Addr × Obj)} {σ : St} {H : Hp} {s : Shared} {c d a : Addr}
/-- another description of the same object -/
theorem reword {o o' : HO} (I : Inv X pins σ H s) (h : H c = some o) (mu : Mut (some o)) (new : ObjOk X.prog X.w (upd H c o') s.heap c o') (there : ∃ u, s.heap.get? c = some u) : Inv X pins σ (upd H c o') s :=
  I.write (x := c) (e := c) (t' := s.toks) (h' := s.heap) (by rw [h]; exact mu) (.inl rfl) (fun _ _ _ q => q) there new
theorem opened (I : Inv X pins σ H s) (h1 : H c = some (.ext (phiC X.prog X.w c d a))) (h2 : H d = some (.ext (phiD X.prog X.w d))) (hcd : d ≠ c) :
    ∃ t ds, DeepOk ds ∧ Inv X pins σ (upd (upd H c (.dK (canKvs d a t))) d (.lst (ds.map V.int))) s := by
  obtain ⟨⟨t, x1⟩, th1, _⟩ := I.hok c _ h1
  obtain ⟨⟨ds, g, x2⟩, th2, _⟩ := I.hok d _ h2
  have I1 := reword (o' := .dK (canKvs d a t)) I h1 trivial x1 th1
  have h3 : upd H c (.dK (canKvs d a t)) d = some (.ext (phiD X.prog X.w d)) := by rw [upd_ne hcd]; exact h2
  exact ⟨t, ds, g, reword (o' := .lst (ds.map V.int)) I1 h3 trivial x2 th2⟩
theorem closed {t : Int} {ds : List Int} (I : Inv X pins σ H s) (h1 : H c = some (.dK (canKvs d a t))) (h2 : H d = some (.lst (ds.map V.int))) (g : DeepOk ds) (hcd : d ≠ c) :
    Inv X pins σ (upd (upd H c (.ext (phiC X.prog X.w c d a))) d (.ext (phiD X.prog X.w d))) s := by
  have x1 : ObjOk X.prog X.w H0 s.heap c (.dK (canKvs d a t)) := I.hok c _ h1
  have x2 : ObjOk X.prog X.w H0 s.heap d (.lst (ds.map V.int)) := I.hok d _ h2
  have I1 := reword (o' := .ext (phiC X.prog X.w c d a)) I h1 trivial ⟨⟨t, x1⟩, there_dK x1, fun _ _ p k => stayC p k⟩ (there_dK x1)
  have h3 : upd H c (.ext (phiC X.prog X.w c d a)) d = some (.lst (ds.map V.int)) := by rw [upd_ne hcd]; exact h2
  exact reword (o' := .ext (phiD X.prog X.w d)) I1 h3 trivial ⟨⟨ds, g, x2⟩, there_lst x2, fun _ _ p k => stayD p k⟩ (there_lst x2)
end
/-- a body that opens the drawer, and closes it ahead of each return -/
def tDrawer (P : Program) (w : World) (t : TS) : TS := fun D σ H => ∃ c d a, H c = some (.ext (phiC P w c d a)) ∧ H d = some (.ext (phiD P w d)) ∧ d ≠ c ∧
  ∀ tm ds, DeepOk ds → t ⟨fun _ _ => False, fun v H' => (∃ tm' ds', H' c = some (.dK (canKvs d a tm')) ∧ H' d = some (.lst (ds'.map V.int)) ∧ DeepOk ds' ∧
    D.rt v (upd (upd H' c (.ext (phiC P w c d a))) d (.ext (phiD P w d)))), fun _ _ => False, fun _ _ => False⟩ σ (upd (upd H c (.dK (canKvs d a tm))) d (.lst (ds.map V.int)))
theorem pss_drawer {X : Cx} {st : List Stmt} {t : TS} (h : PSs X st t) : PSs X st (tDrawer X.prog X.w t) := by
  refine ⟨fun pins s σ H D I hw => ?_⟩
  obtain ⟨c, d, a, h1, h2, hcd, hw⟩ := hw
  obtain ⟨tm, ds, g, I1⟩ := opened I h1 h2 hcd
  refine thn (h.run pins s σ _ _ I1 (hw tm ds g)) fun f s1 q => ?_
  cases f with
  | next => obtain ⟨_, _, _, z⟩ := q; exact z.elim
  | brk => obtain ⟨_, _, _, z⟩ := q; exact z.elim
  | cont => obtain ⟨_, _, _, z⟩ := q; exact z.elim
  | ret v =>
    obtain ⟨x, σ', H', I2, r, tm', ds', e1, e2, g', z⟩ := q
    exact ⟨x, σ', _, closed I2 e1 e2 g' hcd, r, z⟩
end Lr

namespace Lr
open PySem L2 PySem.Spec PyProof.Rows
/-! ### a promise that is asked for only where no repr is under way -/
structure FnG (P : Program) (w : World) (K : PySem.W.Frag) (mg : Str → Option Value) (base : Heap)
    (k : Nat) (f : Addr) (fd : FuncData) (ps : List Str) (sp : Sp) : Prop where
  len : ∀ vs H Q E, sp vs H Q E → vs.length = ps.length
  go : ∀ (A : Around) (outer : List Env) (s : Shared) (H : Hp) (args : Args) (us : List Value)
      (vs : List V) (Q : VK) (E : XK), Room k A → A.guards = some [] →
      Env0 P w K mg base A outer s H → BindsTo s fd args (ps.zip us) → Vals vs us → sp vs H Q E →
      codeAny (model P w) A (.call (.ref f) args) (CR CX0 outer P w H s Q E) s
section
variable {P : Program} {w : World} {K : PySem.W.Frag} {mg : Str → Option Value} {base : Heap}
/-- by its body -/
theorem fnG {x qual : Str} {st : Stmt} {f : Addr} {fd : FuncData} {N ps : List Str} {k : Nat} {sp : Sp}
    (F : Fun K x qual st f fd) (S : FnScope N ps (defScope st))
    (len : ∀ vs H Q E, sp vs H Q E → vs.length = ps.length)
    (hbody : ∀ (cdv : Value) (A : Around) (outer : List Env) (s : Shared) (H : Hp) (vs : List V) (Q : VK) (E : XK),
      Room k (A.deeper (envOfC qual (defScope st) s.heap.objs.size f cdv)) →
      (A.deeper (envOfC qual (defScope st) s.heap.objs.size f cdv)).guards = some [] → sp vs H Q E →
      ∃ t, PSs (cxOf CX0 P w K mg base N qual (defScope st) f cdv A outer s H E).nox (defBody st) t ∧
        t { nx := fun _ G => Q .non G, rt := Q } (start N vs) H) :
    FnG P w K mg base (k + 1) f fd ps sp := by
  obtain ⟨oc, od, kV, doc, pm, an, cdv, ct, osl, rfl, lk, hcd⟩ := F.ex
  refine ⟨len, ?_⟩
  intro A outer s H args us vs Q E room hg env hb rel want
  have many := len _ _ _ _ want
  have inK : K.In s.heap := env.mod.kin.keeps fun b o e => (env.bs b o e).1
  have lim := env.mod.nolimit.keeps (h' := s.heap) fun b o e => (env.bs b o e).1
  refine codeAny_call_function room.depth (inK _ _ lk) rfl S.co S.gen rfl (PySem.W.codeRec_of inK hcd)
    (hb _ _ _ _ (wpAny_newFunctionEnv_cells S.kind (fun y hy => ?_) fun env' he s1 x1 => ?_))
  · obtain ⟨nm, val⟩ := y
    rcases S.par nm (List.of_mem_zip hy).1 with q | q
    · exact Or.inl q
    · exact Or.inr ⟨q, PySem.W.cellsFrom_some _ _ _ (Or.inl q)⟩
  · subst he
    refine ⟨lim.keeps x1.toInCall.keep, codeAny_func ?_⟩
    obtain ⟨t, ht, hq⟩ := hbody cdv A outer s H vs Q E (room.deeper _) hg want
    have J := inv_start (CX := CX0) (E := E) S room.hd env many rel x1
    refine wpAny_mono (ht.nox.run [] s1 (start N vs) H _ J hq) ?_ fun _ _ z => z
    intro fl s2 out
    cases fl with
    | ret u =>
      obtain ⟨v, σ2, H2, J2, rv, q⟩ := out
      exact ⟨v, H2, J2.os, J2.bare, J2.base, J2.hok, rv, q⟩
    | next =>
      obtain ⟨σ2, H2, J2, q⟩ := out
      exact ⟨.non, H2, J2.os, J2.bare, J2.base, J2.hok, rfl, q⟩
    | brk => obtain ⟨_, _, _, z⟩ := out; exact z.elim
    | cont => obtain ⟨_, _, _, z⟩ := out; exact z.elim
end
section
variable {X : Cx} {k : Nat} {f : Addr} {fd : FuncData} {ps : List Str} {sp : Sp} {x : Str} {p pos : Pos} {e : Expr} {es : List Expr} {t : TA}
/-- a call of such a def, where no repr is under way -/
theorem pe_callG (F : FnG X.prog X.w X.K X.mg X.base k f fd ps sp) (hr : Room k X.A) (hgd : X.A.guards = some []) (hg : Gl X x)
    (hm : X.mg x = some (.ref f)) (hk : PySem.W.keepIn X.K (.ref f) = true) (hb : Binds X.K fd ps [])
    (ha : PA X (e :: es) t) (hdb : (x == ("__debug__" : Str)) = false := by decide)
    (he : starEach (e :: es) X.env = (false, eval e X.env) :: starEach es X.env := by rfl)
    (hpl : (backTo pos (starEach es X.env)).any (·.1) = false := by rfl) :
    PE X (.Call (.Name x p) (e :: es) [] pos) (tCall sp [] E0 t) := by
  refine ⟨fun pins s σ H Q I h => wpAny_Call_Name_kw (ld_glob I hg hm ?_ hdb)⟩
  refine PySem.W.callWith_K (h₀ := X.base) I.ok.mod.kin hk ?_ he hpl
  refine thn (ha.run pos pins s σ H _ I h) ?_
  rintro us s1 ⟨vs, H1, I1, r, q⟩
  refine ⟨I1.kIn, ?_⟩
  rw [List.append_nil] at q
  have len := F.len _ _ _ _ q
  have bind := hb s1 us I1.kIn (by rw [List.append_nil, ← r.length]; exact len)
  rw [List.append_nil] at bind
  refine wpAny_call (codeAny_mono (F.go X.A X.stack s1 H1 ⟨us, []⟩ us vs Q E0 hr hgd I1.env0 bind r q) ?_)
  intro res s2 out
  cases res with
  | error u => exact False.elim out
  | ok fl =>
    cases fl with
    | ret u => exact I1.after out
    | next => exact False.elim out
    | brk => exact False.elim out
    | cont => exact False.elim out
end
/-! ### the law's end -/
theorem lawG {P : Program} {w : World} {K : PySem.W.Frag} {mg mb : Str → Option Value} {k : Nat} {fa a : Addr} {fd : FuncData} {x : Str} {sp : Sp}
    {t0 : Shared} {us : List Value} {ns : List Int} (inK : K.In t0.heap) (gl : t0.heap.Ns mainGlobals mg) (bl : t0.heap.Ns builtinsNs mb)
    (blt : ∀ y : Str, y ≠ "__name__" → mb y = bootBuiltins y) (lim : t0.heap.NoLimit) (nog : t0.gens = #[])
    (at' : t0.heap.get? a = some { cls := .type "list", data := .seq us.toArray }) (hints : IntsAre us ns) (short : ns.length ≤ sizeLine)
    (room : Room k callerA) (F : ∀ base : Heap, K.In base → base.Ns mainGlobals mg → FnG P w K mg base k fa fd [x] sp)
    (bind : ∀ (s : Shared) (u : Value), BindsTo s fd ⟨[u], []⟩ [(x, u)])
    (want : ∀ H : Hp, SqL K H a (ns.map V.int) → sp [.ref a] H (fun v _ => v = .bl true) fun _ _ _ => False) :
    codeAny (model P w) callerA (.call (.ref fa) ⟨[.ref a], []⟩)
      (fun r s2 => r = .ok (.ret (.bool true)) ∧ OldK t0.heap s2.heap ∧ s2.os = t0.os ∧ AllBare s2.gens) t0 := by
  have vals : Vals (ns.map V.int) us := vals_ints hints
  have same := hints.length
  -- over any abstract heap that tracks nothing but the script
  have main : ∀ H : Hp, (∀ b u, H b = some u → b = a ∧ K.lookup a = none ∧ ∃ o ys, u = .frz o (.lst ys)) → SqL K H a (ns.map V.int) → HOk P w H t0.heap →
      codeAny (model P w) callerA (.call (.ref fa) ⟨[.ref a], []⟩)
        (fun r s2 => r = .ok (.ret (.bool true)) ∧ OldK t0.heap s2.heap ∧ s2.os = t0.os ∧ AllBare s2.gens) t0 := by
    intro H only sq ok
    have noDict : ∀ {b : Addr} {o : Obj} {es : Array DictEntry} {ep : Nat}, t0.heap.get? b = some o → o.data = .dict es ep → H b = none := by
      intro b o es ep e dd
      cases q : H b with
      | none => rfl
      | some u =>
        obtain ⟨rfl, _⟩ := only b u q
        rw [at'] at e
        cases e
        cases dd
    have ns' : ∀ {b : Addr} {m : Str → Option Value}, t0.heap.Ns b m → (hidT t0.heap H).Ns b m := by
      rintro b m ⟨o, es, ep, e, dd, r⟩
      exact ⟨o, es, ep, hidT_get e (noDict e dd), dd, r⟩
    have inB : K.In (hidT t0.heap H) := by
      intro b o e
      refine hidT_get (inK b o e) ?_
      cases q : H b with
      | none => rfl
      | some u =>
        obtain ⟨rfl, z, _⟩ := only b u q
        rw [z] at e
        cases e
    obtain ⟨mc, l1, l2⟩ := lim
    have md : Mod K mg (hidT t0.heap H) := ⟨inB, ns' gl, ⟨mb, ns' bl, blt⟩, mc, ns' l1, l2⟩
    have env : Env0 P w K mg (hidT t0.heap H) callerA [] t0 H :=
      ⟨rfl, md, fun b o e => of_hidT e, Nat.le_of_eq (hidT_size _ _), trivial, fun b hb => absurd hb List.not_mem_nil, ok, AllBare.of_eq nog⟩
    refine codeAny_mono ((F _ inB (ns' gl)).go callerA [] t0 H ⟨[.ref a], []⟩ [.ref a] [.ref a] _ _ room rfl env (bind t0 (.ref a)) (.cons rfl .nil) (want H sq)) ?_
    intro r s2 out
    cases r with
    | error u => exact False.elim out
    | ok fl =>
      cases fl with
      | next => exact False.elim out
      | brk => exact False.elim out
      | cont => exact False.elim out
      | ret u =>
        obtain ⟨v, H2, os, bare, un, ok2, rv, q⟩ := out
        obtain rfl : v = .bl true := q
        obtain rfl : u = Value.bool true := rv
        refine ⟨rfl, OldK.of_keep ?_, os, bare⟩
        intro b o e
        cases z : H b with
        | none => exact un.keep b o e z (by intro y; cases y) (by simp)
        | some u =>
          obtain ⟨_, _, ob, ys, rfl⟩ := only b u z
          obtain ⟨e1, _⟩ := ok b _ z
          obtain ⟨e2, _⟩ := ok2 b _ (un.frzs b ob _ z)
          rw [e] at e1
          cases e1
          exact e2
  cases lk : K.lookup a with
  | some o =>
    have e := inK a o lk
    rw [at'] at e
    cases e
    refine main (fun _ => none) (fun b u z => by cases z) (.inr ⟨_, us.toArray, _, lk, rfl, rfl, rfl, ?_, by simpa using vals⟩) (fun b u z => by cases z)
    rw [List.size_toArray, same]
    exact short
  | none =>
    refine main (fun b => if b = a then some (.frz { cls := .type "list", data := .seq us.toArray } (.lst (ns.map V.int))) else none) ?_ (.inl (.inr ⟨_, if_pos rfl⟩)) ?_
    · intro b u z
      by_cases hb : b = a
      · have z2 := (if_pos hb).symm.trans z
        cases z2
        exact ⟨hb, lk, _, _, rfl⟩
      · have z2 := (if_neg hb).symm.trans z
        cases z2
    · intro b u z
      by_cases hb : b = a
      · have z2 := (if_pos hb).symm.trans z
        subst hb
        cases z2
        exact ⟨at', by rw [List.length_map]; exact short, us, _, vals, at'⟩
      · have z2 := (if_neg hb).symm.trans z
        cases z2
/-- what k_head leaves, from the promise of the law's def -/
theorem walkG {l : PySem.W.OpenLaw} {n k : Nat} {q : Program} {loose : List Str} {XP : (Str → Option Value) → Heap → Prop} {YP : World → Heap → Prop} {d : DefRec}
    {K : Params → PySem.W.Frag} {sp : World → Sp} {x : Str} (hn : l.most = some n) (hn2 : n ≤ sizeLine) (hdf : d.params.defaults = []) (hr : Room k callerA)
    (hY : ∀ (w : World) (h : Heap), YP w h → (K w.params).In h)
    (F : ∀ (w : World) (mg : Str → Option Value) (fa : Addr) (h : Heap), (K w.params).In h → h.Ns mainGlobals mg → mg d.name = some (.ref fa) →
      ∃ fd : FuncData, (∀ (s : Shared) (u : Value), BindsTo s fd ⟨[u], []⟩ [(x, u)]) ∧
        ∀ base : Heap, (K w.params).In base → base.Ns mainGlobals mg → FnG l.prog w (K w.params) mg base k fa fd [x] (sp w))
    (want : ∀ (w : World) (H : Hp) (a : Addr) (ns : List Int), ns.length ≤ n → SqL (K w.params) H a (ns.map V.int) → sp w [.ref a] H (fun v _ => v = .bl true) fun _ _ _ => False) :
    PySem.W.WalkO q loose XP YP l.row.toRowW d [] (fun f vs => PySem.call f vs) := by
  refine Att.attach_callB hn hdf ?_
  intro w s0 s1 mg mb fa o pm cd doc a vs ns G Y ho hd hcd hmg hobj hints hlen _ hg
  obtain ⟨fd, hb, hF⟩ := F w mg fa _ (hY w _ Y) G.T.g hmg
  exact lawG (hY w _ Y) G.T.g G.T.b G.T.builtins G.T.nolimit hg hobj hints (Nat.le_trans hlen hn2) hr hF hb fun H hS => want w H a ns hlen hS
end Lr

namespace Lr
open PySem L2 PySem.Spec PyProof.Rows
def keyD : Key → PyData
  | .inl i => .int i
  | .inr x => .str x
/-! ### data: what a value is, whatever it holds -/
mutual
inductive Dv (H : Hp) : V → PyData → Prop
  | non : Dv H .non .none
  | bl (b : Bool) : Dv H (.bl b) (.bool b)
  | int (i : Int) : Dv H (.int i) (.int i)
  | str (x : Str) : Dv H (.str x) (.str x)
  | lst {a : Addr} {xs : List V} {ds : List PyData} : H a = some (.lst xs) → DvAll H xs ds → Dv H (.ref a) (.list ds)
  | tup {a : Addr} {xs : List V} {ds : List PyData} : H a = some (.tup xs) → DvAll H xs ds → Dv H (.ref a) (.tuple ds)
  | dic {a : Addr} {kvs : List (Key × V)} {ds : List (PyData × PyData)} : H a = some (.dK kvs) → DvKv H kvs ds → Dv H (.ref a) (.dict ds)
inductive DvAll (H : Hp) : List V → List PyData → Prop
  | nil : DvAll H [] []
  | cons {v : V} {vs : List V} {d : PyData} {ds : List PyData} : Dv H v d → DvAll H vs ds → DvAll H (v :: vs) (d :: ds)
inductive DvKv (H : Hp) : List (Key × V) → List (PyData × PyData) → Prop
  | nil : DvKv H [] []
  | cons {k : Key} {v : V} {vs : List (Key × V)} {d : PyData} {ds : List (PyData × PyData)} : Dv H v d → DvKv H vs ds → DvKv H ((k, v) :: vs) ((keyD k, d) :: ds)
end
mutual
def hasList : PyData → Bool
  | .list _ => true
  | .tuple xs => hasListAll xs
  | .dict kvs => hasListKv kvs
  | _ => false
def hasListAll : List PyData → Bool
  | [] => false
  | x :: xs => hasList x || hasListAll xs
def hasListKv : List (PyData × PyData) → Bool
  | [] => false
  | (_, v) :: xs => hasList v || hasListKv xs
end
section
variable {H H' : Hp}
mutual
theorem Dv.mono (e : Ex H H') : ∀ {v : V} {d : PyData}, Dv H v d → Dv H' v d
  | _, _, .non => .non
  | _, _, .bl b => .bl b
  | _, _, .int i => .int i
  | _, _, .str x => .str x
  | _, _, .lst h t => .lst (e _ _ h) (DvAll.mono e t)
  | _, _, .tup h t => .tup (e _ _ h) (DvAll.mono e t)
  | _, _, .dic h t => .dic (e _ _ h) (DvKv.mono e t)
theorem DvAll.mono (e : Ex H H') : ∀ {v : List V} {d : List PyData}, DvAll H v d → DvAll H' v d
  | _, _, .nil => .nil
  | _, _, .cons a b => .cons (Dv.mono e a) (DvAll.mono e b)
theorem DvKv.mono (e : Ex H H') : ∀ {v : List (Key × V)} {d : List (PyData × PyData)}, DvKv H v d → DvKv H' v d
  | _, _, .nil => .nil
  | _, _, .cons a b => .cons (Dv.mono e a) (DvKv.mono e b)
end
theorem DvAll.len : ∀ {vs : List V} {ds : List PyData}, DvAll H vs ds → vs.length = ds.length
  | _, _, .nil => rfl
  | _, _, .cons _ t => congrArg (· + 1) t.len
theorem DvAll.app : ∀ {vs ws : List V} {ds es : List PyData}, DvAll H vs ds → DvAll H ws es → DvAll H (vs ++ ws) (ds ++ es)
  | _, _, _, _, .nil, s => s
  | _, _, _, _, .cons a t, s => .cons a (t.app s)
theorem DvAll.get : ∀ {vs : List V} {ds : List PyData} {i : Nat} {v : V}, DvAll H vs ds → vs[i]? = some v → ∃ d, ds[i]? = some d ∧ Dv H v d
  | _, _, _, _, .nil, e => by simp at e
  | _, _, 0, _, .cons a _, e => by simp at e; subst e; exact ⟨_, rfl, a⟩
  | _, _, i + 1, _, .cons _ t, e => by
    obtain ⟨d, h1, h2⟩ := t.get (i := i) (by simpa using e)
    exact ⟨d, by simpa using h1, h2⟩
theorem DvAll.getD : ∀ {vs : List V} {ds : List PyData} {i : Nat} {d : PyData}, DvAll H vs ds → ds[i]? = some d → ∃ v, vs[i]? = some v ∧ Dv H v d
  | _, _, _, _, .nil, e => by simp at e
  | _, _, 0, _, .cons a _, e => by simp at e; subst e; exact ⟨_, rfl, a⟩
  | _, _, i + 1, _, .cons _ t, e => by
    obtain ⟨v, h1, h2⟩ := t.getD (i := i) (by simpa using e)
    exact ⟨v, by simpa using h1, h2⟩
theorem DvAll.take : ∀ {vs : List V} {ds : List PyData} (n : Nat), DvAll H vs ds → DvAll H (vs.take n) (ds.take n)
  | _, _, 0, _ => .nil
  | _, _, _ + 1, .nil => .nil
  | _, _, n + 1, .cons a t => .cons a (t.take n)
theorem DvAll.drop : ∀ {vs : List V} {ds : List PyData} (n : Nat), DvAll H vs ds → DvAll H (vs.drop n) (ds.drop n)
  | _, _, 0, t => t
  | _, _, _ + 1, .nil => .nil
  | _, _, n + 1, .cons _ t => t.drop n
theorem dv_ints (H : Hp) : ∀ ns : List Int, DvAll H (ns.map V.int) (ns.map PyData.int)
  | [] => .nil
  | n :: r => .cons (.int n) (dv_ints H r)
end
/-! ### repr of data -/
theorem key_reads {h : Heap} {k : Key} {v : Value} (e : keyIs k v = true) : Reads h v (keyD k) [] := by
  rcases keyIs_shape e with ⟨i, t, rfl, rfl⟩ | ⟨x, t, rfl, rfl⟩
  · exact .int i t
  · exact .str x t
theorem keys_read {P : Program} {w : World} {h : Heap} {H : Hp} {es : List DictEntry} {vs : List (Key × Value)} (p : Pairs (mixKind P w) es vs) :
    ∀ {kvs : List (Key × V)} {ds : List (PyData × PyData)}, KV kvs vs → DvKv H kvs ds → ReadsAll h (es.map (·.key)) (ds.map (·.1)) [] := by
  induction p with
  | nil =>
    intro kvs ds q z
    cases q
    cases z
    exact .nil
  | cons h1 _ _ ih =>
    intro kvs ds q z
    cases q with
    | cons r q =>
      cases z with
      | cons a z =>
        have e := r.1
        simp only at e
        rw [← e] at h1
        exact ReadsAll.cons (as := []) (bs := []) (key_reads h1) (ih q z)
section
variable {X : Cx} {pins : List (Addr × Obj)} {σ : L2.St} {H : Hp} {s : Shared}
mutual
theorem Dv.reads (I : Inv X pins σ H s) : ∀ {v : V} {d : PyData} {u : Value}, Dv H v d → RelV v u → ∃ as, Reads s.heap u d as ∧ (hasList d = false → sysModules ∉ as)
  | _, _, _, .non, r => by cases r; exact ⟨[], .none, fun _ => List.not_mem_nil⟩
  | _, _, _, .bl b, r => by cases r; exact ⟨[], .bool b, fun _ => List.not_mem_nil⟩
  | _, _, _, .int i, r => by obtain ⟨t, rfl⟩ := r; exact ⟨[], .int i t, fun _ => List.not_mem_nil⟩
  | _, _, _, .str x, r => by obtain ⟨t, rfl⟩ := r; exact ⟨[], .str x t, fun _ => List.not_mem_nil⟩
  | _, _, _, .lst h t, r => by
    cases r
    obtain ⟨_, its, n, rv, e⟩ := I.hok _ _ h
    obtain ⟨as, q, _⟩ := DvAll.reads I t rv
    exact ⟨_ :: as, .list e rfl rfl (by simpa using q), fun z => by simp [hasList] at z⟩
  | _, _, _, .tup h t, r => by
    cases r
    obtain ⟨_, its, rv, o, e, hc, n, hd⟩ := I.hok _ _ h
    obtain ⟨as, q, z⟩ := DvAll.reads I t rv
    exact ⟨as, .tuple e hc hd (by simpa using q), fun y => z (by simpa [hasList] using y)⟩
  | _, _, _, .dic h t, r => by
    cases r
    obtain ⟨_, ns, vs, kv, o, es, ep, e, hx, hd, _, hp, _⟩ := I.hok _ _ h
    obtain ⟨bs, q, z⟩ := DvKv.reads I t kv hp
    refine ⟨_ :: [] ++ bs, .dict e hx.1 hd (keys_read hp kv t) q, fun y hm => ?_⟩
    have y2 := z (by simpa [hasList] using y)
    rcases List.mem_cons.mp (by simpa using hm) with rfl | hm
    · simp at ns
    · exact y2 hm
theorem DvAll.reads (I : Inv X pins σ H s) : ∀ {vs : List V} {ds : List PyData} {us : List Value}, DvAll H vs ds → Vals vs us → ∃ as, ReadsAll s.heap us ds as ∧ (hasListAll ds = false → sysModules ∉ as)
  | _, _, _, .nil, .nil => ⟨[], .nil, fun _ => List.not_mem_nil⟩
  | _, _, _, .cons a b, .cons r q => by
    obtain ⟨as, h1, z1⟩ := Dv.reads I a r
    obtain ⟨bs, h2, z2⟩ := DvAll.reads I b q
    refine ⟨as ++ bs, .cons h1 h2, fun y hm => ?_⟩
    simp only [hasListAll, Bool.or_eq_false_iff] at y
    rcases List.mem_append.mp hm with m | m
    · exact z1 y.1 m
    · exact z2 y.2 m
theorem DvKv.reads (I : Inv X pins σ H s) : ∀ {kvs : List (Key × V)} {ds : List (PyData × PyData)} {vs : List (Key × Value)} {es : List DictEntry}, DvKv H kvs ds → KV kvs vs → Pairs (mixKind X.prog X.w) es vs →
    ∃ bs, ReadsAll s.heap (es.map (·.val)) (ds.map (·.2)) bs ∧ (hasListKv ds = false → sysModules ∉ bs)
  | _, _, _, _, .nil, .nil, .nil => ⟨[], .nil, fun _ => List.not_mem_nil⟩
  | _, _, _, _, .cons a b, .cons r q, .cons h1 h2 t => by
    obtain ⟨as, g1, z1⟩ := Dv.reads I a r.2
    obtain ⟨bs, g2, z2⟩ := DvKv.reads I b q t
    refine ⟨as ++ bs, .cons (by show Reads s.heap (DictEntry.val _) _ as; rw [h2]; exact g1) g2, fun y hm => ?_⟩
    simp only [hasListKv, Bool.or_eq_false_iff] at y
    rcases List.mem_append.mp hm with m | m
    · exact z1 y.1 m
    · exact z2 y.2 m
end
end
/-- what repr can show: small enough, and no list beside a dict, but for one just made -/
structure Fit (d : PyData) : Prop where
  sh : d.showable = true
  len : d.shown.length ≤ sizeLine
  dep : d.depth ≤ 60
def NoSys (v : V) (d : PyData) : Prop := hasList d = false ∨ ∃ p ds, v = .ref p ∧ d = .list ds ∧ p ≠ sysModules ∧ hasListAll ds = false
def rRepr : List V → Hp → VK → Prop := fun xs H Q => ∃ v d, xs = [v] ∧ Dv H v d ∧ Fit d ∧ (d.hasDict = true → NoSys v d) ∧ Q (.str d.shown) H
theorem reads_fit {X : Cx} {pins : List (Addr × Obj)} {σ : L2.St} {H : Hp} {s : Shared} {v : V} {d : PyData} {u : Value} (I : Inv X pins σ H s) (hd : Dv H v d) (rv : RelV v u) (ns : d.hasDict = true → NoSys v d) :
    ∃ as, Reads s.heap u d as ∧ (d.hasDict = true → sysModules ∉ as) := by
  by_cases hh : d.hasDict = true
  · rcases ns hh with n | ⟨p, ds, rfl, rfl, np, nl⟩
    · obtain ⟨as, r, z⟩ := Dv.reads I hd rv
      exact ⟨as, r, fun _ => z n⟩
    · cases rv
      cases hd with
      | lst h t =>
        obtain ⟨_, its, n, rv2, e⟩ := I.hok _ _ h
        obtain ⟨as, q, z⟩ := DvAll.reads I t rv2
        refine ⟨p :: as, .list e rfl rfl (by simpa using q), fun _ hm => ?_⟩
        rcases List.mem_cons.mp hm with e | hm
        · exact np e.symm
        · exact z nl hm
  · obtain ⟨as, r, _⟩ := Dv.reads I hd rv
    exact ⟨as, r, fun z => absurd z hh⟩
theorem call_repr {X : Cx} (hg : X.A.guards = some []) (hu : X.A.units + 64 < cLine) : CallR X (.builtin "repr") rRepr := by
  intro pins s σ H xs us Q I r h
  obtain ⟨v, d, rfl, hd, f, ns, q⟩ := h
  obtain ⟨u, rfl, rv⟩ := vals1 r
  have hdep := f.dep
  obtain ⟨as, rd, hs⟩ := reads_fit I hd rv ns
  have fin : ∀ (h' : Heap) (tk : Nat) (t : Tok), (∀ b o, s.heap.get? b = some o → h'.get? b = some o) → EP X pins σ Q (.str d.shown t) { s with heap := h', toks := tk } :=
    fun h' tk t k => ⟨.str d.shown, H, I.kept k, ⟨_, rfl⟩, q⟩
  cases hd with
  | non =>
    cases rv
    exact PySem.P.repr_of_none (fin s.heap _ _ fun _ _ e => e)
  | bl b =>
    cases rv
    exact PySem.P.repr_of_bool (fin s.heap _ _ fun _ _ e => e)
  | int i =>
    obtain ⟨t, rfl⟩ := rv
    exact PySem.P.repr_of_int (by simpa [PyData.showable] using f.sh) (fin s.heap _ _ fun _ _ e => e)
  | str x =>
    obtain ⟨t, rfl⟩ := rv
    exact PySem.P.repr_of_str (fin s.heap _ _ fun _ _ e => e) (by simpa [PyData.shown] using f.len)
  | lst h t =>
    cases rv
    exact repr_of_reads' rd f.sh hs hg (by omega) (fun _ _ e => e) (fun h' u tk k => fin h' tk u k) f.len
  | tup h t =>
    cases rv
    exact repr_of_reads' rd f.sh hs hg (by omega) (fun _ _ e => e) (fun h' u tk k => fin h' tk u k) f.len
  | dic h t =>
    cases rv
    exact repr_of_reads' rd f.sh hs hg (by omega) (fun _ _ e => e) (fun h' u tk k => fin h' tk u k) f.len
/-- a list display, its place told as no old one -/
def tLstN (t : TA) : TE := fun σ H Q => t σ H fun xs H1 => xs.length ≤ sizeLine ∧ ∀ p, H1 p = none → p ≠ sysModules → Q (.ref p) (upd H1 p (.lst xs))
theorem pe_lstN {X : Cx} {es : List Expr} {t : TA} {pos : Pos} (h : PA X es t) : PE X (.List es pos) (tLstN t) := by
  refine ⟨fun pins s σ H Q I hq => ?_⟩
  refine wpAny_List_spliced (thn (h.run pos pins s σ H _ I hq) ?_)
  rintro us s1 ⟨xs, H1, I1, r, z, q⟩
  refine ⟨by rw [← r.length]; exact z, ?_⟩
  have low : sysModules ≠ s1.heap.objs.size := by
    obtain ⟨o, _, _, e, _⟩ := I1.ok.mod.glob
    have h1 := Heap.lt_size e
    have h2 : sysModules < mainGlobals := by decide
    exact Nat.ne_of_lt (Nat.lt_of_lt_of_le (Nat.lt_trans h2 h1) (Nat.le_trans I1.ok.bsz I1.sz))
  have new : ObjOk X.prog X.w (upd H1 s1.heap.objs.size (.lst xs)) (s1.heap.push { cls := .type "list", data := .seq us.toArray }) s1.heap.objs.size (.lst xs) :=
    ⟨z, us, 0, r, Heap.get?_push_size _ rfl⟩
  exact ⟨.ref s1.heap.objs.size, _, I1.laid (t' := s1.toks) (fun b u e => Heap.get?_push_of_some _ e) (Nat.le_refl _) new, rfl, q _ (I1.hok.fresh (Nat.le_refl _)) low.symm⟩
end Lr

namespace Lr
open PySem L2
/-- the built-in names that the text leaves alone -/
structure Blt (mg : Str → Option Value) : Prop where
  len : mg "len" = none
  range : mg "range" = none
  tuple : mg "tuple" = none
  list : mg "list" = none
  abs : mg "abs" = none
  int : mg "int" = none
  str : mg "str" = none
  bool : mg "bool" = none
  repr : mg "repr" = none
  isinstance : mg "isinstance" = none
  enumerate : mg "enumerate" = none
  sorted : mg "sorted" = none
  set : mg "set" = none
  all : mg "all" = none
  min : mg "min" = none
  max : mg "max" = none
  any : mg "any" = none
  zip : mg "zip" = none
  sum : mg "sum" = none
  reversed : mg "reversed" = none
theorem bt_len : bootBuiltins "len" = some (.builtin "len") := by decide +kernel
theorem bt_abs : bootBuiltins "abs" = some (.builtin "abs") := by decide +kernel
theorem bt_repr : bootBuiltins "repr" = some (.builtin "repr") := by decide +kernel
theorem bt_isinstance : bootBuiltins "isinstance" = some (.builtin "isinstance") := by decide +kernel
theorem bt_sorted : bootBuiltins "sorted" = some (.builtin "sorted") := by decide +kernel
theorem bt_min : bootBuiltins "min" = some (.builtin "min") := by decide +kernel
theorem bt_max : bootBuiltins "max" = some (.builtin "max") := by decide +kernel
theorem bt_any : bootBuiltins "any" = some (.builtin "any") := by decide +kernel
theorem bt_sum : bootBuiltins "sum" = some (.builtin "sum") := by decide +kernel
theorem bt_all : bootBuiltins "all" = some (.builtin "all") := by decide +kernel
theorem bt_int : bootBuiltins "int" = some (.type "int") := by decide +kernel
theorem bt_str : bootBuiltins "str" = some (.type "str") := by decide +kernel
theorem bt_tuple : bootBuiltins "tuple" = some (.type "tuple") := by decide +kernel
theorem bt_list : bootBuiltins "list" = some (.type "list") := by decide +kernel
theorem bt_set : bootBuiltins "set" = some (.type "set") := by decide +kernel
/-! ### rules whose reading names the written part itself (for what stands in a comprehension) -/
section
variable {X : Cx} {K : PySem.W.Frag}
def rTupOf (K : PySem.W.Frag) : List V → Hp → VK → Prop := fun xs H Q => ∃ p ys, xs = [V.ref p] ∧ ((SqL K H p ys ∧ ∀ l, H l = none → Q (.ref l) (upd H l (.tup ys))) ∨ (SqT K H p ys ∧ Q (.ref p) H))
def rLstOf (K : PySem.W.Frag) : List V → Hp → VK → Prop := fun xs H Q => ∃ p ys, xs = [V.ref p] ∧ (SqL K H p ys ∨ SqT K H p ys) ∧ ∀ l, H l = none → Q (.ref l) (upd H l (.lst ys))
def rLenOf (K : PySem.W.Frag) : List V → Hp → VK → Prop := fun xs H Q => ∃ p ys, xs = [V.ref p] ∧ (SqL K H p ys ∨ SqT K H p ys) ∧ Q (.int ys.length) H
theorem k_tuple_of (h : X.K = K) : CallR X (.type "tuple") (rTupOf K) := by subst h; exact call_tuple_of
theorem k_list_of (h : X.K = K) : CallR X (.type "list") (rLstOf K) := by subst h; exact call_list_of
theorem k_len (h : X.K = K) : CallR X (.builtin "len") (rLenOf K) := by subst h; exact call_len_seq
theorem k_isi (h : X.K = K) : CallR X (.builtin "isinstance") (rIsi K) := by subst h; exact call_isi
theorem kx_list (h : X.K = K) : IxR X (rIxL K) := by subst h; exact ix_list
theorem kx_tup (h : X.K = K) : IxR X (rIxT K) := by subst h; exact ix_tup
theorem ks_list (h : X.K = K) : SlR X (rSlL K) := by subst h; exact sl_list
theorem ks_tup (h : X.K = K) : SlR X (rSlA K) := by subst h; exact sl_tupA
theorem ko_catT (h : X.K = K) : OpR X (binaryOp .Add) (rCatA K) := by subst h; exact op_catA
theorem ko_repT (h : X.K = K) : OpR X (binaryOp .Mult) (rRepT K) := by subst h; exact op_repT
theorem ko_eqD (h : X.K = K) (hu : X.A.units + 64 < cLine) : OpR X (compareOp .Eq) (rEqD K) := by subst h; exact op_eqD hu
theorem ko_neD (h : X.K = K) (hu : X.A.units + 64 < cLine) : OpR X (compareOp .NotEq) (rNeD K) := by subst h; exact op_neD hu
theorem ko_in (h : X.K = K) : OpR X (compareOp .In) (rIn K false) := by subst h; exact op_in_seq
theorem ko_notIn (h : X.K = K) : OpR X (compareOp .NotIn) (rIn K true) := by subst h; exact op_notIn_seq
theorem ki_list {tg l : Expr} {tl : TE} (h : X.K = K) (p : PE X l tl) : PI X tg l (iList K tl) := by subst h; exact pi_list p
theorem ki_tup {tg l : Expr} {tl : TE} (h : X.K = K) (p : PE X l tl) : PI X tg l (iTup K tl) := by subst h; exact pi_tup p
end
/-- a def by its name, with its promise -/
def Cal (P : Program) (w : World) (K : PySem.W.Frag) (mg : Str → Option Value) (base : Heap) (k : Nat) (x : Str) (ps : List Str) (sp : Sp) : Prop :=
  ∃ f fd, FnOk P w K mg base CX0 k f fd ps sp ∧ mg x = some (.ref f) ∧ PySem.W.keepIn K (.ref f) = true ∧ Binds K fd ps []
theorem pe_cal {X : Cx} {k : Nat} {x : Str} {ps : List Str} {sp : Sp} {e : Expr} {es : List Expr} {t : TA} {p pos : Pos} (C : Cal X.prog X.w X.K X.mg X.base k x ps sp) (hr : Room k X.A) (hg : Gl X x) (ha : PA X (e :: es) t)
    (hdb : (x == ("__debug__" : Str)) = false := by decide) (he : starEach (e :: es) X.env = (false, eval e X.env) :: starEach es X.env := by rfl) (hpl : (backTo pos (starEach es X.env)).any (·.1) = false := by rfl) :
    PE X (.Call (.Name x p) (e :: es) [] pos) (tCall sp [] E0 t) := by
  obtain ⟨f, fd, G, m, kp, b⟩ := C
  exact pe_call G hr hg m kp b .nil pass0 ha hdb he hpl
/-- a body that makes a drawer closes it ahead of its return -/
def tShut (P : Program) (w : World) (t : TS) : TS := fun D σ H => t ⟨fun _ _ => False, fun v H' => (∃ c d a tm ds, v = .ref c ∧ H' c = some (.dK (canKvs d a tm)) ∧ H' d = some (.lst (ds.map V.int)) ∧ DeepOk ds ∧ d ≠ c ∧
    D.rt v (upd (upd H' c (.ext (phiC P w c d a))) d (.ext (phiD P w d)))), fun _ _ => False, fun _ _ => False⟩ σ H
theorem pss_shut {X : Cx} {st : List Stmt} {t : TS} (h : PSs X st t) : PSs X st (tShut X.prog X.w t) := by
  refine ⟨fun pins s σ H D I hw => ?_⟩
  refine thn (h.run pins s σ _ _ I hw) fun f s1 q => ?_
  cases f with
  | next => obtain ⟨_, _, _, z⟩ := q; exact z.elim
  | brk => obtain ⟨_, _, _, z⟩ := q; exact z.elim
  | cont => obtain ⟨_, _, _, z⟩ := q; exact z.elim
  | ret v =>
    obtain ⟨x, σ', H', I2, r, c, d, a, tm, ds, rfl, e1, e2, g, hcd, z⟩ := q
    exact ⟨_, σ', _, closed I2 e1 e2 g hcd, r, z⟩
theorem at_in {α : Type} {xs : List α} {r : Int} (h0 : 0 ≤ r) (h1 : r < (xs.length : Int)) : ∃ v, v ∈ xs ∧ atI xs r = some v ∧ xs[r.toNat]? = some v := by
  have hr : r.toNat < xs.length := by omega
  have er : ((r.toNat : Nat) : Int) = r := by omega
  have q := atI_nat (List.getElem?_eq_getElem hr)
  rw [er] at q
  exact ⟨xs[r.toNat], List.getElem_mem hr, q, List.getElem?_eq_getElem hr⟩
theorem ints_of : ∀ {ys : List V}, (∀ (k : Nat) (v : V), ys[k]? = some v → ∃ z, v = .int z) → ∃ cs : List Int, ys = cs.map V.int
  | [], _ => ⟨[], rfl⟩
  | y :: r, h => by
    obtain ⟨z, rfl⟩ := h 0 y rfl
    obtain ⟨cs, rfl⟩ := ints_of (ys := r) fun k v e => h (k + 1) v (by simpa using e)
    exact ⟨z :: cs, rfl⟩
theorem cut_all {xs : List V} {n : Nat} (h : xs.length ≤ n) : cutV xs none (some (n : Int)) = xs := by
  unfold cutV
  rw [HT.sIx_none, HT.sIx_nat, Nat.min_eq_right h]
  simp
/-! ### comprehensions whose items stay known while the new list grows -/
/-- all but lists is as it was -/
def Exl (H H' : Hp) : Prop := ∀ a o, (∀ xs, o ≠ .lst xs) → H a = some o → H' a = some o
theorem Exl.refl (H : Hp) : Exl H H := fun _ _ _ h => h
theorem Exl.of {H H' : Hp} (e : Ex H H') : Exl H H' := fun a o _ h => e a o h
theorem Exl.trans {H H1 H2 : Hp} (a : Exl H H1) (b : Exl H1 H2) : Exl H H2 := fun x o n h => b x o n (a x o n h)
theorem Exl.grow {H : Hp} {D : Addr} {xs ys : List V} (h : H D = some (.lst xs)) : Exl H (upd H D (.lst ys)) := fun a o n e => by
  rw [upd_ne (ne_of e h (n xs))]
  exact e
theorem nl_tup {ds : List PyData} (h : hasList (.tuple ds) = false) : hasListAll ds = false := by simpa [hasList] using h
theorem nl_dic {ds : List (PyData × PyData)} (h : hasList (.dict ds) = false) : hasListKv ds = false := by simpa [hasList] using h
theorem nl_hd {d : PyData} {ds : List PyData} (h : hasListAll (d :: ds) = false) : hasList d = false := by simp only [hasListAll, Bool.or_eq_false_iff] at h; exact h.1
theorem nl_tl {d : PyData} {ds : List PyData} (h : hasListAll (d :: ds) = false) : hasListAll ds = false := by simp only [hasListAll, Bool.or_eq_false_iff] at h; exact h.2
theorem nk_hd {k d : PyData} {ds : List (PyData × PyData)} (h : hasListKv ((k, d) :: ds) = false) : hasList d = false := by simp only [hasListKv, Bool.or_eq_false_iff] at h; exact h.1
theorem nk_tl {k d : PyData} {ds : List (PyData × PyData)} (h : hasListKv ((k, d) :: ds) = false) : hasListKv ds = false := by simp only [hasListKv, Bool.or_eq_false_iff] at h; exact h.2
theorem nl_lst {ds : List PyData} {p : Prop} (h : hasList (.list ds) = false) : p := by simp [hasList] at h
theorem tup_nolst {xs : List V} : ∀ ys, HO.tup xs ≠ .lst ys := fun _ y => nomatch y
theorem dK_nolst {xs : List (Key × V)} : ∀ ys, HO.dK xs ≠ .lst ys := fun _ y => nomatch y
theorem yesT {σ : L2.St} {H : Hp} {A B : Hp → Prop} (h : A H) : tYes σ H (fun b H3 => if b = true then A H3 else B H3) := by
  show (if true = true then A H else B H)
  rw [if_pos rfl]
  exact h
section
variable {H H' : Hp}
mutual
theorem Dv.exl (e : Exl H H') : ∀ {v : V} {d : PyData}, Dv H v d → (hasList d = false → Dv H' v d)
  | _, _, .non => fun _ => .non
  | _, _, .bl b => fun _ => .bl b
  | _, _, .int i => fun _ => .int i
  | _, _, .str x => fun _ => .str x
  | _, _, .lst _ _ => fun z => nl_lst z
  | _, _, .tup h t => fun z => .tup (e _ _ tup_nolst h) (DvAll.exl e t (nl_tup z))
  | _, _, .dic h t => fun z => .dic (e _ _ dK_nolst h) (DvKv.exl e t (nl_dic z))
theorem DvAll.exl (e : Exl H H') : ∀ {v : List V} {d : List PyData}, DvAll H v d → (hasListAll d = false → DvAll H' v d)
  | _, _, .nil => fun _ => .nil
  | _, _, .cons a b => fun z => .cons (Dv.exl e a (nl_hd z)) (DvAll.exl e b (nl_tl z))
theorem DvKv.exl (e : Exl H H') : ∀ {v : List (Key × V)} {d : List (PyData × PyData)}, DvKv H v d → (hasListKv d = false → DvKv H' v d)
  | _, _, .nil => fun _ => .nil
  | _, _, .cons a b => fun z => .cons (Dv.exl e a (nk_hd z)) (DvKv.exl e b (nk_tl z))
end
end
/-- an item's value is told by the item's place: what M says of it holds on while other lists change -/
def Gives (te : TE) (σ : L2.St) (H1 : Hp) (M : V → Hp → Prop) : Prop := ∀ H', Ex H1 H' → ∀ Q : VK, (∀ v H2, Ex H' H2 → M v H2 → Q v H2) → te σ H' Q
section
variable {K : PySem.W.Frag} {a : Addr} {xs : List V} {te : TE} {vs : List Nat} {σ : L2.St} {H1 : Hp} {D : Addr} {Qd : Hp → Prop} {j : Nat}
theorem made_turn {i : Nat} {M : Nat → V → Hp → Prop} {σ2 : L2.St} {H' : Hp} {ys : List V} (hD : H1 D = none) (st : ∀ i v G G', Ex H1 G → Ex H1 G' → Exl G G' → M i v G → M i v G') (e : Ex H1 H') (hy : H' D = some (.lst ys)) (hl : ys.length = i) (hi : i < 100000)
    (hm : ∀ (k : Nat) (v : V), ys[k]? = some v → M k v H') (he : Gives te σ2 H1 (M i)) :
    te σ2 H' fun y H4 => ∃ acc, H4 D = some (.lst acc) ∧ acc.length < sizeLine ∧ ∃ zs : List V, zs.length = i + 1 ∧ Ex H1 (upd H4 D (.lst (acc ++ [y]))) ∧ upd H4 D (.lst (acc ++ [y])) D = some (.lst zs) ∧ ∀ (k : Nat) (v : V), zs[k]? = some v → M k v (upd H4 D (.lst (acc ++ [y]))) := by
  refine he H' e _ fun v H2 e2 m => ⟨ys, e2 _ _ hy, by rw [hl]; exact Evl.sz_lt hi, ys ++ [v], by simp [hl], Evl.Ex.mut (e.trans e2) hD, upd_same, fun k u hk => ?_⟩
  have g : Exl H2 (upd H2 D (.lst (ys ++ [v]))) := Exl.grow (e2 _ _ hy)
  have e3 : Ex H1 (upd H2 D (.lst (ys ++ [v]))) := Evl.Ex.mut (e.trans e2) hD
  by_cases hk2 : k < ys.length
  · rw [List.getElem?_append_left hk2] at hk
    exact st k u H' _ e e3 ((Exl.of e2).trans g) (hm k u hk)
  · have hz := (List.getElem?_eq_some_iff.mp hk).1
    have ek : k = i := by simp at hz; omega
    subst ek
    rw [List.getElem?_append_right (by omega), hl] at hk
    simp at hk
    subst hk
    exact st k v H2 _ (e.trans e2) e3 g m
/-- [e for x in a list] -/
theorem made_list (M : Nat → V → Hp → Prop) (hD : H1 D = none) (hx : SqL K H1 a xs) (hn : xs.length < 100000) (st : ∀ i v G G', Ex H1 G → Ex H1 G' → Exl G G' → M i v G → M i v G')
    (hw : ∀ x, wipe ((wipe σ vs).set j (some x)) vs = wipe σ vs) (he : ∀ i x, xs[i]? = some x → Gives te ((wipe σ vs).set j (some x)) H1 (M i))
    (hd : ∀ (ys : List V) H', ys.length = xs.length → Ex H1 H' → H' D = some (.lst ys) → (∀ (k : Nat) (v : V), ys[k]? = some v → M k v H') → Qd H') :
    ∃ W : Nat → Nat → Hp → Prop, (∃ m, W 0 m (upd H1 D (.lst []))) ∧ ∀ i m H, W i m H →
      ((Itl K a).stop i H ∧ Qd H) ∨ ((Itl K a).go i H ∧ ∃ Nx : Hp → Prop, (∀ H', Nx H' → ∃ m', m' < m ∧ W (i + 1) m' H') ∧ ∀ x H', (Itl K a).yld i H x H' → gName j x (wipe σ vs) H' fun σ2 H2 => wipe σ2 vs = wipe σ vs ∧ tYes σ2 H2 fun b H3 =>
        if b = true then te σ2 H3 fun y H4 => ∃ acc, H4 D = some (.lst acc) ∧ acc.length < sizeLine ∧ Nx (upd H4 D (.lst (acc ++ [y]))) else Nx H3) :=
  lc_list (xs := xs) (fun i H' => ∃ zs : List V, zs.length = i ∧ Ex H1 H' ∧ H' D = some (.lst zs) ∧ ∀ (k : Nat) (v : V), zs[k]? = some v → M k v H') ⟨[], rfl, Evl.Ex.new hD, upd_same, fun k v z => by simp at z⟩
    (fun i H' _ ⟨_, _, e, _⟩ => Evl.ex_l e hx) (fun i x H' hi ⟨zs, hl, e, hy, hm⟩ => by
      have lt := (List.getElem?_eq_some_iff.mp hi).1
      exact ⟨hw x, yesT (made_turn hD st e hy hl (by omega) hm (he i x hi))⟩)
    (fun H' ⟨zs, hl, e, hy, hm⟩ => hd zs H' hl e hy hm)
/-- [e for x in a tuple] -/
theorem made_tup (M : Nat → V → Hp → Prop) (hD : H1 D = none) (hx : SqT K H1 a xs) (hn : xs.length < 100000) (st : ∀ i v G G', Ex H1 G → Ex H1 G' → Exl G G' → M i v G → M i v G')
    (hw : ∀ x, wipe ((wipe σ vs).set j (some x)) vs = wipe σ vs) (he : ∀ i x, xs[i]? = some x → Gives te ((wipe σ vs).set j (some x)) H1 (M i))
    (hd : ∀ (ys : List V) H', ys.length = xs.length → Ex H1 H' → H' D = some (.lst ys) → (∀ (k : Nat) (v : V), ys[k]? = some v → M k v H') → Qd H') :
    ∃ W : Nat → Nat → Hp → Prop, (∃ m, W 0 m (upd H1 D (.lst []))) ∧ ∀ i m H, W i m H →
      ((Itt K a).stop i H ∧ Qd H) ∨ ((Itt K a).go i H ∧ ∃ Nx : Hp → Prop, (∀ H', Nx H' → ∃ m', m' < m ∧ W (i + 1) m' H') ∧ ∀ x H', (Itt K a).yld i H x H' → gName j x (wipe σ vs) H' fun σ2 H2 => wipe σ2 vs = wipe σ vs ∧ tYes σ2 H2 fun b H3 =>
        if b = true then te σ2 H3 fun y H4 => ∃ acc, H4 D = some (.lst acc) ∧ acc.length < sizeLine ∧ Nx (upd H4 D (.lst (acc ++ [y]))) else Nx H3) :=
  lc_tup (xs := xs) (fun i H' => ∃ zs : List V, zs.length = i ∧ Ex H1 H' ∧ H' D = some (.lst zs) ∧ ∀ (k : Nat) (v : V), zs[k]? = some v → M k v H') ⟨[], rfl, Evl.Ex.new hD, upd_same, fun k v z => by simp at z⟩
    (fun i H' _ ⟨_, _, e, _⟩ => Evl.ex_t e hx) (fun i x H' hi ⟨zs, hl, e, hy, hm⟩ => by
      have lt := (List.getElem?_eq_some_iff.mp hi).1
      exact ⟨hw x, yesT (made_turn hD st e hy hl (by omega) hm (he i x hi))⟩)
    (fun H' ⟨zs, hl, e, hy, hm⟩ => hd zs H' hl e hy hm)
/-- [e for k in range(n)] -/
theorem made_range {n : Nat} (M : Nat → V → Hp → Prop) (hD : H1 D = none) (hn : n < 100000) (st : ∀ i v G G', Ex H1 G → Ex H1 G' → Exl G G' → M i v G → M i v G')
    (hw : ∀ x, wipe ((wipe σ vs).set j (some x)) vs = wipe σ vs) (he : ∀ i : Nat, i < n → Gives te ((wipe σ vs).set j (some (.int (i : Int)))) H1 (M i))
    (hd : ∀ (ys : List V) H', ys.length = n → Ex H1 H' → H' D = some (.lst ys) → (∀ (k : Nat) (v : V), ys[k]? = some v → M k v H') → Qd H') :
    ∃ W : Nat → Nat → Hp → Prop, (∃ m, W 0 m (upd H1 D (.lst []))) ∧ ∀ i m H, W i m H →
      ((Itr 0 n).stop i H ∧ Qd H) ∨ ((Itr 0 n).go i H ∧ ∃ Nx : Hp → Prop, (∀ H', Nx H' → ∃ m', m' < m ∧ W (i + 1) m' H') ∧ ∀ x H', (Itr 0 n).yld i H x H' → gName j x (wipe σ vs) H' fun σ2 H2 => wipe σ2 vs = wipe σ vs ∧ tYes σ2 H2 fun b H3 =>
        if b = true then te σ2 H3 fun y H4 => ∃ acc, H4 D = some (.lst acc) ∧ acc.length < sizeLine ∧ Nx (upd H4 D (.lst (acc ++ [y]))) else Nx H3) :=
  lc_range (lo := 0) (n := n) (fun i H' => ∃ zs : List V, zs.length = i ∧ Ex H1 H' ∧ H' D = some (.lst zs) ∧ ∀ (k : Nat) (v : V), zs[k]? = some v → M k v H') ⟨[], rfl, Evl.Ex.new hD, upd_same, fun k v z => by simp at z⟩
    (fun i H' hi ⟨zs, hl, e, hy, hm⟩ => by
      have g := made_turn hD st e hy hl (by omega) hm (he i hi)
      have e0 : (0 : Int) + (i : Int) = (i : Int) := Int.zero_add _
      show wipe ((wipe σ vs).set j (some (.int (0 + (i : Int))))) vs = wipe σ vs ∧ tYes ((wipe σ vs).set j (some (.int (0 + (i : Int))))) H' _
      rw [e0]
      exact ⟨hw _, yesT g⟩)
    (fun H' ⟨zs, hl, e, hy, hm⟩ => hd zs H' hl e hy hm)
end
/-! ### tuples cut and joined: some tuple of that content, new or old -/
section
variable {K : PySem.W.Frag} {H : Hp} {a b : Addr} {xs ys : List V} {Q : VK}
theorem cut_whole {lo hi : Option Int} (h : HT.sIx xs.length 0 lo = 0 ∧ HT.sIx xs.length xs.length hi = xs.length) : cutV xs lo hi = xs := by
  unfold cutV
  rw [h.1, h.2]
  simp
theorem sl_at {lo hi : Option Int} (h : H a = some (.tup xs)) (k : ∀ b H', Ex H H' → H' b = some (.tup (cutV xs lo hi)) → Q (.ref b) H') : rSlA K (.ref a) lo hi H Q :=
  ⟨a, xs, rfl, SqT.of h, fun w => k a H (Evl.Ex.refl H) (by rw [cut_whole w]; exact h), fun _ p hp => k p _ (Evl.Ex.new hp) upd_same⟩
theorem cat_at (h1 : H a = some (.tup xs)) (h2 : H b = some (.tup ys)) (hl : xs.length + ys.length ≤ 100000) (k : ∀ p H', Ex H H' → H' p = some (.tup (xs ++ ys)) → Q (.ref p) H') : rCatA K (.ref a) (.ref b) H Q :=
  ⟨a, b, xs, ys, rfl, rfl, SqT.of h1, SqT.of h2, Evl.sz_of hl, fun z => k b H (Evl.Ex.refl H) (by subst z; exact h2), fun _ z => k a H (Evl.Ex.refl H) (by subst z; rw [List.append_nil]; exact h1), fun _ _ p hp => k p _ (Evl.Ex.new hp) upd_same⟩
end
theorem cut_from {xs : List V} {k : Nat} : cutV xs (some (k : Int)) none = xs.drop k := by
  unfold cutV
  rw [HT.sIx_none, HT.sIx_nat]
  by_cases h : k ≤ xs.length
  · rw [Nat.min_eq_left h, List.take_of_length_le (by simp)]
  · rw [Nat.min_eq_right (by omega), List.drop_of_length_le (Nat.le_refl _), List.drop_of_length_le (by omega)]
    simp
theorem cut_to {xs : List V} {k : Nat} : cutV xs none (some (k : Int)) = xs.take k := by
  unfold cutV
  rw [HT.sIx_none, HT.sIx_nat]
  by_cases h : k ≤ xs.length
  · rw [Nat.min_eq_left h]
    simp
  · rw [Nat.min_eq_right (by omega)]
    simp [List.take_of_length_le (show xs.length ≤ k by omega)]
/-! ### [x for x in a tuple if ..] -/
section
variable {K : PySem.W.Frag} {a : Addr} {xs : List V} {tt : TT} {te : TE} {vs : List Nat} {σ : L2.St} {H1 : Hp} {D : Addr} {Qd : Hp → Prop} {j : Nat}
theorem filt_tup (f : V → Bool) (hD : H1 D = none) (hx : SqT K H1 a xs) (hn : xs.length < 100000) (hw : ∀ x, wipe ((wipe σ vs).set j (some x)) vs = wipe σ vs)
    (ht : ∀ x H', x ∈ xs → Ex H1 H' → ∀ Q : Bool → Hp → Prop, Q (f x) H' → tt ((wipe σ vs).set j (some x)) H' Q) (he : ∀ x H', Ex H1 H' → ∀ Q : VK, Q x H' → te ((wipe σ vs).set j (some x)) H' Q)
    (hd : ∀ H', Ex H1 H' → H' D = some (.lst (xs.filter f)) → Qd H') :
    ∃ W : Nat → Nat → Hp → Prop, (∃ m, W 0 m (upd H1 D (.lst []))) ∧ ∀ i m H, W i m H →
      ((Itt K a).stop i H ∧ Qd H) ∨ ((Itt K a).go i H ∧ ∃ Nx : Hp → Prop, (∀ H', Nx H' → ∃ m', m' < m ∧ W (i + 1) m' H') ∧ ∀ x H', (Itt K a).yld i H x H' → gName j x (wipe σ vs) H' fun σ2 H2 => wipe σ2 vs = wipe σ vs ∧ tt σ2 H2 fun b H3 =>
        if b = true then te σ2 H3 fun y H4 => ∃ acc, H4 D = some (.lst acc) ∧ acc.length < sizeLine ∧ Nx (upd H4 D (.lst (acc ++ [y]))) else Nx H3) := by
  refine lc_tup (xs := xs) (fun i H' => Ex H1 H' ∧ H' D = some (.lst ((xs.take i).filter f)) ∧ i ≤ xs.length) ⟨Evl.Ex.new hD, by simp [upd_same], Nat.zero_le _⟩ (fun i H' _ h => Evl.ex_t h.1 hx) ?_ ?_
  · rintro i x H' hi ⟨e, hy, hle⟩
    have lt := (List.getElem?_eq_some_iff.mp hi).1
    have hxm : x ∈ xs := List.mem_of_getElem? hi
    have step : xs.take (i + 1) = xs.take i ++ [x] := by
      rw [List.take_succ, hi]
      rfl
    refine ⟨hw x, ht x H' hxm e _ ?_⟩
    cases hf : f x with
    | true =>
      refine iteT (he x H' e _ ⟨_, hy, ?_, Evl.Ex.mut e hD, ?_, lt⟩)
      · refine Nat.lt_of_le_of_lt (List.length_filter_le _ _) (Evl.sz_lt ?_)
        rw [List.length_take]
        omega
      · rw [upd_same, step, List.filter_append]
        simp [hf]
    | false =>
      refine iteF ⟨e, ?_, lt⟩
      rw [hy, step, List.filter_append]
      simp [hf]
  · rintro H' ⟨e, hy, _⟩
    rw [List.take_of_length_le (Nat.le_refl _)] at hy
    exact hd H' e hy
end
end Lr

namespace Lr
open PySem L2
def topS (i : Nat) : Stmt := PySem.Challenge.pw_lanerules_k02_rules_and_rows_judged.main.body.getD i (.Pass ⟨0, 0, 0, 0⟩)
abbrev sRoll : Stmt := topS 14
abbrev nRoll : List Str := ["_law_can", "_law_many", "_law_rest", "_law_times", "_law_cells", "_law_seed"]
theorem scRoll : FnScope nRoll ["_law_can", "_law_many"] (defScope sRoll) :=
  ⟨rfl, rfl, rfl, by decide +kernel, rfl, by decide +kernel, by decide +kernel⟩
section
variable {H : Hp} {c d a : Addr} {t t' : Int}
theorem val_deep : valV (canKvs d a t) (Sum.inr "deep" : Key) = some (.ref d) := by
  simp [valV, canKvs]
theorem val_all : valV (canKvs d a t) (Sum.inr "all" : Key) = some (.ref a) := by
  have e : ¬ ((Sum.inr "deep" : Key) = (Sum.inr "all" : Key)) := by decide
  simp [valV, canKvs, List.find?, e]
theorem val_times : valV (canKvs d a t) (Sum.inr "times" : Key) = some (.int t) := by
  have e : ¬ ((Sum.inr "deep" : Key) = (Sum.inr "times" : Key)) := by decide
  have e2 : ¬ ((Sum.inr "all" : Key) = (Sum.inr "times" : Key)) := by decide
  simp [valV, canKvs, List.find?, e, e2]
theorem put_times : putK (canKvs d a t) (Sum.inr "times" : Key) (.int t') = canKvs d a t' := by
  have e : ¬ ((Sum.inr "deep" : Key) = (Sum.inr "times" : Key)) := by decide
  have e2 : ¬ ((Sum.inr "all" : Key) = (Sum.inr "times" : Key)) := by decide
  simp [putK, canKvs, e, e2]
theorem merge_can : mergeK [] (canKvs d a t) = canKvs d a t := by
  have e : ¬ ((Sum.inr "deep" : Key) = (Sum.inr "times" : Key)) := by decide
  have e1 : ¬ ((Sum.inr "deep" : Key) = (Sum.inr "all" : Key)) := by decide
  have e2 : ¬ ((Sum.inr "all" : Key) = (Sum.inr "times" : Key)) := by decide
  simp [mergeK, putK, canKvs, e, e1, e2]
theorem get_deep (h : H c = some (.dK (canKvs d a t))) : DGet H c (.str "deep") (some (.ref d)) := by
  have g := DGet.k (k := Sum.inr "deep") h
  rw [val_deep] at g
  exact g
theorem get_all (h : H c = some (.dK (canKvs d a t))) : DGet H c (.str "all") (some (.ref a)) := by
  have g := DGet.k (k := Sum.inr "all") h
  rw [val_all] at g
  exact g
theorem get_times (h : H c = some (.dK (canKvs d a t))) : DGet H c (.str "times") (some (.int t)) := by
  have g := DGet.k (k := Sum.inr "times") h
  rw [val_times] at g
  exact g
theorem put_time (h : H c = some (.dK (canKvs d a t))) : DPut H c (.str "times") (.int t') (upd H c (.dK (canKvs d a t'))) := by
  have g := DPut.k (k := Sum.inr "times") (v := .int t') h (by show 3 < sizeLine; decide)
  rw [put_times] at g
  exact g
end
/-- data: a list of ints -/
theorem dp_ints (K : PySem.W.Frag) (H : Hp) : ∀ ds : List Int, DpAll K H (ds.map V.int) (ds.map PyData.int)
  | [] => .nil
  | x :: r => .cons (.int x) (dp_ints K H r)
theorem lay_ints : ∀ ds : List Int, PyData.canLayAll0 (ds.map PyData.int) = true
  | [] => by simp [PyData.canLayAll0]
  | x :: r => by simp [PyData.canLayAll0, PyData.canLay0, lay_ints r]
theorem depth_ints : ∀ ds : List Int, PyData.depthAll (ds.map PyData.int) ≤ 1
  | [] => by simp [PyData.depthAll]
  | x :: r => by
    have := depth_ints r
    simp [PyData.depthAll, PyData.depth]
    omega
theorem shaped_ints (ds : List Int) : SeqAt.shaped (.list (ds.map PyData.int)) = true := by
  have h1 := depth_ints ds
  have h2 : (PyData.list (ds.map PyData.int)).depth ≤ 64 := by
    simp only [PyData.depth]
    omega
  have h3 : (PyData.list (ds.map PyData.int)).canLay0 = true := by
    simp only [PyData.canLay0]
    exact lay_ints ds
  unfold SeqAt.shaped
  rw [h3, decide_eq_true h2]
  rfl
theorem eqv_nil (ds : List Int) : PyData.eqv (.list (ds.map .int)) (.list []) = ds.isEmpty := by
  cases ds <;> simp [PyData.eqv, PyData.eqvAll]
section
variable {P : Program} {w : World} {K : PySem.W.Frag} {mg : Str → Option Value} {base : Heap}
def spRoll (P : Program) (w : World) : Sp := fun vs H Q _ => ∃ c m, vs = [.ref c, .int m] ∧ Can P w H c ∧ 0 < m ∧ m < 1000000 ∧ ∀ r H', Ex H H' → 0 ≤ r → r < m → Q (.int r) H'
theorem ok_roll {f : Addr} {fd : FuncData} (F : Fun K "_law_roll" "_law_roll" sRoll f fd) (ml : mg "len" = none) : FnOk P w K mg base CX0 1 f fd ["_law_can", "_law_many"] (spRoll P w) := by
  refine F.ok scRoll (fun vs H Q E h => ?_) (fun cdv A outer s H vs Q E hr h => ?_)
  · obtain ⟨c, m, rfl, _⟩ := h
    rfl
  obtain ⟨c, m, rfl, C, hm, hm2, k⟩ := h
  have hu := hu_of hr
  refine ⟨_, pss_drawer (pss_cons (ps_while PassesOwn.never (pt_cmpR (op_neD hr.units) (pe_dget hu (pv 0) pe_str (fun _ _ => rfl)) (pe_lst pa_nil) (nomark _))
      (pss_cons (ps_set (i := 2) scRoll.nd rfl (.inl rfl) (pe_bm PySem.F.plainAttrs_list PySem.F.slot_list_pop PySem.F.type_list_pop mt_popAt (pe_dget hu (pv 0) pe_str (fun _ _ => rfl)) (pa_cons pe_int pa_nil)))
      (pss_one (ps_if (pt_cmpR op_gt (pv 2) pe_int (nomark _))
        (pss_cons (ps_expr (pe_bm PySem.F.plainAttrs_list PySem.F.slot_list_insert PySem.F.type_list_insert mt_insert (pe_dget hu (pv 0) pe_str (fun _ _ => rfl)) (pa_cons pe_int (pa_cons (pe_op op_fdivW (pv 2) (pv 1)) pa_nil))))
        (pss_one (ps_ret (pe_op op_modN (pv 2) (pv 1))))) pss_nil))))
    (pss_cons (ps_par rfl scRoll.nd (i := 3) (j := 4) rfl rfl (by decide) rfl rfl (pa_cons (pe_dget hu (pv 0) pe_str (fun _ _ => rfl)) (pa_cons (pe_dget hu (pv 0) pe_str (fun _ _ => rfl)) pa_nil)) rfl)
    (pss_cons (ps_dput hu (pv 0) pe_str (pe_op op_add (pv 3) pe_int) rfl)
    (pss_cons (ps_set (i := 5) scRoll.nd rfl (.inl rfl) (pe_op op_add (pe_op op_modN (pe_ix ix_list (pv 4) (pe_op op_modN (pv 3) (pe_callB call_len_seq rfl ml PySem.boot_len (pa_cons (pv 4) pa_nil))) (fun _ _ => rfl)) pe_int) (pe_op op_mul pe_int (pe_op op_add (pv 3) pe_int))))
    (pss_cons (ps_set (i := 5) scRoll.nd rfl (.inl rfl) (pe_op op_modN (pe_op op_mul (pe_op op_modN (pv 5) pe_int) (pe_op op_add (pe_op op_modN (pv 5) pe_int) pe_int)) pe_int))
    (pss_cons (ps_set (i := 5) scRoll.nd rfl (.inl rfl) (pe_op op_modN (pe_op op_mul (pe_op op_modN (pe_op op_add (pe_op op_mul (pv 5) (pv 5)) (pe_op op_mul pe_int (pv 3))) pe_int) pe_int) pe_int))
    (pss_one (ps_ret (pe_op op_modN (pe_op op_fdivW (pv 5) pe_int) (pv 1)))))))))), ?_⟩
  obtain ⟨d, a, cs, h1, h2, h3, h4, h5, hcd⟩ := C
  refine ⟨c, d, a, h1, h2, hcd, fun tm ds g => ?_⟩
  have nac : a ≠ c := ne_of h3 h1 (by intro z; cases z)
  have nad : a ≠ d := ne_of h3 h2 (by intro z; cases z)
  -- what stays while the drawer is open
  have back : ∀ H1 : Hp, (∀ b o, b ≠ c → b ≠ d → H b = some o → H1 b = some o) → Ex H (upd (upd H1 c (.ext (phiC P w c d a))) d (.ext (phiD P w d))) := fun H1 o b u e => by
    by_cases hb : b = d
    · subst hb
      rw [upd_same, ← h2]
      exact e
    · rw [upd_ne hb]
      by_cases hc : b = c
      · subst hc
        rw [upd_same, ← h1]
        exact e
      · rw [upd_ne hc]
        exact o b u hc hb e
  -- while can['deep'] != []
  refine ⟨fun n σ H' => ∃ ds rv, n = ds.length ∧ σ = [some (.ref c), some (.int m), rv, none, none, none] ∧ H' c = some (.dK (canKvs d a tm)) ∧ H' d = some (.lst (ds.map V.int)) ∧ DeepOk ds ∧
      ∀ b o, b ≠ c → b ≠ d → H b = some o → H' b = some o,
    ⟨_, ds, none, rfl, rfl, by rw [upd_ne hcd.symm, upd_same], upd_same, g, fun b o n1 n2 e => by rw [upd_ne n2, upd_ne n1]; exact e⟩, ?_⟩
  rintro n σ H' ⟨ds, rv, rfl, rfl, e1, e2, g, o⟩
  refine ⟨_, rfl, c, _, rfl, get_deep e1, (by show 0 ≤ sizeLine; decide), fun p hp => ?_⟩
  have npc : c ≠ p := ne_of_none e1 hp
  have npd : d ≠ p := ne_of_none e2 hp
  have q1 : upd H' p (.lst []) c = some (.dK (canKvs d a tm)) := by rw [upd_ne npc]; exact e1
  have q2 : upd H' p (.lst []) d = some (.lst (ds.map V.int)) := by rw [upd_ne npd]; exact e2
  have o1 : ∀ b o, b ≠ c → b ≠ d → H b = some o → upd H' p (.lst []) b = some o := fun b u n1 n2 e => by
    rw [upd_ne (ne_of_none (o b u n1 n2 e) hp)]
    exact o b u n1 n2 e
  have q3 : upd H' p (.lst []) p = some (.lst []) := upd_same
  generalize upd H' p (.lst []) = G at q1 q2 q3 o1 ⊢
  refine ⟨.list (ds.map .int), .list [], .lst (SqL.of q2) (dp_ints _ _ ds), .lst (SqL.of q3) .nil, shaped_ints ds, shaped_ints [], _, rfl, ?_⟩
  rw [eqv_nil]
  cases ds with
  | cons x r =>
    refine iteT ⟨_, fun σ' H' h => h, ?_⟩
    have gx : 0 ≤ x := g.1 x (by simp)
    have gr : DeepOk r := ⟨fun y hy => g.1 y (by simp [hy]), by have := g.2; simp at this; omega⟩
    -- rest = can['deep'].pop(0)
    refine ⟨_, rfl, c, _, rfl, get_deep q1, .inl ⟨rfl, _, SqL.of q2⟩, d, _, 0, 0, .int x, rfl, rfl, q2, by decide, by decide, by simp [seqIndex?], rfl, ?_⟩
    have p1 : upd G d (.lst (r.map V.int)) c = some (.dK (canKvs d a tm)) := by rw [upd_ne hcd.symm]; exact q1
    have p2 : upd G d (.lst (r.map V.int)) d = some (.lst (r.map V.int)) := upd_same
    have p3 : ∀ b o, b ≠ c → b ≠ d → H b = some o → upd G d (.lst (r.map V.int)) b = some o := fun b u n1 n2 e => by rw [upd_ne n2]; exact o1 b u n1 n2 e
    have eG : (HO.lst ((List.map V.int (x :: r)).eraseIdx 0)) = .lst (r.map V.int) := rfl
    rw [eG]
    generalize upd G d (.lst (r.map V.int)) = G2 at p1 p2 p3 ⊢
    -- if rest > 0
    refine ⟨_, rfl, _, _, rfl, rfl, _, rfl, ?_⟩
    refine ite2 (fun _ => ?_) (fun _ => ?_)
    · refine ⟨_, rfl, c, _, rfl, get_deep p1, .inl ⟨rfl, _, SqL.of p2⟩, _, rfl, _, rfl, _, _, rfl, rfl, wide_div hm (b := 20) (by omega) (by decide) (by decide), d, _, 0, _, rfl, rfl, p2, ?_, by decide, by decide, ?_⟩
      · rw [List.length_map]
        exact Nat.lt_of_le_of_lt gr.2 (by decide)
      refine ⟨_, rfl, _, rfl, _, _, rfl, rfl, by omega, tm, (x / m) :: r, ?_, upd_same, ?_, k _ _ (back _ ?_) (Int.fmod_nonneg_of_pos _ hm) (Int.fmod_lt_of_pos _ hm)⟩
      · rw [upd_ne hcd.symm]; exact p1
      · refine ⟨fun y hy => ?_, by have := g.2; simpa using this⟩
        rcases List.mem_cons.mp hy with rfl | hy
        · exact Int.ediv_nonneg gx (by omega)
        · exact gr.1 y hy
      · intro b u n1 n2 e
        rw [upd_ne n2]
        exact p3 b u n1 n2 e
    · exact ⟨_, by simp, r, _, rfl, rfl, p1, p2, gr, p3⟩
  | nil =>
    refine iteF ?_
    -- times, cells = can['times'], can['all']
    refine ⟨_, rfl, c, _, rfl, get_times q1, _, rfl, c, _, rfl, get_all q1, _, _, rfl, ?_⟩
    -- can['times'] = times + 1
    refine ⟨_, rfl, _, _, rfl, rfl, _, rfl, c, _, rfl, put_time q1, ?_⟩
    have p1 : upd G c (.dK (canKvs d a (tm + 1))) c = some (.dK (canKvs d a (tm + 1))) := upd_same
    have p2 : upd G c (.dK (canKvs d a (tm + 1))) d = some (.lst (([] : List Int).map V.int)) := by rw [upd_ne hcd]; exact q2
    have p3 : ∀ b o, b ≠ c → b ≠ d → H b = some o → upd G c (.dK (canKvs d a (tm + 1))) b = some o := fun b u n1 n2 e => by rw [upd_ne n1]; exact o1 b u n1 n2 e
    generalize upd G c (.dK (canKvs d a (tm + 1))) = G2 at p1 p2 p3 ⊢
    have pa : SqL K G2 a (cs.map V.int) := SqL.of (p3 a _ nac nad h3)
    have hl : 0 < cs.length := List.length_pos_iff.mpr h4
    have hl0 : ((cs.map V.int).length : Int) ≠ 0 := by rw [List.length_map]; omega
    obtain ⟨z, hz⟩ : ∃ z, atI (cs.map V.int) (tm.fmod ((cs.map V.int).length : Int)) = some (.int z) := by
      have b0 := Int.fmod_nonneg_of_pos tm (b := ((cs.map V.int).length : Int)) (by rw [List.length_map]; omega)
      have b1 := Int.fmod_lt_of_pos tm (b := ((cs.map V.int).length : Int)) (by rw [List.length_map]; omega)
      generalize tm.fmod ((cs.map V.int).length : Int) = j at b0 b1 ⊢
      rw [List.length_map] at b1
      have hj : j.toNat < cs.length := by omega
      have ej : j = ((j.toNat : Nat) : Int) := by omega
      rw [ej]
      exact ⟨cs[j.toNat], atI_nat (by rw [List.getElem?_map, List.getElem?_eq_getElem hj]; rfl)⟩
    -- the three seeds
    have nz1 : (2971215073 : Int) ≠ 0 := by decide
    have nz2 : (63029 : Int) ≠ 0 := by decide
    have big : ∀ y : Int, 0 ≤ y.fmod 2971215073 ∧ y.fmod 2971215073 < 2971215073 := fun y => ⟨Int.fmod_nonneg_of_pos _ (by decide), Int.fmod_lt_of_pos _ (by decide)⟩
    have mulOk : ∀ y z : Int, CMul (y.fmod 2971215073) z := fun y z => .inl (by have := big y; omega)
    refine ⟨_, rfl, _, rfl, _, rfl, a, _, rfl, .inl pa, _, _, rfl, rfl, hl0, a, _, _, _, rfl, rfl, pa, hz, _, _, rfl, rfl, nz1, _, rfl, _, _, rfl, rfl, _, _, rfl, rfl, .inl (by decide), _, _, rfl, rfl, ?_⟩
    refine ⟨_, rfl, _, _, rfl, rfl, nz1, _, rfl, _, _, rfl, rfl, nz2, _, _, rfl, rfl, _, _, rfl, rfl, mulOk _ _, _, _, rfl, rfl, nz1, ?_⟩
    refine ⟨_, rfl, _, rfl, _, _, rfl, rfl, mulOk _ _, _, rfl, _, _, rfl, rfl, .inl (by decide), _, _, rfl, rfl, _, _, rfl, rfl, nz1, _, _, rfl, rfl, mulOk _ _, _, _, rfl, rfl, nz1, ?_⟩
    refine ⟨_, rfl, _, _, rfl, rfl, wide_div (by decide) (b := 20) (by decide) (by decide) (by decide), _, rfl, _, _, rfl, rfl, by omega, tm + 1, [], p1, p2, ⟨fun y hy => (nomatch hy), by decide⟩, ?_⟩
    exact k _ _ (back _ p3) (Int.fmod_nonneg_of_pos _ hm) (Int.fmod_lt_of_pos _ hm)
end
end Lr

namespace Lr
open PySem L2
abbrev sOpened : Stmt := topS 13
abbrev nOpened : List Str := ["_law_script", "_law_cells", "_law_cell"]
theorem scOpened : FnScope nOpened ["_law_script"] (defScope sOpened) :=
  ⟨rfl, rfl, rfl, by decide +kernel, rfl, by decide +kernel, by decide +kernel⟩
abbrev sOne : Stmt := topS 15
abbrev nOne : List Str := ["_law_can", "_law_items"]
theorem scOne : FnScope nOne ["_law_can", "_law_items"] (defScope sOne) :=
  ⟨rfl, rfl, rfl, by decide +kernel, rfl, by decide +kernel, by decide +kernel⟩
abbrev sMixed : Stmt := topS 16
abbrev nMixed : List Str := ["_law_can", "_law_many", "_law_rest", "_law_found"]
theorem scMixed : FnScope nMixed ["_law_can", "_law_many"] (defScope sMixed) :=
  ⟨rfl, rfl, rfl, by decide +kernel, rfl, by decide +kernel, by decide +kernel⟩
section
variable {P : Program} {w : World} {K : PySem.W.Frag} {mg : Str → Option Value} {base : Heap}
def spOne (P : Program) (w : World) : Sp := fun vs H Q _ => ∃ c l xs, vs = [.ref c, .ref l] ∧ Can P w H c ∧ H l = some (.lst xs) ∧ 0 < xs.length ∧ xs.length < 100000 ∧ ∀ v H', Ex H H' → v ∈ xs → Q v H'
theorem ok_one {f : Addr} {fd : FuncData} (F : Fun K "_law_one" "_law_one" sOne f fd) (T : Blt mg) (c_law_roll : Cal P w K mg base 1 "_law_roll" ["_law_can", "_law_many"] (spRoll P w)) :
    FnOk P w K mg base CX0 2 f fd ["_law_can", "_law_items"] (spOne P w) := by
  refine F.ok scOne (fun vs H Q E h => ?_) (fun cdv A outer s H vs Q E hr h => ?_)
  · obtain ⟨c, l, xs, rfl, _⟩ := h
    rfl
  obtain ⟨c, l, xs, rfl, C, hl, h0, h1, k⟩ := h
  refine ⟨_, (pss_one (ps_ret (pe_ix (kx_list (K := K) rfl) (pv 1) (pe_cal c_law_roll (hr.mono (by decide)) rfl (pa_cons (pv 0) (pa_cons (pe_callB (k_len (K := K) rfl) rfl T.len bt_len (pa_cons (pv 1) pa_nil)) pa_nil))) (fun _ _ => rfl)))), ?_⟩
  refine ⟨_, rfl, _, rfl, _, rfl, l, xs, rfl, .inl (SqL.of hl), c, _, rfl, C, by omega, by omega, fun r H' e r0 r1 => ?_⟩
  obtain ⟨v, hv, ha, _⟩ := at_in r0 r1
  exact ⟨l, xs, r, v, rfl, rfl, SqL.of (e _ _ hl), ha, k _ H' e hv⟩
def spOpened (P : Program) (w : World) (K : PySem.W.Frag) : Sp := fun vs H Q _ => ∃ (a : Addr) (ns : List Int), vs = [.ref a] ∧ SqL K H a (ns.map V.int) ∧ ns.length ≤ 63 ∧ ∀ c H', Ex H H' → Can P w H' c → Q (.ref c) H'
theorem ok_opened {f : Addr} {fd : FuncData} (F : Fun K "_law_opened" "_law_opened" sOpened f fd) (T : Blt mg) : FnOk P w K mg base CX0 1 f fd ["_law_script"] (spOpened P w K) := by
  refine F.ok scOpened (fun vs H Q E h => ?_) (fun cdv A outer s H vs Q E hr h => ?_)
  · obtain ⟨a, ns, rfl, _⟩ := h
    rfl
  obtain ⟨a, ns, rfl, hS, hlen, k⟩ := h
  refine ⟨_, pss_shut (pss_cons (ps_setLc (i := 1) (own := [("_law_cell", 2)]) (g := gName 2) (by rfl) scOpened.nd rfl rfl (sw_true rfl rfl rfl (by decide +kernel)) (ki_list (K := K) rfl (pe_slice (ks_list (K := K) rfl) (pv 0) po_none (po_some pe_int))) (blkOk_by (own := [("_law_cell", 2)]) (N := nOpened) (sc := defScope sOpened) (by decide +kernel)) (fun _ _ _ _ _ => (pg_name (i := 2) scOpened.nd rfl (Or.inl rfl))) (fun _ _ _ _ _ => pts_nil) (fun _ _ _ _ _ => (pe_callB call_abs rfl T.abs bt_abs (pa_cons (pv 2) pa_nil))))
    (pss_one (ps_ret (pe_disp (pps_cons pe_str (pe_lc (own := [("_law_cell", 2)]) (g := gName 2)  (by rfl) scOpened.nd (ki_list (K := K) rfl (pv 1)) (blkOk_by (own := [("_law_cell", 2)]) (N := nOpened) (sc := defScope sOpened) (by decide +kernel)) (fun _ _ _ _ _ => (pg_name (i := 2) scOpened.nd rfl (Or.inl rfl))) (fun _ _ _ _ _ => pts_one (pt_cmpR op_ge (pv 2) (pe_op op_pow pe_int pe_int) (nomark _))) (fun _ _ _ _ _ => (pv 2))) (pps_cons pe_str (pe_op op_cat (pv 1) (pe_op op_rep (pe_lst (pa_cons pe_int pa_nil)) (pe_callTy call_int1 rfl T.int bt_int (pa_cons (pe_cmpR (ko_eqD (K := K) rfl hr.units) (pv 1) (pe_lst pa_nil) (nomark _)) pa_nil)))) (pps_cons pe_str pe_int pps_nil))) (by rfl) (by rfl) (fun z => by cases z) (by decide))))), ?_⟩
  have c63 : cutV (ns.map V.int) none (some 63) = ns.map V.int := cut_all (n := 63) (by rw [List.length_map]; exact hlen)
  -- cells = [abs(cell) for cell in script[:63]]
  refine ⟨_, rfl, _, rfl, a, _, rfl, hS, fun p hp => ?_⟩
  rw [c63]
  refine ⟨p, rfl, ⟨_, SqL.of upd_same⟩, fun D hD => made_list (fun _ v _ => ∃ z, v = .int z) hD (SqL.of upd_same) (by rw [List.length_map]; omega) (fun _ _ _ _ _ _ _ m => m) (fun _ => rfl) ?_ ?_⟩
  · intro i x hi H' _ Q1 q
    rw [List.getElem?_map] at hi
    cases e2 : ns[i]? with
    | none => rw [e2] at hi; cases hi
    | some z =>
      rw [e2] at hi
      cases hi
      exact ⟨_, rfl, z, rfl, q _ H' (Evl.Ex.refl _) ⟨_, rfl⟩⟩
  intro ys H1 hy e1 h1 hm
  rw [List.length_map] at hy
  obtain ⟨cs, rfl⟩ : ∃ cs : List Int, ys = cs.map V.int := ints_of fun k v hk => hm k v hk
  rw [List.length_map] at hy
  have nD : H D = none := Evl.fresh_back (Evl.Ex.new hp) hD
  have e0 : Ex H H1 := (Evl.Ex.new hp).trans e1
  -- {'deep': [cell for cell in cells if cell >= 10 ** 18], ..
  intro c hc
  have ncD : D ≠ c := ne_of_none h1 hc
  refine ⟨_, rfl, D, rfl, ⟨_, SqL.of (by rw [upd_ne ncD]; exact h1)⟩, fun d hd => ?_⟩
  have ndc : d ≠ c := by
    intro z
    rw [z, upd_same] at hd
    cases hd
  have nd1 : H1 d = none := by rw [upd_ne ndc] at hd; exact hd
  have nDd : D ≠ d := ne_of_none h1 nd1
  refine lc_list (K := K) (a := D) (xs := cs.map V.int) (fun i G => ∃ ds : List Int, ds.length ≤ i ∧ (∀ x ∈ ds, 0 ≤ x) ∧ G d = some (.lst (ds.map V.int)) ∧ Ex H1 G ∧ G c = some (.dK []) ∧ i ≤ 63)
    ⟨[], Nat.le_refl _, fun _ z => (nomatch z), upd_same, ?_, by rw [upd_ne ndc.symm, upd_same], by decide⟩ (fun i G _ ⟨_, _, _, _, e, _⟩ => SqL.of (e _ _ h1)) ?_ ?_
  · exact (Evl.Ex.new hc).trans (Evl.Ex.new hd)
  · rintro i x G hi ⟨ds, hl, hpos, g1, g2, g3, _⟩
    have hil := (List.getElem?_eq_some_iff.mp hi).1
    rw [List.length_map] at hil
    rw [List.getElem?_map] at hi
    cases e2 : cs[i]? with
    | none => rw [e2] at hi; cases hi
    | some z =>
      rw [e2] at hi
      cases hi
      refine ⟨rfl, _, rfl, _, _, rfl, rfl, ⟨by decide, by decide, by decide⟩, _, _, rfl, rfl, _, rfl, ?_⟩
      refine ite2 (fun hz => ?_) (fun _ => ?_)
      · have hz2 : (10 : Int) ^ (18 : Int).toNat ≤ z := of_decide_eq_true hz
        have hz3 : (0 : Int) ≤ (10 : Int) ^ (18 : Int).toNat := by decide
        refine ⟨_, rfl, _, g1, by rw [List.length_map]; exact Nat.lt_of_le_of_lt (by omega) (by decide : 63 < sizeLine), ds ++ [z], by simp; omega, ?_, by rw [upd_same, List.map_append]; rfl, Evl.Ex.mut g2 nd1, by rw [upd_ne ndc.symm]; exact g3, by omega⟩
        intro x hx
        rcases List.mem_append.mp hx with q | q
        · exact hpos x q
        · simp at q
          omega
      · exact ⟨ds, by omega, hpos, g1, g2, g3, by omega⟩
  rintro G ⟨ds, hl, hpos, g1, g2, g3, hle⟩
  rw [List.length_map] at hl hle
  have gD : G D = some (.lst (cs.map V.int)) := g2 _ _ h1
  -- 'all': cells + [61] * int(cells == [])
  refine ⟨_, rfl, (by show 1 ≤ sizeLine; decide), fun q hq => ⟨_, rfl, (by show 0 ≤ sizeLine; decide), fun r hr2 => ?_⟩⟩
  have nqr : q ≠ r := ne_of_none upd_same hr2
  have hDq : D ≠ q := ne_of_none gD hq
  have gD1 : upd G q (.lst [.int 61]) D = some (.lst (cs.map V.int)) := by rw [upd_ne hDq]; exact gD
  have hDr : D ≠ r := ne_of_none gD1 hr2
  have gD2 : upd (upd G q (.lst [.int 61])) r (.lst []) D = some (.lst (cs.map V.int)) := by rw [upd_ne hDr]; exact gD1
  have gq2 : upd (upd G q (.lst [.int 61])) r (.lst []) q = some (.lst [.int 61]) := by rw [upd_ne nqr]; exact upd_same
  have e2 : Ex G (upd (upd G q (.lst [.int 61])) r (.lst [])) := (Evl.Ex.new hq).trans (Evl.Ex.new hr2)
  have gr2 : upd (upd G q (.lst [.int 61])) r (.lst []) r = some (.lst []) := upd_same
  generalize upd (upd G q (.lst [.int 61])) r (.lst []) = G2 at gD2 gq2 gr2 e2 ⊢
  refine ⟨.list (cs.map .int), .list [], .lst (SqL.of gD2) (dp_ints _ _ cs), .lst (SqL.of gr2) .nil, shaped_ints cs, shaped_ints [], .inr ⟨_, rfl, q, _, _, rfl, rfl, gq2, ?_, ?_, ?_, fun u hu2 => ?_⟩⟩
  · split <;> decide
  · split <;> decide
  · rw [eqv_nil]
    cases cs
    · decide
    · exact Nat.zero_le _
  have nDu : D ≠ u := ne_of_none gD2 hu2
  refine ⟨D, u, _, _, rfl, rfl, by rw [upd_ne nDu]; exact gD2, upd_same, ?_, fun al hal => ?_⟩
  · rw [eqv_nil, List.length_map]
    cases cs with
    | nil => decide
    | cons y r => exact Nat.le_trans (by simp at hl hle ⊢; omega) (by decide : 63 ≤ sizeLine)
  have ecs : cs.map V.int ++ (List.replicate (if PyData.eqv (.list (cs.map .int)) (.list []) = true then (1 : Int) else 0).toNat [V.int 61]).flatten = (if cs.isEmpty then [61] else cs).map V.int := by
    rw [eqv_nil]
    cases cs <;> simp
  rw [ecs]
  have hcs : (if cs.isEmpty then [61] else cs) ≠ [] := by
    cases cs <;> simp
  have hcl : (if cs.isEmpty then [61] else cs).length ≤ 64 := by
    cases cs with
    | nil => decide
    | cons y r => simp at hy ⊢; omega
  generalize (if cs.isEmpty then [61] else cs) = ws at hcs hcl ⊢
  -- the dict's own place: nothing was written meanwhile
  have c2 : G2 c = some (.dK []) := e2 _ _ g3
  have ncu : c ≠ u := ne_of_none c2 hu2
  have d2 : G2 d = some (.lst (ds.map V.int)) := e2 _ _ g1
  have ndu : d ≠ u := ne_of_none d2 hu2
  have ncal : c ≠ al := ne_of_none (by rw [upd_ne ncu]; exact c2) hal
  have ndal : d ≠ al := ne_of_none (by rw [upd_ne ndu]; exact d2) hal
  have c3 : upd (upd G2 u (.lst (List.replicate (if PyData.eqv (.list (cs.map .int)) (.list []) = true then (1 : Int) else 0).toNat [V.int 61]).flatten)) al (.lst (ws.map V.int)) c = some (.dK []) := by
    rw [upd_ne ncal, upd_ne ncu]
    exact c2
  have d3 : upd (upd G2 u (.lst (List.replicate (if PyData.eqv (.list (cs.map .int)) (.list []) = true then (1 : Int) else 0).toNat [V.int 61]).flatten)) al (.lst (ws.map V.int)) d = some (.lst (ds.map V.int)) := by
    rw [upd_ne ndal, upd_ne ndu]
    exact d2
  have e3 : Ex H1 (upd (upd G2 u (.lst (List.replicate (if PyData.eqv (.list (cs.map .int)) (.list []) = true then (1 : Int) else 0).toNat [V.int 61]).flatten)) al (.lst (ws.map V.int))) :=
    ((g2.trans e2).trans (Evl.Ex.new hu2)).trans (Evl.Ex.new hal)
  have a3 : upd (upd G2 u (.lst (List.replicate (if PyData.eqv (.list (cs.map .int)) (.list []) = true then (1 : Int) else 0).toNat [V.int 61]).flatten)) al (.lst (ws.map V.int)) al = some (.lst (ws.map V.int)) := upd_same
  generalize upd (upd G2 u (.lst (List.replicate (if PyData.eqv (.list (cs.map .int)) (.list []) = true then (1 : Int) else 0).toNat [V.int 61]).flatten)) al (.lst (ws.map V.int)) = G3 at c3 d3 e3 a3 ⊢
  refine ⟨c3, canKvs d al 0, rfl, (by show 3 ≤ 15; decide), c, d, al, 0, ds, rfl, by rw [upd_same, merge_can], by rw [upd_ne ndc]; exact d3, ⟨hpos, by omega⟩, ndc, ?_⟩
  have nc1 : H1 c = none := hc
  have e4 : Ex H1 (upd (upd (upd G3 c (.dK (mergeK [] (canKvs d al 0)))) c (.ext (phiC P w c d al))) d (.ext (phiD P w d))) := Evl.Ex.mut (Evl.Ex.mut (Evl.Ex.mut e3 nc1) nc1) nd1
  refine k c _ (e0.trans e4) ⟨d, al, ws, by rw [upd_ne ndc.symm]; exact upd_same, upd_same, ?_, hcs, hcl, ndc⟩
  rw [upd_ne ndal.symm, upd_ne ncal.symm, upd_ne ncal.symm]
  exact a3
end
end Lr

namespace Lr
open PySem L2
/-- 0, 1, .. below n -/
def upto (n : Nat) : List Int := (List.range n).map Int.ofNat
theorem upto_len (n : Nat) : (upto n).length = n := by unfold upto; simp
theorem mem_upto {n : Nat} {x : Int} : x ∈ upto n ↔ 0 ≤ x ∧ x < n := by
  unfold upto
  simp only [List.mem_map, List.mem_range]
  constructor
  · rintro ⟨k, hk, rfl⟩
    exact ⟨Int.ofNat_nonneg _, by simpa using hk⟩
  · rintro ⟨h0, h1⟩
    exact ⟨x.toNat, by omega, by simp; omega⟩
theorem rgV_upto {n : Int} : rgV 0 n = (upto n.toNat).map V.int := by
  unfold rgV upto
  simp [List.map_map]
theorem erase_map {α β : Type} (f : α → β) : ∀ (l : List α) (i : Nat), (l.map f).eraseIdx i = (l.eraseIdx i).map f
  | [], _ => by simp
  | _ :: _, 0 => by simp
  | x :: r, i + 1 => by simp [erase_map f r i]
theorem erase_perm : ∀ (l : List Int) (i : Nat) (h : i < l.length), (l[i] :: l.eraseIdx i).Perm l
  | x :: r, 0, _ => by simp
  | x :: r, i + 1, h => by
    have h2 : i < r.length := by simpa using h
    simp only [List.getElem_cons_succ, List.eraseIdx_cons_succ]
    exact (List.Perm.swap x r[i] (r.eraseIdx i)).trans ((erase_perm r i h2).cons x)
theorem pick {rs : List Int} {r : Int} (h0 : 0 ≤ r) (h1 : r < (rs.length : Int)) : ∃ x, (rs.map V.int)[r.toNat]? = some (.int x) ∧ (rs.map V.int).eraseIdx r.toNat = (rs.eraseIdx r.toNat).map V.int ∧ (x :: rs.eraseIdx r.toNat).Perm rs ∧ seqIndex? r (rs.map V.int).length = some r.toNat := by
  have hr : r.toNat < rs.length := by omega
  refine ⟨rs[r.toNat], by rw [List.getElem?_map, List.getElem?_eq_getElem hr]; rfl, erase_map _ _ _, erase_perm rs _ hr, ?_⟩
  have h2 : ¬ r < 0 := by omega
  simp [seqIndex?, h0, h1, h2]
section
variable {P : Program} {w : World} {K : PySem.W.Frag} {mg : Str → Option Value} {base : Heap}
def spMixed (P : Program) (w : World) : Sp := fun vs H Q _ => ∃ (c : Addr) (n : Nat), vs = [.ref c, .int n] ∧ Can P w H c ∧ n ≤ 1000 ∧ ∀ (p : Addr) (ns : List Int) H', Ex H H' → H' p = some (.tup (ns.map V.int)) → ns.Perm (upto n) → Q (.ref p) H'
theorem ok_mixed {f : Addr} {fd : FuncData} (F : Fun K "_law_mixed" "_law_mixed" sMixed f fd) (T : Blt mg) (c_law_roll : Cal P w K mg base 1 "_law_roll" ["_law_can", "_law_many"] (spRoll P w)) :
    FnOk P w K mg base CX0 2 f fd ["_law_can", "_law_many"] (spMixed P w) := by
  refine F.ok scMixed (fun vs H Q E h => ?_) (fun cdv A outer s H vs Q E hr h => ?_)
  · obtain ⟨c, n, rfl, _⟩ := h
    rfl
  obtain ⟨c, n, rfl, C, hn, k⟩ := h
  refine ⟨_, (pss_cons (ps_par (i := 2) (j := 3) rfl scMixed.nd rfl rfl (by decide) rfl rfl (pa_cons (pe_listRg rfl rfl T.list (prg_1 rfl T.range (pv 1))) (pa_cons (pe_lst pa_nil) pa_nil)) rfl)
    (pss_cons (ps_while PassesOwn.never (pt_cmpR (ko_neD (K := K) rfl hr.units) (pv 2) (pe_lst pa_nil) (nomark _)) (pss_one (ps_expr (pe_bm PySem.F.plainAttrs_list PySem.F.slot_list_append PySem.F.type_list_append mt_append (pv 3) (pa_cons (pe_bm PySem.F.plainAttrs_list PySem.F.slot_list_pop PySem.F.type_list_pop mt_popAt (pv 2) (pa_cons (pe_cal c_law_roll (hr.mono (by decide)) rfl (pa_cons (pv 0) (pa_cons (pe_callB (k_len (K := K) rfl) rfl T.len bt_len (pa_cons (pv 2) pa_nil)) pa_nil))) pa_nil)) pa_nil)))))
    (pss_one (ps_ret (pe_callTy (k_tuple_of (K := K) rfl) rfl T.tuple bt_tuple (pa_cons (pv 3) pa_nil)))))), ?_⟩
  -- rest, found = list(range(many)), []
  refine ⟨_, rfl, n, rfl, RgOk.of_le (by decide) (by omega) (by decide) (by omega), fun l hl => ⟨(by show 0 ≤ sizeLine; decide), fun m hm => ⟨_, _, rfl, ?_⟩⟩⟩
  rw [rgV_upto] at hm ⊢
  have nlm : l ≠ m := ne_of_none upd_same hm
  have hm0 : H m = none := Evl.fresh_back (Evl.Ex.new hl) hm
  rw [Int.toNat_natCast] at hm ⊢
  -- while rest != []
  refine ⟨fun t σ H' => ∃ rs fs : List Int, t = rs.length ∧ σ = [some (.ref c), some (.int n), some (.ref l), some (.ref m)] ∧ H' l = some (.lst (rs.map V.int)) ∧ H' m = some (.lst (fs.map V.int)) ∧ (fs ++ rs).Perm (upto n) ∧ Ex H H',
    ⟨_, upto n, [], rfl, rfl, by rw [upd_ne nlm]; exact upd_same, upd_same, List.Perm.refl _, (Evl.Ex.new hl).trans (Evl.Ex.new hm)⟩, ?_⟩
  rintro t σ H' ⟨rs, fs, rfl, rfl, h1, h2, hp, e⟩
  refine ⟨_, rfl, (by show 0 ≤ sizeLine; decide), fun z hz => ?_⟩
  have q1 : upd H' z (.lst []) l = some (.lst (rs.map V.int)) := by rw [upd_ne (ne_of_none h1 hz)]; exact h1
  have q2 : upd H' z (.lst []) m = some (.lst (fs.map V.int)) := by rw [upd_ne (ne_of_none h2 hz)]; exact h2
  have q3 : upd H' z (.lst []) z = some (.lst []) := upd_same
  have q4 : Ex H (upd H' z (.lst [])) := e.trans (Evl.Ex.new hz)
  generalize upd H' z (.lst []) = G at q1 q2 q3 q4 ⊢
  refine ⟨.list (rs.map .int), .list [], .lst (SqL.of q1) (dp_ints _ _ rs), .lst (SqL.of q3) .nil, shaped_ints rs, shaped_ints [], _, rfl, ?_⟩
  rw [eqv_nil]
  have hlen : fs.length + rs.length = n := by
    have := hp.length_eq
    rw [List.length_append, upto_len] at this
    exact this
  cases hrs : rs.isEmpty with
  | false =>
    refine iteT ⟨_, fun σ' H' h => h, ?_⟩
    have hpos : 0 < rs.length := by cases rs with | nil => simp at hrs | cons _ _ => simp
    have ll : ((rs.map V.int).length : Int) = rs.length := by rw [List.length_map]
    refine ⟨_, rfl, .inl ⟨rfl, _, SqL.of q2⟩, _, rfl, .inl ⟨rfl, _, SqL.of q1⟩, _, rfl, _, rfl, l, _, rfl, .inl (SqL.of q1), c, _, rfl, C.mono q4, by omega, by omega, fun r H2 e2 r0 r1 => ?_⟩
    rw [ll] at r1
    obtain ⟨x, hx, hE, hP, hI⟩ := pick r0 r1
    refine ⟨l, _, r, r.toNat, .int x, rfl, rfl, e2 _ _ q1, by omega, by omega, hI, hx, ?_⟩
    rw [hE]
    refine ⟨m, _, _, rfl, rfl, by rw [upd_ne nlm.symm]; exact e2 _ _ q2, by rw [List.length_map]; exact Nat.lt_of_le_of_lt (by omega) (by decide : 1000 < sizeLine), ?_⟩
    have hle : (rs.eraseIdx r.toNat).length < rs.length := by
      have := hP.length_eq
      simp at this
      omega
    refine ⟨_, hle, rs.eraseIdx r.toNat, fs ++ [x], rfl, rfl, by rw [upd_ne nlm, upd_same], by rw [upd_same, List.map_append]; rfl, ?_, Evl.Ex.mut (Evl.Ex.mut (q4.trans e2) hl) hm0⟩
    rw [List.append_assoc]
    exact (List.Perm.append_left fs hP).trans hp
  | true =>
    refine iteF ?_
    have hr0 : rs = [] := List.isEmpty_iff.mp hrs
    subst hr0
    rw [List.append_nil] at hp
    refine ⟨_, rfl, m, _, rfl, .inl ⟨SqL.of q2, fun p hp2 => k p fs _ (q4.trans (Evl.Ex.new hp2)) upd_same hp⟩⟩
end
end Lr

namespace Lr
open PySem L2
abbrev sRule : Stmt := topS 17
abbrev nRule : List Str := ["_law_can", "_law_upto", "_law_many", "_law_way", "_law_first", "_law_plain", "_law_k", "_law_lane"]
theorem scRule : FnScope nRule ["_law_can", "_law_upto"] (defScope sRule) :=
  ⟨rfl, rfl, rfl, by decide +kernel, rfl, by decide +kernel, by decide +kernel⟩
abbrev sCars : Stmt := topS 18
abbrev nCars : List Str := ["_law_can", "_law_rule_here", "_law_upto", "_law_many", "_law_lanes", "_law_way", "_law_some", "_law_k"]
theorem scCars : FnScope nCars ["_law_can", "_law_rule_here", "_law_upto"] (defScope sCars) :=
  ⟨rfl, rfl, rfl, by decide +kernel, rfl, by decide +kernel, by decide +kernel⟩
/-- a rule, as lists of numbers and as data -/
def RuleOk (n : Nat) (ps : List (List Int)) : Prop := 1 ≤ n ∧ ps.length = n + 1 ∧ ∀ p ∈ ps, p.Perm (upto n)
def prefD (p : List Int) : PyData := .tuple (p.map .int)
def ruleD (ps : List (List Int)) : PyData := .tuple (ps.map prefD)
/-- a preference of n lanes stands at v -/
def PrefAt (n : Nat) (v : V) (H : Hp) : Prop := ∃ (a : Addr) (ns : List Int), v = .ref a ∧ H a = some (.tup (ns.map V.int)) ∧ ns.Perm (upto n)
theorem PrefAt.exl {n : Nat} {v : V} {H H' : Hp} (e : Exl H H') (h : PrefAt n v H) : PrefAt n v H' := by
  obtain ⟨a, ns, rfl, h1, h2⟩ := h
  exact ⟨a, ns, rfl, e _ _ tup_nolst h1, h2⟩
theorem PrefAt.ex {n : Nat} {v : V} {H H' : Hp} (e : Ex H H') (h : PrefAt n v H) : PrefAt n v H' := h.exl (Exl.of e)
theorem prefs_of {n : Nat} {H : Hp} : ∀ {xs : List V}, (∀ v ∈ xs, PrefAt n v H) → ∃ ps : List (List Int), ps.length = xs.length ∧ (∀ p ∈ ps, p.Perm (upto n)) ∧ DvAll H xs (ps.map prefD)
  | [], _ => ⟨[], rfl, fun _ z => (nomatch z), .nil⟩
  | x :: r, h => by
    obtain ⟨a, ns, rfl, h1, h2⟩ := h x (by simp)
    obtain ⟨ps, p1, p2, p3⟩ := prefs_of (xs := r) fun v hv => h v (by simp [hv])
    refine ⟨ns :: ps, by simp [p1], fun p hp => ?_, .cons (.tup h1 (dv_ints H ns)) p3⟩
    rcases List.mem_cons.mp hp with rfl | hp
    · exact h2
    · exact p2 p hp
/-- a tuple of so many of them is a rule -/
theorem rule_at {n : Nat} {H : Hp} {p : Addr} {xs : List V} (hn : 1 ≤ n) (hp : H p = some (.tup xs)) (hl : xs.length = n + 1) (h : ∀ v ∈ xs, PrefAt n v H) : ∃ ps, RuleOk n ps ∧ Dv H (.ref p) (ruleD ps) := by
  obtain ⟨ps, p1, p2, p3⟩ := prefs_of h
  exact ⟨ps, ⟨hn, p1.trans hl, p2⟩, .tup hp p3⟩
theorem turn_perm {n k : Nat} : ((upto n).drop k ++ (upto n).take k).Perm (upto n) := by
  have h := List.perm_append_comm (l₁ := (upto n).drop k) (l₂ := (upto n).take k)
  rw [List.take_append_drop] at h
  exact h
theorem end_perm {ns : List Int} {n : Nat} {k : Int} (h : ns.Perm (upto n)) (h0 : 0 ≤ k) (h1 : k < n) : (ns.filter (fun x => !decide (x = k)) ++ [k]).Perm (upto n) := by
  refine List.Perm.trans ?_ h
  have hk : k ∈ ns := h.mem_iff.mpr (mem_upto.mpr ⟨h0, h1⟩)
  have nd : ns.Nodup := h.nodup_iff.mpr (by
    unfold upto
    exact List.Pairwise.map _ (fun a b hab z => hab (Int.ofNat.inj z)) List.nodup_range)
  have e : ns.filter (fun x => !decide (x = k)) = ns.erase k := by
    rw [nd.erase_eq_filter]
    congr 1
  rw [e]
  exact (List.perm_append_comm.trans (List.perm_cons_erase hk).symm)
theorem filt_int {ns : List Int} {k : Int} : (ns.map V.int).filter (fun v => !decide (v = .int k)) = (ns.filter (fun x => !decide (x = k))).map V.int := by
  induction ns with
  | nil => rfl
  | cons x r ih =>
    by_cases hx : x = k
    · subst hx
      simp [ih]
    · have : ¬ V.int x = V.int k := fun z => hx (V.int.inj z)
      simp [hx, ih]
section
variable {P : Program} {w : World} {K : PySem.W.Frag} {mg : Str → Option Value} {base : Heap}
def spRule (P : Program) (w : World) : Sp := fun vs H Q _ => ∃ (c : Addr) (u : Nat), vs = [.ref c, .int u] ∧ Can P w H c ∧ 1 ≤ u ∧ u ≤ 100 ∧ ∀ (v : V) (n : Nat) (ps : List (List Int)) H', Ex H H' → n ≤ u → RuleOk n ps → Dv H' v (ruleD ps) → Q v H'
theorem ok_rule {f : Addr} {fd : FuncData} (F : Fun K "_law_rule" "_law_rule" sRule f fd) (T : Blt mg) (c_law_roll : Cal P w K mg base 1 "_law_roll" ["_law_can", "_law_many"] (spRoll P w))
    (c_law_mixed : Cal P w K mg base 2 "_law_mixed" ["_law_can", "_law_many"] (spMixed P w)) : FnOk P w K mg base CX0 3 f fd ["_law_can", "_law_upto"] (spRule P w) := by
  refine F.ok scRule (fun vs H Q E h => ?_) (fun cdv A outer s H vs Q E hr h => ?_)
  · obtain ⟨c, n, rfl, _⟩ := h
    rfl
  obtain ⟨c, u, rfl, C, hu1, hu2, k⟩ := h
  refine ⟨_, (pss_cons (ps_asg (pe_tup (pa_cons (pe_op op_add pe_int (pe_cal c_law_roll (hr.mono (by decide)) rfl (pa_cons (pv 0) (pa_cons (pv 1) pa_nil)))) (pa_cons (pe_cal c_law_roll (hr.mono (by decide)) rfl (pa_cons (pv 0) (pa_cons pe_int pa_nil))) pa_nil))) (pg_tup rfl (pgs_cons (pg_name (i := 2) scRule.nd rfl (Or.inr rfl)) (pgs_cons (pg_name (i := 3) scRule.nd rfl (Or.inl rfl)) pgs_nil))))
    (pss_cons (ps_set (i := 4) scRule.nd rfl (Or.inr rfl) (pe_cal c_law_mixed (hr.mono (by decide)) rfl (pa_cons (pv 0) (pa_cons (pv 2) pa_nil))))
    (pss_cons (ps_if (pt_cmpR op_eq (pv 3) pe_int (nomark _)) (pss_one (ps_ret (pe_op (ko_repT (K := K) rfl) (pe_tup (pa_cons (pv 4) pa_nil)) (pe_op op_add (pv 2) pe_int)))) pss_nil)
    (pss_cons (ps_if (pt_cmpR op_eq (pv 3) pe_int (nomark _)) (pss_cons (ps_set (i := 5) scRule.nd rfl (Or.inr rfl) (pe_tupRg rfl rfl T.tuple (prg_1 rfl T.range (pv 2))))
      (pss_one (ps_ret (pe_callTy (k_tuple_of (K := K) rfl) rfl T.tuple bt_tuple (pa_cons (pe_op op_cat (pe_lst (pa_cons (pv 5) pa_nil)) (pe_lc (own := [("_law_k", 6)]) (g := gName 6)  (by rfl) scRule.nd (pi_range1 rfl T.range (pa_cons (pv 2) pa_nil)) (blkOk_by (own := [("_law_k", 6)]) (N := nRule) (sc := defScope sRule) (by decide +kernel)) (fun _ _ _ _ _ => (pg_name (i := 6) scRule.nd rfl (Or.inl rfl))) (fun _ _ _ _ _ => pts_nil) (fun _ _ _ _ _ => (pe_op (ko_catT (K := K) rfl) (pe_slice (ks_tup (K := K) rfl) (pv 5) (po_some (pe_op op_add (pv 6) pe_int)) po_none) (pe_slice (ks_tup (K := K) rfl) (pv 5) po_none (po_some (pe_op op_add (pv 6) pe_int))))))) pa_nil))))) pss_nil)
    (pss_cons (ps_if (pt_cmpR op_eq (pv 3) pe_int (nomark _)) (pss_one (ps_ret (pe_callTy (k_tuple_of (K := K) rfl) rfl T.tuple bt_tuple (pa_cons (pe_op op_cat (pe_lst (pa_cons (pv 4) pa_nil)) (pe_lc (own := [("_law_k", 6)]) (g := gName 6)  (by rfl) scRule.nd (pi_range1 rfl T.range (pa_cons (pv 2) pa_nil)) (blkOk_by (own := [("_law_k", 6)]) (N := nRule) (sc := defScope sRule) (by decide +kernel)) (fun _ _ _ _ _ => (pg_name (i := 6) scRule.nd rfl (Or.inr rfl))) (fun _ _ _ _ _ => pts_nil) (fun _ _ _ _ _ => (pe_op (ko_catT (K := K) rfl) (pe_callTy (k_tuple_of (K := K) rfl) rfl T.tuple bt_tuple (pa_cons (pe_lc (own := [("_law_lane", 7)]) (g := gName 7) (wi := iTup K (tVar 4)) (tt := tTest (tOp rNe (tVar 7) (tVar 6))) (te := tVar 7) (by rfl) scRule.nd (ki_tup (K := K) rfl (pv 4)) (blkOk_by (own := [("_law_lane", 7)]) (N := nRule) (by kernel_rfl)) (fun _ _ _ _ _ => (pg_name (i := 7) scRule.nd rfl (Or.inl rfl))) (fun _ _ _ _ _ => pts_one (pt_cmpR op_ne (pv 7) (pv 6) (nomark _))) (fun _ _ _ _ _ => (pv 7))) pa_nil)) (pe_tup (pa_cons (pv 6) pa_nil)))))) pa_nil)))) pss_nil)
    (pss_one (ps_ret (pe_callTy (k_tuple_of (K := K) rfl) rfl T.tuple bt_tuple (pa_cons (pe_lc (own := [("_law_k", 6)]) (g := gName 6)  (by rfl) scRule.nd (pi_range1 rfl T.range (pa_cons (pe_op op_add (pv 2) pe_int) pa_nil)) (blkOk_by (own := [("_law_k", 6)]) (N := nRule) (sc := defScope sRule) (by decide +kernel)) (fun _ _ _ _ _ => (pg_name (i := 6) scRule.nd rfl (Or.inl rfl))) (fun _ _ _ _ _ => pts_nil) (fun _ _ _ _ _ => (pe_cal c_law_mixed (hr.mono (by decide)) rfl (pa_cons (pv 0) (pa_cons (pv 2) pa_nil))))) pa_nil))))))))), ?_⟩
  -- many, way = 1 + roll(can, upto), roll(can, 5)
  refine ⟨_, rfl, _, rfl, c, _, rfl, C, by omega, by omega, fun r H1 e1 r0 r1 => ⟨_, _, rfl, rfl, _, rfl, c, _, rfl, C.mono e1, by decide, by decide, fun y H2 e2 y0 y1 => ⟨(by show 2 ≤ sizeLine; decide), fun p hp => ⟨p, _, rfl, SqT.of upd_same, rfl, _, _, rfl, _, _, rfl, rfl, ?_⟩⟩⟩⟩
  obtain ⟨n, hn⟩ : ∃ n : Nat, 1 + r = (n : Int) := ⟨(1 + r).toNat, by omega⟩
  have hv : (fun i j : Int => V.int (i + j)) 1 r = V.int (n : Int) := congrArg V.int hn
  rw [hv]
  have hn1 : 1 ≤ n := by omega
  have hnu : n ≤ u := by omega
  have e3 : Ex H (upd H2 p (.tup [.int n, .int y])) := (e1.trans e2).trans (Evl.Ex.new hp)
  generalize upd H2 p (.tup [.int n, .int y]) = G at e3 ⊢
  -- first = mixed(can, many)
  refine ⟨_, rfl, _, rfl, c, n, rfl, C.mono e3, by omega, fun q ns H4 e4 hq hns => ?_⟩
  have pq : PrefAt n (.ref q) H4 := ⟨q, ns, rfl, hq, hns⟩
  have eH : Ex H H4 := e3.trans e4
  have done : ∀ (p : Addr) (xs : List V) (G : Hp), Ex H4 G → G p = some (.tup xs) → xs.length = n + 1 → (∀ v ∈ xs, PrefAt n v G) → Q (.ref p) G := fun p xs G e h1 h2 h3 => by
    obtain ⟨ps, g1, g2⟩ := rule_at hn1 h1 h2 h3
    exact k _ n ps G (eH.trans e) hnu g1 g2
  -- if way == 0
  refine ⟨_, rfl, rfl, _, rfl, ?_⟩
  refine ite2 (fun _ => ?_) (fun _ => ?_)
  · refine ⟨_, rfl, (by show 1 ≤ sizeLine; decide), fun z hz => ⟨_, rfl, _, _, rfl, rfl, z, _, _, rfl, rfl, SqT.of upd_same, (by simp), by omega, by omega, (by simp), fun t ht => ?_⟩⟩
    have ex : Ex H4 (upd (upd H4 z (.tup [.ref q])) t (.tup (List.replicate ((n : Int) + 1).toNat [V.ref q]).flatten)) := (Evl.Ex.new hz).trans (Evl.Ex.new ht)
    refine done t _ _ ex upd_same ?_ fun v hv => ?_
    · simp
    · have : v = .ref q := by
        simp only [List.mem_flatten, List.mem_replicate] at hv
        obtain ⟨l, ⟨_, rfl⟩, hv⟩ := hv
        simpa using hv
      subst this
      exact pq.ex ex
  -- if way == 1
  refine ⟨_, rfl, rfl, _, rfl, ?_⟩
  refine ite2 (fun _ => ?_) (fun _ => ?_)
  · refine ⟨_, rfl, n, rfl, RgOk.of_le (by decide) (by omega) (by decide) (by omega), fun z hz => ?_⟩
    rw [rgV_upto, Int.toNat_natCast] at *
    have pz : PrefAt n (.ref z) (upd H4 z (.tup ((upto n).map V.int))) := ⟨z, _, rfl, upd_same, List.Perm.refl _⟩
    have ez : Ex H4 (upd H4 z (.tup ((upto n).map V.int))) := Evl.Ex.new hz
    have az : upd H4 z (.tup ((upto n).map V.int)) z = some (.tup ((upto n).map V.int)) := upd_same
    generalize upd H4 z (.tup ((upto n).map V.int)) = G1 at pz ez az ⊢
    refine ⟨_, rfl, (by show 1 ≤ sizeLine; decide), fun l hl => ⟨_, rfl, n, rfl, by omega, by omega, fun D hD => ?_⟩⟩
    have el : Ex G1 (upd G1 l (.lst [.ref z])) := Evl.Ex.new hl
    have al : upd G1 l (.lst [.ref z]) l = some (.lst [.ref z]) := upd_same
    generalize upd G1 l (.lst [.ref z]) = G2 at el al hD ⊢
    rw [Int.toNat_natCast]
    refine made_range (fun _ v H' => PrefAt n v H') hD (by omega) (fun _ _ _ _ _ _ e m => m.exl e) (fun _ => rfl) (fun i hi G3 e5 Q1 q1 => ?_) (fun ys G4 hy e6 hD4 hm => ?_)
    · have a3 : G3 z = some (.tup ((upto n).map V.int)) := e5 _ _ (el _ _ az)
      refine ⟨_, rfl, _, rfl, _, _, rfl, rfl, _, rfl, ?_⟩
      unfold tNoPart
      refine sl_at a3 fun b G5 e7 hb => ?_
      refine ⟨_, rfl, _, rfl, _, _, rfl, rfl, _, rfl, ?_⟩
      refine sl_at (e7 _ _ a3) fun b2 G6 e8 hb2 => ?_
      have c1 : ((i : Int) + 1) = ((i + 1 : Nat) : Int) := by omega
      rw [c1, cut_from] at hb
      rw [c1, cut_to] at hb2
      refine cat_at (e8 _ _ hb) hb2 ?_ fun b3 G7 e9 hb3 => q1 _ G7 ((e7.trans e8).trans e9) ⟨b3, (upto n).drop (i + 1) ++ (upto n).take (i + 1), rfl, ?_, turn_perm⟩
      · rw [List.length_drop, List.length_take, List.length_map, upto_len]
        omega
      · rw [hb3, List.map_append, List.map_drop, List.map_take]
    · refine ⟨l, D, _, _, rfl, rfl, e6 _ _ al, hD4, ?_, fun t ht => ⟨t, _, rfl, .inl ⟨SqL.of upd_same, fun t2 ht2 => ?_⟩⟩⟩
      · rw [hy]
        exact Nat.le_trans (show [V.ref z].length + n ≤ 1000 by simp; omega) (by decide)
      have ex : Ex G4 (upd (upd G4 t (.lst ([.ref z] ++ ys))) t2 (.tup ([.ref z] ++ ys))) := (Evl.Ex.new ht).trans (Evl.Ex.new ht2)
      refine done t2 _ _ (((ez.trans el).trans e6).trans ex) upd_same (by simp [hy]) fun v hv => ?_
      rcases List.mem_cons.mp hv with rfl | hv
      · exact pz.ex ((el.trans e6).trans ex)
      · obtain ⟨i, hi⟩ := List.mem_iff_getElem?.mp hv
        exact (hm i v hi).ex ex
  -- if way == 2
  refine ⟨_, rfl, rfl, _, rfl, ?_⟩
  refine ite2 (fun _ => ?_) (fun _ => ?_)
  · refine ⟨_, rfl, (by show 1 ≤ sizeLine; decide), fun l hl => ⟨_, rfl, n, rfl, by omega, by omega, fun D hD => ?_⟩⟩
    have el : Ex H4 (upd H4 l (.lst [.ref q])) := Evl.Ex.new hl
    have al : upd H4 l (.lst [.ref q]) l = some (.lst [.ref q]) := upd_same
    generalize upd H4 l (.lst [.ref q]) = G2 at el al hD ⊢
    rw [Int.toNat_natCast]
    have hlen : ns.length = n := by rw [hns.length_eq, upto_len]
    refine made_range (fun _ v H' => PrefAt n v H') hD (by omega) (fun _ _ _ _ _ _ e m => m.exl e) (fun _ => rfl) (fun i hi G3 e5 Q1 q1 => ?_) (fun ys G4 hy e6 hD4 hm => ?_)
    · have a3 : G3 q = some (.tup (ns.map V.int)) := e5 _ _ (el _ _ hq)
      refine ⟨_, rfl, q, rfl, ⟨_, SqT.of a3⟩, fun D2 hD2 => ?_⟩
      refine filt_tup (fun v => !decide (v = .int (i : Int))) hD2 (SqT.of a3) (by rw [List.length_map]; omega) (fun _ => rfl) (fun x G5 hx e7 Q2 q2 => ?_) (fun x G5 e7 Q2 q2 => ⟨_, rfl, q2⟩) (fun G5 e7 hG5 => ?_)
      · obtain ⟨x, _, rfl⟩ := List.mem_map.mp hx
        exact ⟨_, rfl, _, rfl, rfl, _, rfl, q2⟩
      · rw [filt_int] at hG5
        refine ⟨D2, _, rfl, .inl ⟨SqL.of hG5, fun b hb => ⟨_, rfl, (by show 1 ≤ sizeLine; decide), fun b2 hb2 => ?_⟩⟩⟩
        have nb : b ≠ b2 := ne_of_none upd_same hb2
        refine cat_at (xs := (ns.filter (fun x => !decide (x = (i : Int)))).map V.int) (ys := [.int (i : Int)]) (by rw [upd_ne nb]; exact upd_same) upd_same ?_ fun b3 G7 e9 hb3 => q1 _ G7 (((e7.trans (Evl.Ex.new hb)).trans (Evl.Ex.new hb2)).trans e9) ⟨b3, ns.filter (fun x => !decide (x = (i : Int))) ++ [(i : Int)], rfl, ?_, end_perm hns (by omega) (by omega)⟩
        · have := List.length_filter_le (fun x => !decide (x = (i : Int))) ns
          simp only [List.length_map, List.length_cons, List.length_nil]
          omega
        · rw [hb3, List.map_append]
          rfl
    · refine ⟨l, D, _, _, rfl, rfl, e6 _ _ al, hD4, ?_, fun t ht => ⟨t, _, rfl, .inl ⟨SqL.of upd_same, fun t2 ht2 => ?_⟩⟩⟩
      · rw [hy]
        exact Nat.le_trans (show [V.ref q].length + n ≤ 1000 by simp; omega) (by decide)
      have ex : Ex G4 (upd (upd G4 t (.lst ([.ref q] ++ ys))) t2 (.tup ([.ref q] ++ ys))) := (Evl.Ex.new ht).trans (Evl.Ex.new ht2)
      refine done t2 _ _ ((el.trans e6).trans ex) upd_same (by simp [hy]) fun v hv => ?_
      rcases List.mem_cons.mp hv with rfl | hv
      · exact pq.ex ((el.trans e6).trans ex)
      · obtain ⟨i, hi⟩ := List.mem_iff_getElem?.mp hv
        exact (hm i v hi).ex ex
  -- the rest
  refine ⟨_, rfl, _, _, rfl, rfl, (n : Int) + 1, rfl, by omega, by omega, fun D hD => ?_⟩
  have en : ((n : Int) + 1).toNat = n + 1 := by omega
  rw [en]
  refine made_range (fun _ v H' => PrefAt n v H') hD (by omega) (fun _ _ _ _ _ _ e m => m.exl e) (fun _ => rfl) (fun i hi G3 e5 Q1 q1 => ?_) (fun ys G4 hy e6 hD4 hm => ?_)
  · exact ⟨_, rfl, _, rfl, c, n, rfl, C.mono (eH.trans e5), by omega, fun b ms G5 e7 hb hms => q1 _ G5 e7 ⟨b, ms, rfl, hb, hms⟩⟩
  · refine ⟨D, _, rfl, .inl ⟨SqL.of hD4, fun t2 ht2 => ?_⟩⟩
    have ex : Ex G4 (upd G4 t2 (.tup ys)) := Evl.Ex.new ht2
    refine done t2 _ _ (e6.trans ex) upd_same hy fun v hv => ?_
    obtain ⟨i, hi⟩ := List.mem_iff_getElem?.mp hv
    exact (hm i v hi).ex ex
end
end Lr

namespace Lr
open PySem L2
theorem rule_inv {H : Hp} {v : V} {ps : List (List Int)} (h : Dv H v (ruleD ps)) : ∃ a xs, v = .ref a ∧ H a = some (.tup xs) ∧ xs.length = ps.length ∧ DvAll H xs (ps.map prefD) := by
  cases h with
  | tup h t => exact ⟨_, _, rfl, h, by rw [t.len, List.length_map], t⟩
/-- numbers of some lanes -/
def InLanes (n : Nat) (ns : List Int) : Prop := ∀ x ∈ ns, 0 ≤ x ∧ x < n
section
variable {P : Program} {w : World} {K : PySem.W.Frag} {mg : Str → Option Value} {base : Heap}
def spCars (P : Program) (w : World) : Sp := fun vs H Q _ => ∃ (c : Addr) (v : V) (u n : Nat) (ps : List (List Int)), vs = [.ref c, v, .int u] ∧ Can P w H c ∧ Dv H v (ruleD ps) ∧ RuleOk n ps ∧ n ≤ 100 ∧ 1 ≤ u ∧ u ≤ 1000 ∧
  ∀ (p : Addr) (ns : List Int) H', Ex H H' → H' p = some (.tup (ns.map V.int)) → 1 ≤ ns.length → ns.length ≤ u → InLanes n ns → Q (.ref p) H'
theorem ok_cars {f : Addr} {fd : FuncData} (F : Fun K "_law_cars" "_law_cars" sCars f fd) (T : Blt mg) (c_law_roll : Cal P w K mg base 1 "_law_roll" ["_law_can", "_law_many"] (spRoll P w))
    (c_law_one : Cal P w K mg base 2 "_law_one" ["_law_can", "_law_items"] (spOne P w)) : FnOk P w K mg base CX0 3 f fd ["_law_can", "_law_rule_here", "_law_upto"] (spCars P w) := by
  refine F.ok scCars (fun vs H Q E h => ?_) (fun cdv A outer s H vs Q E hr h => ?_)
  · obtain ⟨c, v, u, n, ps, rfl, _⟩ := h
    rfl
  obtain ⟨c, v, u, n, ps, rfl, C, hv, hR, hn, hu1, hu2, k⟩ := h
  obtain ⟨a, xs, rfl, ha, hx, _⟩ := rule_inv hv
  refine ⟨_, (pss_cons (ps_asg (pe_tup (pa_cons (pe_op op_add pe_int (pe_cal c_law_roll (hr.mono (by decide)) rfl (pa_cons (pv 0) (pa_cons (pv 2) pa_nil)))) (pa_cons (pe_op op_sub (pe_callB (k_len (K := K) rfl) rfl T.len bt_len (pa_cons (pv 1) pa_nil)) pe_int) (pa_cons (pe_cal c_law_roll (hr.mono (by decide)) rfl (pa_cons (pv 0) (pa_cons pe_int pa_nil))) pa_nil)))) (pg_tup rfl (pgs_cons (pg_name (i := 3) scCars.nd rfl (Or.inl rfl)) (pgs_cons (pg_name (i := 4) scCars.nd rfl (Or.inr rfl)) (pgs_cons (pg_name (i := 5) scCars.nd rfl (Or.inl rfl)) pgs_nil)))))
    (pss_cons (ps_if (pt_cmpR op_eq (pv 5) pe_int (nomark _)) (pss_one (ps_ret (pe_callTy (k_tuple_of (K := K) rfl) rfl T.tuple bt_tuple (pa_cons (pe_lc (own := [("_law_k", 7)]) (g := gName 7)  (by rfl) scCars.nd (pi_range1 rfl T.range (pa_cons (pv 3) pa_nil)) (blkOk_by (own := [("_law_k", 7)]) (N := nCars) (sc := defScope sCars) (by decide +kernel)) (fun _ _ _ _ _ => (pg_name (i := 7) scCars.nd rfl (Or.inl rfl))) (fun _ _ _ _ _ => pts_nil) (fun _ _ _ _ _ => (pe_op op_modN (pv 7) (pv 4)))) pa_nil)))) pss_nil)
    (pss_cons (ps_set (i := 6) scCars.nd rfl (Or.inr rfl) (pe_lc (own := [("_law_k", 7)]) (g := gName 7)  (by rfl) scCars.nd (pi_range1 rfl T.range (pa_cons (pe_ix (kx_list (K := K) rfl) (pe_lst (pa_cons pe_int (pa_cons (pv 4) pa_nil))) (pe_op op_sub (pv 5) pe_int) (fun _ _ => rfl)) pa_nil)) (blkOk_by (own := [("_law_k", 7)]) (N := nCars) (sc := defScope sCars) (by decide +kernel)) (fun _ _ _ _ _ => (pg_name (i := 7) scCars.nd rfl (Or.inl rfl))) (fun _ _ _ _ _ => pts_nil) (fun _ _ _ _ _ => (pe_cal c_law_roll (hr.mono (by decide)) rfl (pa_cons (pv 0) (pa_cons (pv 4) pa_nil))))))
    (pss_one (ps_ret (pe_callTy (k_tuple_of (K := K) rfl) rfl T.tuple bt_tuple (pa_cons (pe_lc (own := [("_law_k", 7)]) (g := gName 7)  (by rfl) scCars.nd (pi_range1 rfl T.range (pa_cons (pv 3) pa_nil)) (blkOk_by (own := [("_law_k", 7)]) (N := nCars) (sc := defScope sCars) (by decide +kernel)) (fun _ _ _ _ _ => (pg_name (i := 7) scCars.nd rfl (Or.inl rfl))) (fun _ _ _ _ _ => pts_nil) (fun _ _ _ _ _ => (pe_cal c_law_one (hr.mono (by decide)) rfl (pa_cons (pv 0) (pa_cons (pv 6) pa_nil))))) pa_nil))))))), ?_⟩
  have hn1 := hR.1
  have hxl : xs.length = n + 1 := hx.trans hR.2.1
  -- many, lanes, way
  refine ⟨_, rfl, _, rfl, c, _, rfl, C, by omega, by omega, fun r H1 e1 r0 r1 => ⟨_, _, rfl, rfl, _, rfl, a, _, rfl, .inr (SqT.of (e1 _ _ ha)), _, _, rfl, rfl, _, rfl, c, _, rfl, C.mono e1, by decide, by decide, fun y H2 e2 y0 y1 => ⟨(by show 3 ≤ sizeLine; decide), fun p hp => ⟨p, _, rfl, SqT.of upd_same, rfl, _, _, rfl, _, _, rfl, _, _, rfl, rfl, ?_⟩⟩⟩⟩
  obtain ⟨m, hm⟩ : ∃ m : Nat, 1 + r = (m : Int) := ⟨(1 + r).toNat, by omega⟩
  have hv1 : (fun i j : Int => V.int (i + j)) 1 r = V.int (m : Int) := congrArg V.int hm
  have hv2 : (fun i j : Int => V.int (i - j)) (xs.length : Int) 1 = V.int (n : Int) := congrArg V.int (by omega)
  rw [hv1, hv2]
  have e3 : Ex H (upd H2 p (.tup [.int m, .int n, .int y])) := (e1.trans e2).trans (Evl.Ex.new hp)
  generalize upd H2 p (.tup [.int m, .int n, .int y]) = G at e3 ⊢
  have done : ∀ (ys : List V) (D : Addr) (G' : Hp), Ex H G' → G' D = some (.lst ys) → ys.length = m → (∀ (i : Nat) (v : V), ys[i]? = some v → ∃ z, v = .int z ∧ 0 ≤ z ∧ z < n) → rTupOf K [.ref D] G' Q := fun ys D G' e hD hl hm2 => by
    obtain ⟨cs, rfl⟩ := ints_of (ys := ys) fun i v hi => let ⟨z, h1, _⟩ := hm2 i v hi; ⟨z, h1⟩
    rw [List.length_map] at hl
    refine ⟨D, _, rfl, .inl ⟨SqL.of hD, fun l hl2 => k l cs _ (e.trans (Evl.Ex.new hl2)) upd_same (by omega) (by omega) fun x hx => ?_⟩⟩
    obtain ⟨i, hi⟩ := List.mem_iff_getElem?.mp hx
    obtain ⟨z, h1, h2⟩ := hm2 i (.int x) (by rw [List.getElem?_map, hi]; rfl)
    cases h1
    exact h2
  -- if way == 0
  refine ⟨_, rfl, rfl, _, rfl, ?_⟩
  refine ite2 (fun _ => ?_) (fun hy => ?_)
  · refine ⟨_, rfl, m, rfl, by omega, by omega, fun D hD => ?_⟩
    rw [Int.toNat_natCast]
    refine made_range (fun _ v _ => ∃ z, v = .int z ∧ 0 ≤ z ∧ z < n) hD (by omega) (fun _ _ _ _ _ _ _ q => q) (fun _ => rfl) (fun i hi G3 e5 Q1 q1 => ?_) (fun ys G4 hy e6 hD4 hq => done ys D G4 (e3.trans e6) hD4 hy hq)
    exact ⟨_, rfl, _, rfl, _, _, rfl, rfl, by omega, q1 _ G3 (Evl.Ex.refl _) ⟨_, rfl, Int.fmod_nonneg_of_pos _ (by omega), Int.fmod_lt_of_pos _ (by omega)⟩⟩
  -- some = ..
  have hy1 : y = 1 ∨ y = 2 := by
    have : ¬ y = 0 := fun z => hy (by rw [z]; exact decide_eq_true rfl)
    omega
  obtain ⟨t, ht, ht1⟩ : ∃ t : Nat, atI [V.int 2, V.int (n : Int)] (y - 1) = some (.int (t : Int)) ∧ 1 ≤ t ∧ t ≤ 100 := by
    rcases hy1 with rfl | rfl
    · exact ⟨2, rfl, by omega⟩
    · exact ⟨n, rfl, by omega⟩
  refine ⟨_, rfl, (by show 2 ≤ sizeLine; decide), fun l hl => ⟨_, rfl, _, _, rfl, rfl, l, _, _, _, rfl, rfl, SqL.of upd_same, ht, t, rfl, by omega, by omega, fun D hD => ?_⟩⟩
  have el : Ex G (upd G l (.lst [.int 2, .int n])) := Evl.Ex.new hl
  generalize upd G l (.lst [.int 2, .int n]) = G2 at el hD ⊢
  rw [Int.toNat_natCast]
  refine made_range (fun _ v _ => ∃ z, v = .int z ∧ 0 ≤ z ∧ z < n) hD (by omega) (fun _ _ _ _ _ _ _ q => q) (fun _ => rfl) (fun i hi G3 e5 Q1 q1 => ?_) (fun ys G4 hy e6 hD4 hq => ?_)
  · exact ⟨_, rfl, _, rfl, c, n, rfl, C.mono ((e3.trans el).trans e5), by omega, by omega, fun z G5 e7 z0 z1 => q1 _ G5 e7 ⟨z, rfl, z0, z1⟩⟩
  · refine ⟨_, rfl, m, rfl, by omega, by omega, fun D2 hD2 => ?_⟩
    rw [Int.toNat_natCast]
    refine made_range (fun _ v _ => ∃ z, v = .int z ∧ 0 ≤ z ∧ z < n) hD2 (by omega) (fun _ _ _ _ _ _ _ q => q) (fun _ => rfl) (fun i hi G5 e7 Q1 q1 => ?_) (fun zs G6 hz e8 hD6 hq2 => done zs D2 G6 (((e3.trans el).trans e6).trans e8) hD6 hz hq2)
    refine ⟨_, rfl, _, rfl, c, D, ys, rfl, C.mono (((e3.trans el).trans e6).trans e7), e7 _ _ hD4, by omega, by omega, fun v G7 e9 hv => q1 v G7 e9 ?_⟩
    obtain ⟨j, hj⟩ := List.mem_iff_getElem?.mp hv
    exact hq j v hj
end
end Lr

namespace Lr
open PySem L2 PySem.Spec PyProof.Rows
/-! ### for i, c in enumerate(a text) -/
def ItS (z : Str) : It :=
  ⟨fun i _ => i < z.cps.size, fun i H v G => ∃ T c, v = .ref T ∧ H T = none ∧ z.cps[i]? = some c ∧ G = upd H T (.tup [.int (i : Nat), .str ⟨#[c]⟩]), fun i _ => z.cps.size ≤ i⟩
theorem turn_enumS {P : Program} {w : World} {K : PySem.W.Frag} {elts : List Expr} {kk : Nat} {tpos : Pos} (z : Str) (tk : Tok) (e it : Addr) :
    Turn P w K (.Tuple elts kk tpos) (ItS z) [e, it] e (fun i h => (∃ old, IsEnum h e it ((i : Nat) : Int) old) ∧ h.IsStrIter it (strIterType z) z tk i ∧ e ≠ it ∧ i ≤ z.cps.size) where
  mem := by simp
  obj := by
    rintro i h ⟨⟨old, he⟩, ⟨o, ho, hc, hd⟩, _⟩ b hb
    rcases (show b = e ∨ b = it by simpa using hb) with q | q
    · subst q
      exact ⟨_, he, fun v q => nomatch q⟩
    · subst q
      exact ⟨o, ho, fun v q => by rw [hd] at q; cases q⟩
  keep := by
    rintro i h h2 ⟨⟨old, he⟩, ⟨o, ho, r⟩, hne⟩ k
    exact ⟨⟨old, k e (by simp) _ he⟩, ⟨o, k it (by simp) _ ho, r⟩, hne⟩
  item := by
    intro X hP hw hK hc i pins s σ H E I hf st hg
    subst hP hw hK
    obtain ⟨⟨old, he⟩, hit, hne, hle⟩ := st
    have eLt : e < s.heap.objs.size := Heap.lt_size he
    have iLt : it < s.heap.objs.size := by obtain ⟨_, q, _⟩ := hit; exact Heap.lt_size q
    have D := Draws.text (prog := X.prog) (w := X.w) (A := X.A.in1) (I.ok.hd hc) it z tk
    refine wpAny_pyNext_enum_itemD D he hit hg hne (by simpa using hne) fun x h2 t2 hx out hit2 hT hsz hk => ?_
    obtain ⟨c, u, hcx, rfl⟩ := hx
    refine ⟨_, rfl, wpAny_letOwnedTupleGo_enum (s := { s with heap := h2, toks := t2 + 1 }) out fun h3 he3 sb => ?_⟩
    have hT3 : h3.get? s.heap.objs.size = some { cls := .type "tuple", data := .seq #[.int i t2, .str ⟨#[c]⟩ u] } := (sb.2 _ (Nat.ne_of_gt eLt)).trans hT
    have new : ObjOk X.prog X.w (upd H s.heap.objs.size (.tup [.int (i : Nat), .str ⟨#[c]⟩])) h3 s.heap.objs.size (.tup [.int (i : Nat), .str ⟨#[c]⟩]) :=
      ⟨(by show 2 ≤ sizeLine; decide), [.int i t2, .str ⟨#[c]⟩ u], .cons ⟨_, rfl⟩ (.cons ⟨_, rfl⟩ .nil), ⟨_, hT3, rfl, _, rfl⟩⟩
    have kept : ∀ b ob, b ∉ [e, it] → s.heap.get? b = some ob → h3.get? b = some ob := fun b ob hb q =>
      (sb.2 b (fun y => hb (by simp [y]))).trans (hk b ob (fun y => hb (by simp [y])) (fun y => hb (by simp [y])) q)
    have I3 : Inv X pins σ (upd H s.heap.objs.size (.tup [.int (i : Nat), .str ⟨#[c]⟩])) { s with heap := h3, toks := t2 + 1 } := I.turnedNew (ch := [e, it]) kept hf (Nat.le_refl _) new
    refine ⟨.ref s.heap.objs.size, _, I3, rfl, ⟨_, c, rfl, I.hok.fresh (Nat.le_refl _), hcx, rfl⟩, ⟨⟨.str ⟨#[c]⟩ u, ?_⟩, ?_, hne, hg⟩, fun b hb => ?_⟩
    · have e1 : ((i + 1 : Nat) : Int) = (i : Int) + 1 := by omega
      rw [e1]
      exact he3
    · obtain ⟨o, ho, r⟩ := hit2
      exact ⟨o, (sb.2 it (Ne.symm hne)).trans ho, r⟩
    · have lt : b < s.heap.objs.size := by
        rcases (show b = e ∨ b = it by simpa using hb) with q | q <;> (rw [q]; assumption)
      rw [upd_ne (Nat.ne_of_lt lt)]
      exact (hf b hb).1
  done := by
    intro X hP hw hK hc i pins s σ H E I hf st hg
    subst hP hw hK
    obtain ⟨⟨old, he⟩, hit, hne, hle⟩ := st
    have ei : i = z.cps.size := Nat.le_antisymm hle hg
    subst ei
    have D := Draws.text (prog := X.prog) (w := X.w) (A := X.A.in1) (I.ok.hd hc) it z tk
    obtain ⟨f0, f1, f2, f3, f4, f5⟩ := hf it (by simp)
    exact wpAny_pyNext_enum_endD D he hit fun h2 eb => ⟨rfl, I.turned (t' := s.toks) (fun b o hb q => eb b o hb q) f0 f1 f3 f4 f5⟩
  self := by
    rintro A i s Q E ⟨⟨_, he⟩, _⟩ h
    exact wpAny_pyIter_enum he h
def iEnumS (ta : TA) : TI := fun σ H R => ta σ H fun vs G => ∃ z, vs = [.str z] ∧ R (ItS z) G
theorem pi_enumS {X : Cx} {e : Expr} {ta : TA} {p pos tpos : Pos} {elts : List Expr} {kk : Nat} (hg : Gl X "enumerate") (hm : X.mg "enumerate" = none) (ha : PA X [e] ta)
    (hs : starEach [e] X.env = [(false, eval e X.env)] := by rfl) : PI X (.Tuple elts kk tpos) (.Call (.Name "enumerate" p) [e] [] pos) (iEnumS ta) := by
  refine ⟨fun pins s σ H R I h => ?_⟩
  refine Call_ (ld_blt I hg hm boot_enumerate (PyProof.Rows.callWith_type1 (thn (ha.run pos pins s σ H _ I h) ?_) hs rfl))
  rintro us s1 ⟨vs, G, I1, r1, z, rfl, q⟩
  cases r1 with
  | cons r rr =>
    cases rr
    obtain ⟨tk, rfl⟩ := r
    refine call_enumerate_str fun h2 he hit hsz hk => wpAny_pyIter_enum he ?_
    have I2 : Inv X pins σ G { s1 with heap := h2 } := I1.kept (t' := s1.toks) hk
    refine ⟨s1.heap.objs.size + 1, [s1.heap.objs.size + 1, s1.heap.objs.size], _, _, G, rfl, I2, turn_enumS z tk (s1.heap.objs.size + 1) s1.heap.objs.size, ⟨⟨.none, he⟩, hit, Nat.succ_ne_self _, Nat.zero_le _⟩, fun b hb => ?_, q⟩
    have le : s1.heap.objs.size ≤ b := by
      rcases (show b = s1.heap.objs.size + 1 ∨ b = s1.heap.objs.size by simpa using hb) with y | y
      · rw [y]; exact Nat.le_succ _
      · rw [y]; exact Nat.le_refl _
    exact I1.fpOk le (I1.hok.fresh le)
/-- the loop: an invariant over the turn's number; the pair is new -/
theorem for_enumS {K : PySem.W.Frag} {z : Str} {i j : Nat} {tb : TS} {D : Ends} {σ : L2.St} {H : Hp} (Pv : Nat → L2.St → Hp → Prop) (h0 : Pv 0 σ H)
    (hs : ∀ n c σ2 H2 H3, z.cps[n]? = some c → Pv n σ2 H2 → Ex H2 H3 → tb { D with nx := Pv (n + 1), ct := Pv (n + 1), bk := D.nx } ((σ2.set i (some (.int (n : Int)))).set j (some (.str ⟨#[c]⟩))) H3)
    (hd : ∀ σ2 H2, Pv z.cps.size σ2 H2 → D.nx σ2 H2) :
    ∃ W : Nat → Nat → L2.St → Hp → Prop, (∃ m, W 0 m σ H) ∧ ∀ n m σ2 H2, W n m σ2 H2 →
      ((ItS z).stop n H2 ∧ D.nx σ2 H2) ∨ ((ItS z).go n H2 ∧ ∃ N : L2.St → Hp → Prop, (∀ σ3 H3, N σ3 H3 → ∃ m2, m2 < m ∧ W (n + 1) m2 σ3 H3) ∧
        ∀ x H3, (ItS z).yld n H2 x H3 → gTup K 2 (gCons (gName i) (gCons (gName j) gNil)) x σ2 H3 fun σ4 H4 => tb { D with nx := N, ct := N, bk := D.nx } σ4 H4) := by
  refine ⟨fun n m σ2 H2 => m = z.cps.size - n ∧ n ≤ z.cps.size ∧ Pv n σ2 H2, ⟨_, rfl, Nat.zero_le _, h0⟩, ?_⟩
  rintro n m σ2 H2 ⟨rfl, hn, p⟩
  by_cases lt : n < z.cps.size
  · refine .inr ⟨lt, Pv (n + 1), fun σ3 H3 q => ⟨z.cps.size - (n + 1), by omega, rfl, lt, q⟩, ?_⟩
    rintro x H3 ⟨T, c, rfl, hT, hc, rfl⟩
    exact ⟨T, _, rfl, SqT.of upd_same, rfl, _, _, rfl, _, _, rfl, rfl, hs n c σ2 H2 _ hc p (Evl.Ex.new hT)⟩
  · have e : n = z.cps.size := by omega
    subst e
    exact .inl ⟨Nat.le_refl _, hd σ2 H2 p⟩
end Lr

namespace Lr
open PySem L2
def kindD : PyData → String
  | .none => "NoneType"
  | .bool _ => "bool"
  | .int _ => "int"
  | .str _ => "str"
  | .list _ => "list"
  | .tuple _ => "tuple"
  | .dict _ => "dict"
theorem ty_of {K : PySem.W.Frag} {H : Hp} {v : V} {d : PyData} (h : Dv H v d) : TyX K H v (.type (kindD d)) := by
  cases h with
  | non => exact .base .non
  | bl b => exact .base (.bl b)
  | int i => exact .base (.int i)
  | str x => exact .base (.str x)
  | lst h t => exact .base (.lst h)
  | tup h t => exact .base (.tup h)
  | dic h t => exact .base (.dK h)
/-- what isinstance(d, T) answers -/
def isiD (T : String) (d : PyData) : Bool := kindD d == T || (T == "int" && kindD d == "bool")
theorem kit_all : ∀ a ∈ ["NoneType", "bool", "int", "str", "list", "tuple", "dict"], ∀ T ∈ ["str", "int", "bool", "tuple", "list", "dict"], kitB a T = some (a == T || (T == "int" && a == "bool")) := by
  decide +kernel
theorem kind_in (d : PyData) : kindD d ∈ ["NoneType", "bool", "int", "str", "list", "tuple", "dict"] := by
  cases d <;> simp [kindD]
theorem kit_D {K : PySem.W.Frag} (T : String) (d : PyData) (hT : T ∈ ["str", "int", "bool", "tuple", "list", "dict"] := by decide) : PySem.W.kitOne K (.type (kindD d)) (.type T) = some (isiD T d) := kit_ty (kit_all _ (kind_in d) T hT)
theorem isi_at {K : PySem.W.Frag} {H : Hp} {v : V} {d : PyData} {Q : VK} (T : String) (hT : T ∈ ["str", "int", "bool", "tuple", "list", "dict"]) (h : Dv H v d) (q : Q (.bl (isiD T d)) H) : rIsi K [v, .ty T] H Q :=
  ⟨v, .ty T, _, _, _, rfl, .ty T, ty_of h, kit_ty (kit_all _ (kind_in d) T hT), q⟩
end Lr

namespace Lr
open PySem L2 PySem.Spec PyProof.Rows
/-! ### for i, x in enumerate(a tuple) -/
theorem meets_enum1 {v : Value} {o : Obj} {Hh : Heap → Prop} (B : Begins v o Hh) :
    Meets (Builtin.«enumerate.__new__» ⟨[.type "enumerate", v], []⟩) (fun _ R s => Hh s.heap ∧
      R (.ok (.ret (.ref (s.heap.push o).objs.size)))
        { s with heap := (s.heap.push o).push { cls := .type "enumerate", data := .fields #[.none, .bool false, .ref s.heap.objs.size, rawInt 0, .none, .none] } }) :=
  .of_wp fun prog w A R s hh => by
    obtain ⟨hp, gs, dr, tk, os⟩ := s
    obtain ⟨h1, hR⟩ := hh
    have hsub := sub_enumerate
    have begin1 : ∀ {A2 : Around} {E : Value → Shared → Prop} {Q : Value → Shared → Prop}, Q (.ref hp.objs.size) ⟨hp.push o, gs, dr, tk, os⟩ → wpAny (model prog w) A2 (pyIter v) Q E ⟨hp, gs, dr, tk, os⟩ :=
      fun q => B.iter prog w _ _ ⟨hp, gs, dr, tk, os⟩ _ h1 q
    wp_walk using begin1
    refine wpAny_stack_any fun st => wpAny_pure ?_
    split
    · rename_i cc _ _ _ _ _
      cases (cc == Value.type "enumerate")
      all_goals
        wp_walk using begin1
        exact ⟨_, rfl, hR⟩
    · wp_walk using begin1
      exact ⟨_, rfl, hR⟩
section
variable {prog : Program} {w : World} {A : Around} {E : Value → Shared → Prop} {s : Shared}
theorem call_enum1 {v : Value} {o : Obj} {Hh : Heap → Prop} {Q : Value → Shared → Prop} (B : Begins v o Hh) (h1 : Hh s.heap)
    (k : ∀ h2, IsEnum h2 (s.heap.objs.size + 1) s.heap.objs.size 0 .none → h2.get? s.heap.objs.size = some o → (∀ b ob, s.heap.get? b = some ob → h2.get? b = some ob) → Q (.ref (s.heap.objs.size + 1)) { s with heap := h2 }) :
    wpAny (model prog w) A (call (.type "enumerate") [v]) Q E s := by
  refine callType_new F.called_enumerate (by decide) (F.typeCall_enumerate_1 _) (F.newCall_enumerate_1 _) (fun obj => F.args_object_init_2 obj _) F.entry_enumerate_new (meets_enum1 B) ⟨h1, ?_⟩
  have sz : (s.heap.push o).objs.size = s.heap.objs.size + 1 := Heap.size_push ..
  show _ ∧ _
  rw [sz]
  have en : IsEnum ((s.heap.push o).push { cls := .type "enumerate", data := .fields #[.none, .bool false, .ref s.heap.objs.size, rawInt 0, .none, .none] }) (s.heap.objs.size + 1) s.heap.objs.size 0 .none := by
    have q := Heap.get?_push_size (s.heap.push o) (o := { cls := .type "enumerate", data := .fields #[.none, .bool false, .ref s.heap.objs.size, rawInt 0, .none, .none] }) rfl
    rw [sz] at q
    exact q
  exact ⟨⟨_, en, rfl⟩, k _ en (Heap.get?_push_of_some _ (Heap.get?_push_size _ B.free)) fun b ob x => Heap.get?_push_of_some _ (Heap.get?_push_of_some _ x)⟩
end
def ItT (a : Addr) (xs : List V) : It :=
  ⟨fun i H => H a = some (.tup xs) ∧ i < xs.length, fun i H v G => ∃ T x, v = .ref T ∧ H T = none ∧ xs[i]? = some x ∧ G = upd H T (.tup [.int (i : Nat), x]), fun i H => H a = some (.tup xs) ∧ xs.length ≤ i⟩
theorem turn_enumT {P : Program} {w : World} {K : PySem.W.Frag} {elts : List Expr} {kk : Nat} {tpos : Pos} (a : Addr) (xs : List V) (e it : Addr) :
    Turn P w K (.Tuple elts kk tpos) (ItT a xs) [e, it] e (fun i h => (∃ old, IsEnum h e it ((i : Nat) : Int) old) ∧ h.IsTupleIter it a i ∧ e ≠ it ∧ i ≤ xs.length) where
  mem := by simp
  obj := by
    rintro i h ⟨⟨old, he⟩, ⟨o, ho, hc, hd⟩, _⟩ b hb
    rcases (show b = e ∨ b = it by simpa using hb) with q | q
    · subst q
      exact ⟨_, he, fun v q => nomatch q⟩
    · subst q
      exact ⟨o, ho, fun v q => by rw [hd] at q; cases q⟩
  keep := by
    rintro i h h2 ⟨⟨old, he⟩, ⟨o, ho, r⟩, hne⟩ k
    exact ⟨⟨old, k e (by simp) _ he⟩, ⟨o, k it (by simp) _ ho, r⟩, hne⟩
  item := by
    intro X hP hw hK hc i pins s σ H E I hf st hg
    subst hP hw hK
    obtain ⟨⟨old, he⟩, hit, hne, hle⟩ := st
    obtain ⟨hat, hlt⟩ := hg
    have eLt : e < s.heap.objs.size := Heap.lt_size he
    have iLt : it < s.heap.objs.size := by obtain ⟨_, q, _⟩ := hit; exact Heap.lt_size q
    obtain ⟨_, its, rv, o, ho, hcls, n, hdat⟩ := I.hok a _ hat
    have nai : a ≠ it := by
      intro z
      have q := (hf it (by simp)).1
      rw [← z, hat] at q
      cases q
    have hlen : its.length = xs.length := rv.length.symm
    have D := Draws.tuple (prog := X.prog) (w := X.w) (A := X.A.in1) (I.ok.hd hc) it a nai its.toArray
    have nea : e ≠ a := by
      intro z
      have q := (hf e (by simp)).1
      rw [z, hat] at q
      cases q
    refine wpAny_pyNext_enum_itemD D he ⟨hit, o, ho, hcls, n, hdat⟩ (by simpa [hlen] using hlt) hne (by simp [hne, nea]) fun y h2 t2 hy out hit2 hT hsz hk => ?_
    obtain ⟨x, hx⟩ : ∃ x, xs[i]? = some x := ⟨xs[i], List.getElem?_eq_getElem hlt⟩
    obtain ⟨u, hu, ru⟩ := rv.get hx
    have hyu : y = u := by
      have h3 : its[i]? = some y := by simpa using hy
      rw [hu] at h3
      exact (Option.some.inj h3).symm
    subst hyu
    refine ⟨_, rfl, wpAny_letOwnedTupleGo_enum (s := { s with heap := h2, toks := t2 + 1 }) out fun h3 he3 sb => ?_⟩
    have hT3 : h3.get? s.heap.objs.size = some { cls := .type "tuple", data := .seq #[.int i t2, y] } := (sb.2 _ (Nat.ne_of_gt eLt)).trans hT
    have new : ObjOk X.prog X.w (upd H s.heap.objs.size (.tup [.int (i : Nat), x])) h3 s.heap.objs.size (.tup [.int (i : Nat), x]) :=
      ⟨(by show 2 ≤ sizeLine; decide), [.int i t2, y], .cons ⟨_, rfl⟩ (.cons ru .nil), ⟨_, hT3, rfl, _, rfl⟩⟩
    have kept : ∀ b ob, b ∉ [e, it] → s.heap.get? b = some ob → h3.get? b = some ob := fun b ob hb q =>
      (sb.2 b (fun y => hb (by simp [y]))).trans (hk b ob (fun y => hb (by simp [y])) (fun y => hb (by simp [y])) q)
    have I3 : Inv X pins σ (upd H s.heap.objs.size (.tup [.int (i : Nat), x])) { s with heap := h3, toks := t2 + 1 } := I.turnedNew (ch := [e, it]) kept hf (Nat.le_refl _) new
    refine ⟨.ref s.heap.objs.size, _, I3, rfl, ⟨_, x, rfl, I.hok.fresh (Nat.le_refl _), hx, rfl⟩, ⟨⟨y, ?_⟩, ?_, hne, hlt⟩, fun b hb => ?_⟩
    · have e1 : ((i + 1 : Nat) : Int) = (i : Int) + 1 := by omega
      rw [e1]
      exact he3
    · obtain ⟨⟨o2, ho2, r2⟩, _⟩ := hit2
      exact ⟨o2, (sb.2 it (Ne.symm hne)).trans ho2, r2⟩
    · have lt : b < s.heap.objs.size := by
        rcases (show b = e ∨ b = it by simpa using hb) with q | q <;> (rw [q]; assumption)
      rw [upd_ne (Nat.ne_of_lt lt)]
      exact (hf b hb).1
  done := by
    intro X hP hw hK hc i pins s σ H E I hf st hg
    subst hP hw hK
    obtain ⟨⟨old, he⟩, hit, hne, hle⟩ := st
    obtain ⟨hat, hge⟩ := hg
    have ei : i = xs.length := Nat.le_antisymm hle hge
    obtain ⟨_, its, rv, o, ho, hcls, n, hdat⟩ := I.hok a _ hat
    have nai : a ≠ it := by
      intro z
      have q := (hf it (by simp)).1
      rw [← z, hat] at q
      cases q
    have hlen : its.length = xs.length := rv.length.symm
    have D := Draws.tuple (prog := X.prog) (w := X.w) (A := X.A.in1) (I.ok.hd hc) it a nai its.toArray
    obtain ⟨f0, f1, f2, f3, f4, f5⟩ := hf it (by simp)
    have e2 : its.toArray.size = i := by simp [hlen, ei]
    exact wpAny_pyNext_enum_endD D he (by rw [e2]; exact ⟨hit, o, ho, hcls, n, hdat⟩) fun h2 eb => ⟨rfl, I.turned (t' := s.toks) (fun b o hb q => eb b o hb q) f0 f1 f3 f4 f5⟩
  self := by
    rintro A i s Q E ⟨⟨_, he⟩, _⟩ h
    exact wpAny_pyIter_enum he h
def iEnumT (ta : TA) : TI := fun σ H R => ta σ H fun vs G => ∃ a xs, vs = [.ref a] ∧ G a = some (.tup xs) ∧ R (ItT a xs) G
theorem pi_enumT {X : Cx} {e : Expr} {ta : TA} {p pos tpos : Pos} {elts : List Expr} {kk : Nat} (hg : Gl X "enumerate") (hm : X.mg "enumerate" = none) (ha : PA X [e] ta)
    (hs : starEach [e] X.env = [(false, eval e X.env)] := by rfl) : PI X (.Tuple elts kk tpos) (.Call (.Name "enumerate" p) [e] [] pos) (iEnumT ta) := by
  refine ⟨fun pins s σ H R I h => ?_⟩
  refine Call_ (ld_blt I hg hm boot_enumerate (PyProof.Rows.callWith_type1 (thn (ha.run pos pins s σ H _ I h) ?_) hs rfl))
  rintro us s1 ⟨vs, G, I1, r1, a, xs, rfl, hat, q⟩
  cases r1 with
  | cons r rr =>
    cases rr
    cases r
    obtain ⟨_, its, rv, o, ho, hcls, n, hdat⟩ := I1.hok a _ hat
    refine call_enum1 (begins_tuple a its.toArray) ⟨o, ho, hcls, n, hdat⟩ fun h2 he hit hk => wpAny_pyIter_enum he ?_
    have I2 : Inv X pins σ G { s1 with heap := h2 } := I1.kept (t' := s1.toks) hk
    refine ⟨s1.heap.objs.size + 1, [s1.heap.objs.size + 1, s1.heap.objs.size], _, _, G, rfl, I2, turn_enumT a xs (s1.heap.objs.size + 1) s1.heap.objs.size, ⟨⟨.none, he⟩, ⟨_, hit, rfl, rfl⟩, Nat.succ_ne_self _, Nat.zero_le _⟩, fun b hb => ?_, q⟩
    have le : s1.heap.objs.size ≤ b := by
      rcases (show b = s1.heap.objs.size + 1 ∨ b = s1.heap.objs.size by simpa using hb) with y | y
      · rw [y]; exact Nat.le_succ _
      · rw [y]; exact Nat.le_refl _
    exact I1.fpOk le (I1.hok.fresh le)
/-- the loop: an invariant over the turn's number; the pair is new -/
theorem for_enumT {K : PySem.W.Frag} {a : Addr} {xs : List V} {i j : Nat} {tb : TS} {D : Ends} {σ : L2.St} {H : Hp} (Pv : Nat → L2.St → Hp → Prop) (h0 : Pv 0 σ H) (ht : ∀ n σ2 H2, Pv n σ2 H2 → H2 a = some (.tup xs))
    (hs : ∀ n x σ2 H2 H3, xs[n]? = some x → Pv n σ2 H2 → Ex H2 H3 → tb { D with nx := Pv (n + 1), ct := Pv (n + 1), bk := D.nx } ((σ2.set i (some (.int (n : Int)))).set j (some x)) H3)
    (hd : ∀ σ2 H2, Pv xs.length σ2 H2 → D.nx σ2 H2) :
    ∃ W : Nat → Nat → L2.St → Hp → Prop, (∃ m, W 0 m σ H) ∧ ∀ n m σ2 H2, W n m σ2 H2 →
      ((ItT a xs).stop n H2 ∧ D.nx σ2 H2) ∨ ((ItT a xs).go n H2 ∧ ∃ N : L2.St → Hp → Prop, (∀ σ3 H3, N σ3 H3 → ∃ m2, m2 < m ∧ W (n + 1) m2 σ3 H3) ∧
        ∀ x H3, (ItT a xs).yld n H2 x H3 → gTup K 2 (gCons (gName i) (gCons (gName j) gNil)) x σ2 H3 fun σ4 H4 => tb { D with nx := N, ct := N, bk := D.nx } σ4 H4) := by
  refine ⟨fun n m σ2 H2 => m = xs.length - n ∧ n ≤ xs.length ∧ Pv n σ2 H2, ⟨_, rfl, Nat.zero_le _, h0⟩, ?_⟩
  rintro n m σ2 H2 ⟨rfl, hn, p⟩
  by_cases lt : n < xs.length
  · refine .inr ⟨⟨ht n σ2 H2 p, lt⟩, Pv (n + 1), fun σ3 H3 q => ⟨xs.length - (n + 1), by omega, rfl, lt, q⟩, ?_⟩
    rintro y H3 ⟨T, x, rfl, hT, hx, rfl⟩
    exact ⟨T, _, rfl, SqT.of upd_same, rfl, _, _, rfl, _, _, rfl, rfl, hs n x σ2 H2 _ hx p (Evl.Ex.new hT)⟩
  · have e : n = xs.length := by omega
    subst e
    exact .inl ⟨⟨ht _ σ2 H2 p, Nat.le_refl _⟩, hd σ2 H2 p⟩
/-! ### len(set(a tuple of ints)) -/
theorem perm_in : ∀ {ks ns : List Int}, ks.Nodup → (∀ k ∈ ks, k ∈ ns) → ns.length ≤ ks.length → ks.Perm ns
  | [], ns, _, _, hl => by
    have : ns = [] := List.eq_nil_of_length_eq_zero (by simpa using hl)
    subst this
    exact .nil
  | k :: r, ns, nd, sub, hl => by
    rw [List.nodup_cons] at nd
    have hk : k ∈ ns := sub k (by simp)
    have p := List.perm_cons_erase hk
    have hlen : ns.length = (ns.erase k).length + 1 := by
      have := p.length_eq
      simpa using this
    have ih := perm_in (ks := r) (ns := ns.erase k) nd.2 (fun x hx => by
      have hne : x ≠ k := fun z => nd.1 (z ▸ hx)
      exact (List.mem_erase_of_ne hne).mpr (sub x (by simp [hx]))) (by simp at hl; omega)
    exact (ih.cons k).trans p.symm
theorem card_nodup {ks ns : List Int} (nd : ks.Nodup) (h : ∀ k, k ∈ ns ↔ k ∈ ks) : ks.length = ns.length ↔ ns.Nodup := by
  constructor
  · intro e
    exact (perm_in nd (fun k hk => (h k).mpr hk) (by omega)).nodup_iff.mp nd
  · intro nd2
    have p := perm_in (ks := ks) (ns := ns) nd (fun k hk => (h k).mpr hk)
    by_cases hl : ns.length ≤ ks.length
    · exact (p hl).length_eq
    · exact ((perm_in (ks := ns) (ns := ks) nd2 (fun k hk => (h k).mp hk) (by omega)).length_eq).symm
def tLenSetT (K : PySem.W.Frag) (ta : TE) : TE := fun σ H Q => ta σ H fun x H1 => ∃ (l : Addr) (ns : List Int), x = .ref l ∧ SqT K H1 l (ns.map V.int) ∧ ns.length ≤ 4000 ∧ ∀ m : Nat, (m = ns.length ↔ ns.Nodup) → Q (.int m) H1
theorem pe_lenSetT {X : Cx} {K : PySem.W.Frag} {a : Expr} {ta : TE} {p p2 q pos : Pos} (hK : X.K = K) (hg : Gl X "len") (hm : X.mg "len" = none) (hg2 : Gl X "set") (hm2 : X.mg "set" = none) (ha : PE X a ta) (hc : X.calm = true := by rfl)
    (na : starEach [a] X.env = (false, eval a X.env) :: starEach [] X.env := by rfl) : PE X (.Call (.Name "len" p) [.Call (.Name "set" p2) [a] [] q] [] pos) (tLenSetT K ta) := by
  subst hK
  refine ⟨fun pins s σ H Q I h => Call_ (ld_blt I hg hm bt_len ?_)⟩
  refine PyProof.Rows.callWith_builtin1 (PyProof.Rows.args_cons ?_ rfl) rfl rfl
  refine Call_ (ld_blt I hg2 hm2 bt_set ?_)
  refine PyProof.Rows.callWith_type1 (PyProof.Rows.args_cons (thn (ha.run pins s σ H _ I h) ?_) na) na rfl
  rintro v s1 ⟨x, H1, I1, r1, l, ns, rfl, hq, hl, k⟩
  refine PyProof.Rows.args_nil ?_
  cases r1
  obtain ⟨its, rv, ⟨o, ho, hcls, n, hdat⟩, hz⟩ := I1.tuple hq
  refine call_set_tupI ns (I1.ok.hd hc) ⟨o, ho, hcls, n, hdat⟩ (by simpa using rv.ints) (by unfold scanBound; omega) ?_
  rintro h2 tk c ⟨o2, es, ep, t, ho2, hex, hd2, _, nd, mem, _, hf, hn, _⟩ hcn hk
  refine PyProof.Rows.args_nil ?_
  have I2 : Inv X pins σ H1 { s1 with heap := h2, toks := tk } := I1.kept hk
  have e1 : (es.toList.map keyOf).length = c := by rw [List.length_map, Array.length_toList]; exact hn
  have card : c = ns.length ↔ ns.Nodup := by
    rw [← e1]
    exact card_nodup nd fun k => by rw [← mem k]; simp
  refine call_len_set ho2 hex hd2 hf (by rw [hn]; omega) ⟨.int c, H1, I2.tok _, ⟨_, by rw [hn]⟩, k c card⟩
/-! ### sorted(a tuple of ints) -/
def rSortT (K : PySem.W.Frag) : List V → Hp → VK → Prop := fun vs H Q => ∃ (a : Addr) (ns : List Int), vs = [.ref a] ∧ SqT K H a (ns.map V.int) ∧ ns.length < 64 ∧ ∀ (ys : List Int) (p : Addr), ys.Perm ns → ys.Pairwise (· ≤ ·) → H p = none → Q (.ref p) (upd H p (.lst (ys.map V.int)))
theorem cr_sortT {X : Cx} {K : PySem.W.Frag} (hK : X.K = K) : CallR X (.builtin "sorted") (rSortT K) := by
  subst hK
  intro pins s σ H xs us Q I r h
  obtain ⟨a, ns, rfl, hs, h64, k⟩ := h
  obtain ⟨u, rfl, rx⟩ := vals1 r
  cases rx
  obtain ⟨its, rv, ⟨o, ho, hcls, n, hdat⟩, hz⟩ := I.tuple hs
  have hi : IntsAre its ns := rv.ints
  have hil : its.length = ns.length := hi.length
  refine Calls.call_function_entry PyProof.Rows.kind_sorted PyProof.Rows.plain_sorted PyProof.Rows.entry_sorted (PyProof.Rows.args_sorted1 _) ?_
  unfold Builtin.«sorted»
  refine wpAny_bind (m := checkCount "sorted" 1 1 _) (wpAny_pure ?_)
  have szi : its.toArray.size ≤ sizeLine := by rw [List.size_toArray, hil]; exact Evl.sz_of (by omega)
  refine wpAny_bind (wpAny_collect_seq (A := X.A.in1) a (.inr rfl) ho hcls hdat (fun h2 hk => ?_) szi)
  have I1 : Inv X pins σ H { s with heap := h2 } := I.kept (t' := s.toks) hk
  refine wpAny_bind (wpAny_newList ?_ (by rw [List.toList_toArray, hil]; exact Evl.sz_of (by omega)))
  rw [List.toList_toArray]
  have hoL : (h2.push (seqObj "list" its.toArray 0)).get? h2.objs.size = some (seqObj "list" its.toArray 0) := Heap.get?_push_size _ rfl
  show wpAny _ _ _ _ _ { s with heap := h2.push (seqObj "list" its.toArray 0) }
  refine wpAny_bind (wpAny_holding (wpAny_call_entry PyProof.Rows.slot_list_sort ⟨_, hoL, rfl⟩ PyProof.Rows.entry_list_sort
    (PyProof.Rows.list_sort_tree (s := { s with heap := h2.push (seqObj "list" its.toArray 0) }) hoL hi (by rw [hil]; exact h64) fun out ys g1 g2 g3 => ⟨_, rfl, ?_⟩) (PyProof.Rows.args_list_sort _)))
  obtain ⟨e2, he2⟩ := PyProof.Rows.sortedHeap_at (vs := its) (out := out) hoL
  have hlen : (ys.map V.int).length ≤ sizeLine := by
    rw [List.length_map, g2.length_eq]
    exact Evl.sz_of (by omega)
  refine wpAny_pure ⟨_, rfl, .ref h2.objs.size, upd H h2.objs.size (.lst (ys.map V.int)), I1.laid (t' := s.toks) (fun b u e => ?_) (Nat.le_refl _)
    (show ObjOk X.prog X.w _ _ _ (.lst (ys.map V.int)) from ⟨hlen, out.toList, e2, vals_of_ints g1, by rw [Array.toArray_toList]; exact he2⟩), rfl, k ys _ g2 g3 (I1.hok.fresh (Nat.le_refl _))⟩
  have lt : b < h2.objs.size := Heap.lt_size e
  rw [PyProof.Rows.sortedHeap_old (Nat.ne_of_lt lt) (by rw [size_push']; exact Nat.lt_succ_of_lt lt)]
  exact Heap.get?_push_of_some _ e
/-! ### all(a list of truths) -/
def rAllL (K : PySem.W.Frag) : List V → Hp → VK → Prop := fun vs H Q => ∃ (a : Addr) (bs : List Bool), vs = [V.ref a] ∧ SqL K H a (bs.map V.bl) ∧ Q (.bl (bs.all id)) H
theorem k_all {X : Cx} {K : PySem.W.Frag} (hK : X.K = K) (hc : X.calm = true) : CallR X (.builtin "all") (rAllL K) := by
  subst hK
  exact cr_all hc
/-! ### a tuple backwards: some tuple of its items -/
theorem vals_pick {xs : List V} {its : List Value} (r : Vals xs its) (f : Nat → Nat) : ∀ l : List Nat, Vals (l.filterMap fun k => xs[f k]?) (l.filterMap fun k => its[f k]?)
  | [] => .nil
  | k :: l => by
    have rest := vals_pick r f l
    cases e : xs[f k]? with
    | none =>
      have e2 := r.none_of e
      simp only [List.filterMap_cons, e, e2]
      exact rest
    | some x =>
      obtain ⟨u, e2, ru⟩ := r.get e
      simp only [List.filterMap_cons, e, e2]
      exact .cons ru rest
section
variable {prog : Program} {w : World} {A : Around} {E : Value → Shared → Prop} {s : Shared}
theorem back_applied {sl : Addr} {vl vu vs : Value} {n : Nat} {Q : Int × Int × Nat → Shared → Prop} (hs : s.heap.IsSliceOf sl vl vu vs) (pl : IsPart vl none) (pu : IsPart vu none) (ps : IsPart vs (some (-1)))
    (h : ∀ lo k, k ≤ n → Q (lo, -1, k) s) : wpAny (model prog w) A (Builtin.Slice.sliceApplied (.ref sl) (pure (n : Int))) Q E s := by
  obtain ⟨os, hos, hcs, hds⟩ := id hs
  unfold Builtin.Slice.sliceApplied Builtin.Slice.sliceFields
  refine wpAny_bind (wpAny_bind (wpAny_field hos hds (x := vl) rfl (wpAny_bind (wpAny_field hos hds (x := vu) rfl (wpAny_bind (wpAny_field hos hds (x := vs) rfl (wpAny_pure ?_)))))))
  refine wpAny_bind (HT.slicePart_ ps ?_)
  show wpAny _ _ (if ((-1 : Int) == 0) = true then _ else _) _ _ s
  rw [if_neg (by decide)]
  refine wpAny_bind (HT.slicePart_ pl (wpAny_bind (HT.slicePart_ pu (wpAny_bind (wpAny_pure ?_)))))
  show wpAny _ _ (match Builtin.Slice.sliceAdjust none none (-1) (n : Int) with | (lo, hi) => pure (lo, (-1 : Int), Builtin.Slice.slicePlaces lo hi (-1))) _ _ s
  have e1 : Builtin.Slice.sliceAdjust none none (-1) (n : Int) = ((n : Int) - 1, -1) := rfl
  rw [e1]
  refine wpAny_pure (h _ _ ?_)
  unfold Builtin.Slice.slicePlaces
  rw [if_neg (by decide)]
  split
  · have e2 : ((n : Int) - 1 - -1 - 1) / (- -1) = (n : Int) - 1 := by
      rw [show (- -1 : Int) = 1 by decide, Int.ediv_one]
      omega
    rw [e2]
    omega
  · simp
theorem getItem_back {t sl : Addr} {items : Array Value} {vl vu vs : Value} {Q : Value → Shared → Prop} (ht : IsTup s.heap t items) (hs : s.heap.IsSliceOf sl vl vu vs) (pl : IsPart vl none) (pu : IsPart vu none) (ps : IsPart vs (some (-1))) (hsz : items.size ≤ sizeLine)
    (h : ∀ (lo : Int) (k : Nat), k ≤ items.size → Q (.ref s.heap.objs.size) { s with heap := s.heap.push { cls := .type "tuple", data := .seq ((List.range k).filterMap fun (j : Nat) => items[(lo + (j : Int) * -1).toNat]?).toArray } }) :
    wpAny (model prog w) A (getItem (.ref t) (.ref sl)) Q E s := by
  obtain ⟨os, hos, hcs, hds⟩ := id hs
  have hTs : s.TypeIs (.ref sl) "slice" := ⟨os, hos, hcs⟩
  unfold getItem
  try with_reducible refine wpAny_holding ?_
  first | refine wpAny_bind (wpAny_pure ?_) | skip
  refine wpAny_bind (wpAny_sequenceKey ht.typeIs (by decide) ?_)
  refine wpAny_bind (wpAny_callSpecial?_slot (name := Str.ofString "__getitem__") ht.typeIs PyProof.Rows.slot_tuple_getitem
    (wpAny_call_entry PyProof.Rows.slot_tuple_getitem ht.typeIs entry_tuple_getitem ?_ (args_tuple_getitem _ _)))
  show wpAny _ _ (Builtin.Tuple.tupleItemsOf (.ref t) >>= _) _ _ s
  refine wpAny_bind (tupleItemsOf_ ht (wpAny_bind (wpAny_typeOf hTs ?_)))
  rw [if_pos (by decide)]
  refine wpAny_bind (back_applied hs pl pu ps fun lo k hk => ?_)
  have ok : sizeOk (.seq ((List.range k).filterMap fun (j : Nat) => items[(lo + (j : Int) * -1).toNat]?).toArray) := by
    show ((List.range k).filterMap fun (j : Nat) => items[(lo + (j : Int) * -1).toNat]?).toArray.size ≤ sizeLine
    rw [List.size_toArray]
    have := List.length_filterMap_le (fun (j : Nat) => items[(lo + (j : Int) * -1).toNat]?) (List.range k)
    rw [List.length_range] at this
    omega
  have no : ¬ ((lo == 0 && (-1 : Int) == 1 && k == items.size) = true) := by simp
  show wpAny _ _ (if (lo == 0 && (-1 : Int) == 1 && k == items.size) = true then _ else _) _ _ s
  rw [if_neg no]
  have q := h lo k hk
  first
    | exact wpAny_bind (m := Builtin.Tuple.tupleExact _) (wpAny_newObj_type (wpAny_pure ⟨_, rfl, wpAny_pure q⟩) ok)
    | exact wpAny_bind (m := Builtin.Tuple.tupleExact _) (wpAny_newObj_type (wpAny_bind (wpAny_pure (wpAny_pure ⟨_, rfl, wpAny_pure q⟩))) ok)
    | exact wpAny_bind (wpAny_bind (m := Builtin.Tuple.tupleExact _) (wpAny_newObj_type (wpAny_pure (wpAny_pure ⟨_, rfl, wpAny_pure q⟩)) ok))
    | exact wpAny_bind (wpAny_bind (m := Builtin.Tuple.tupleExact _) (wpAny_newObj_type (wpAny_pure ⟨_, rfl, wpAny_pure q⟩) ok))
end
def tRevT (te : TE) : TE := fun σ H Q => te σ H fun x H1 => ∃ (a : Addr) (xs : List V), x = .ref a ∧ H1 a = some (.tup xs) ∧ ∀ (f : Nat → Nat) (k : Nat) p, k ≤ xs.length → H1 p = none → Q (.ref p) (upd H1 p (.tup ((List.range k).filterMap fun j => xs[f j]?)))
theorem pe_revT {X : Cx} {e : Expr} {te : TE} {k : Nat} {p1 p2 p3 pos : Pos} (he : PE X e te) : PE X (.Subscript e (.Slice none none (some (.UnaryOp .USub (.Constant (.int 1) k p1) p2)) p3) pos) (tRevT te) := by
  refine ⟨fun pins s σ H Q I h => Subscript_ (thn (he.run pins s σ H _ I h) ?_)⟩
  rintro v s1 ⟨x, H1, I1, r1, a, xs, rfl, hx, q⟩
  cases r1
  have step : PO X (some (.UnaryOp .USub (.Constant (.int 1) k p1) p2)) (tPart (tUn (rU fun i => .int (-i)) (tC (.int 1)))) := po_some (pe_un un_neg pe_int)
  refine wpAny_Slice (thn (po_none.run pins s1 σ H1 (fun o G => o = none ∧ G = H1) I1 ⟨rfl, rfl⟩) ?_)
  rintro vl s2 ⟨l, H2, I2, pl, rfl, rfl⟩
  refine thn (po_none.run pins s2 σ H2 (fun o G => o = none ∧ G = H2) I2 ⟨rfl, rfl⟩) ?_
  rintro vu s3 ⟨u, H3, I3, pu, rfl, rfl⟩
  refine thn (step.run pins s3 σ H3 (fun o G => o = some (-1) ∧ G = H3) I3 ⟨1, rfl, -1, rfl, rfl, rfl⟩) ?_
  rintro vs s4 ⟨o, H4, I4, ps, rfl, rfl⟩
  have I5 : Inv X pins σ H4 { s4 with heap := s4.heap.push { cls := .type "slice", data := .fields #[vl, vu, vs] } } := I4.kept (t' := s4.toks) fun b ob q => Heap.get?_push_of_some _ q
  obtain ⟨its, rv, ht, hz⟩ := I5.tuple (SqT.of hx)
  have hlen : its.length = xs.length := rv.length.symm
  refine tail_any (ops := [.ref a, .ref s4.heap.objs.size]) ht.typeIs (PyProof.Rows.slot_tuple_getitem.lookup) ?_ (by with_unfolding_all rfl)
  refine getItem_back ht (Heap.IsSliceOf.new _ vl vu vs) pl pu ps (by rw [List.size_toArray, hlen]; exact hz) fun lo n hn => ?_
  have hn2 : n ≤ xs.length := by rw [List.size_toArray, hlen] at hn; exact hn
  have same : ((List.range n).filterMap fun (j : Nat) => its.toArray[(lo + (j : Int) * -1).toNat]?) = (List.range n).filterMap fun (j : Nat) => its[(lo + (j : Int) * -1).toNat]? := by
    congr 1
    funext j
    simp
  rw [same]
  have rv2 := vals_pick rv (fun j => (lo + (j : Int) * -1).toNat) (List.range n)
  have l2 : ((List.range n).filterMap fun (j : Nat) => xs[(lo + (j : Int) * -1).toNat]?).length ≤ sizeLine := by
    have := List.length_filterMap_le (fun (j : Nat) => xs[(lo + (j : Int) * -1).toNat]?) (List.range n)
    rw [List.length_range] at this
    omega
  exact ⟨.ref _, _, I5.laid (t' := s4.toks) (o := .tup ((List.range n).filterMap fun (j : Nat) => xs[(lo + (j : Int) * -1).toNat]?)) (fun b ob q => Heap.get?_push_of_some _ q) (Nat.le_refl _) ⟨l2, _, rv2, IsTup.new _ _⟩, rfl, q _ n _ hn2 (I5.hok.fresh (Nat.le_refl _))⟩
end Lr

namespace Lr
open PySem L2 PySem.SeqAt
/-! ### compared with [] or (), whatever the items are -/
def rNeNil (K : PySem.W.Frag) : R2 := fun x y H Q => ∃ a b xs, x = .ref a ∧ y = .ref b ∧ SqL K H a xs ∧ SqL K H b [] ∧ Q (.bl (decide (xs ≠ []))) H
def rEqNilT (K : PySem.W.Frag) : R2 := fun x y H Q => ∃ a b xs, x = .ref a ∧ y = .ref b ∧ SqT K H a xs ∧ SqT K H b [] ∧ Q (.bl (decide (xs = []))) H
theorem ko_neNil {X : Cx} {K : PySem.W.Frag} (h : X.K = K) (hu : X.A.units + 64 < cLine) : OpR X (compareOp .NotEq) (rNeNil K) := by
  subst h
  intro pins s σ H x y v u Q I rx ry h
  obtain ⟨a, b, xs, rfl, rfl, h1, h2, q⟩ := h
  cases rx
  cases ry
  obtain ⟨its, rv, ⟨o, n, ho, hc, _, hd⟩, _⟩ := I.list h1
  obtain ⟨its2, rv2, ⟨o2, n2, ho2, hc2, _, hd2⟩, _⟩ := I.list h2
  cases rv2
  have i1 : s.heap.IsList a its.toArray := ⟨o, ho, hc, n, hd⟩
  have i2 : s.heap.IsList b #[] := ⟨o2, ho2, hc2, n2, hd2⟩
  cases rv with
  | nil =>
    exact RcNeAt.lists (e := fun _ => true) i1 i2 rfl (by omega) (fun j h1 _ => absurd h1 (Nat.not_lt_zero j)) X.prog X.w _ _ ⟨.bl _, H, I, rfl, q⟩
  | cons r rv =>
    exact RcNeAt.lists_lengths i1 i2 (by simp) (by omega) X.prog X.w _ _ ⟨.bl _, H, I, rfl, q⟩
theorem ko_eqNilT {X : Cx} {K : PySem.W.Frag} (h : X.K = K) (hu : X.A.units + 64 < cLine) : OpR X (compareOp .Eq) (rEqNilT K) := by
  subst h
  intro pins s σ H x y v u Q I rx ry h
  obtain ⟨a, b, xs, rfl, rfl, h1, h2, q⟩ := h
  cases rx
  cases ry
  obtain ⟨its, rv, ⟨o, ho, hc, n, hd⟩, _⟩ := I.tuple h1
  obtain ⟨its2, rv2, ⟨o2, ho2, hc2, n2, hd2⟩, _⟩ := I.tuple h2
  cases rv2
  have i1 : s.heap.IsTuple a its.toArray := ⟨o, ho, hc, n, hd⟩
  have i2 : s.heap.IsTuple b #[] := ⟨o2, ho2, hc2, n2, hd2⟩
  have G := RcAt.tuples (A := X.A) (e := fun _ => true) i1 i2 (by omega) (fun j _ h2 => absurd h2 (Nat.not_lt_zero j))
  cases rv with
  | nil => exact G X.prog X.w _ _ ⟨.bl _, H, I, rfl, q⟩
  | cons r rv => exact G X.prog X.w _ _ ⟨.bl _, H, I, by simp; rfl, q⟩
end Lr

namespace Lr
open PySem L2
/-! ### what is known of data (B) while other things of the heap (H) may change: both grow, what is new in B is new in H -/
structure Grow (B H B' H' : Hp) : Prop where
  bb : Ex B B'
  bh : Ex B' H'
  hh : Ex H H'
  sep : ∀ a o, B' a = some o → B a = some o ∨ H a = none
theorem Grow.free {B H B' H' : Hp} (g : Grow B H B' H') {l : Addr} {o : HO} (h1 : B l = none) (h2 : H l = some o) : B' l = none := by
  cases q : B' l with
  | none => rfl
  | some u =>
    rcases g.sep l u q with z | z
    · rw [h1] at z; cases z
    · rw [h2] at z; cases z
def mix (B H H' : Hp) : Hp := fun a => if H a = none then H' a else B a
theorem mix_new {B H H' : Hp} {p : Addr} {o : HO} (h : H p = none) (h2 : H' p = some o) : mix B H H' p = some o := by
  unfold mix
  rw [if_pos h]
  exact h2
theorem mix_grow {B H H' : Hp} (b : Ex B H) (e : Ex H H') : Grow B H (mix B H H') H' := by
  refine ⟨fun a o h => ?_, fun a o h => ?_, e, fun a o h => ?_⟩
  · unfold mix
    rw [if_neg (by rw [b a o h]; exact fun z => nomatch z)]
    exact h
  · unfold mix at h
    by_cases q : H a = none
    · rw [if_pos q] at h; exact h
    · rw [if_neg q] at h; exact e a o (b a o h)
  · unfold mix at h
    by_cases q : H a = none
    · exact .inr q
    · rw [if_neg q] at h; exact .inl h
def oddD : List PyData := [.none, .bool true, .bool false, .int (-1), .int 0, .int 1, .int 6, .int 7, .int (10 ^ 39), .str "", .str "a", .str "ap", .str "0", .tuple [], .list [], .dict [], .tuple [.int 0], .list [.int 0], .tuple [.bool true], .tuple [.int 0, .int 1],
  .tuple [.str "a", .str "p"], .tuple [.int 1, .int 0], .str "none", .dict [(.str "a", .int 0)], .tuple [.tuple [.int 0], .tuple [.int 0]]]
theorem merge_one : mergeK [] [((Sum.inr "a" : Key), V.int 0)] = [((Sum.inr "a" : Key), V.int 0)] := by simp [mergeK, putK]
abbrev sOdd : Stmt := topS 19
abbrev nOdd : List Str := ["_law_can", "_law_items"]
theorem scOdd : FnScope nOdd ["_law_can"] (defScope sOdd) :=
  ⟨rfl, rfl, rfl, by decide +kernel, rfl, by decide +kernel, by decide +kernel⟩
section
variable {P : Program} {w : World} {K : PySem.W.Frag} {mg : Str → Option Value} {base : Heap}
def spOdd (P : Program) (w : World) : Sp := fun vs H Q _ => ∃ (c : Addr) (B : Hp), vs = [.ref c] ∧ Can P w H c ∧ Ex B H ∧ ∀ v d B' H', Grow B H B' H' → Dv B' v d → d ∈ oddD → Q v H'
theorem ok_odd {f : Addr} {fd : FuncData} (F : Fun K "_law_odd" "_law_odd" sOdd f fd) (T : Blt mg) (c_law_one : Cal P w K mg base 2 "_law_one" ["_law_can", "_law_items"] (spOne P w)) :
    FnOk P w K mg base CX0 3 f fd ["_law_can"] (spOdd P w) := by
  refine F.ok scOdd (fun vs H Q E h => ?_) (fun cdv A outer s H vs Q E hr h => ?_)
  · obtain ⟨c, B, rfl, _⟩ := h
    rfl
  obtain ⟨c, B, rfl, C, hB, k⟩ := h
  refine ⟨_, (pss_cons (ps_set (i := 1) scOdd.nd rfl (Or.inl rfl) (pe_lst (pa_cons pe_non (pa_cons pe_bl (pa_cons pe_bl (pa_cons (pe_un un_neg pe_int) (pa_cons pe_int (pa_cons pe_int (pa_cons pe_int (pa_cons pe_int (pa_cons (pe_op op_pow pe_int pe_int) (pa_cons pe_str (pa_cons pe_str (pa_cons pe_str (pa_cons pe_str (pa_cons (pe_tup pa_nil) (pa_cons (pe_lst pa_nil) (pa_cons pe_dnewK (pa_cons (pe_tup (pa_cons pe_int pa_nil)) (pa_cons (pe_lst (pa_cons pe_int pa_nil)) (pa_cons (pe_tup (pa_cons pe_bl pa_nil)) (pa_cons (pe_tup (pa_cons pe_int (pa_cons pe_int pa_nil))) pa_nil))))))))))))))))))))))
    (pss_one (ps_ret (pe_cal c_law_one (hr.mono (by decide)) rfl (pa_cons (pv 0) (pa_cons (pe_op op_cat (pv 1) (pe_lst (pa_cons (pe_tup (pa_cons pe_str (pa_cons pe_str pa_nil))) (pa_cons (pe_tup (pa_cons pe_int (pa_cons pe_int pa_nil))) (pa_cons pe_str (pa_cons (pe_disp (pps_cons pe_str pe_int pps_nil) (by rfl) (by rfl) (fun z => by cases z) (by decide)) (pa_cons (pe_tup (pa_cons (pe_tup (pa_cons pe_int pa_nil)) (pa_cons (pe_tup (pa_cons pe_int pa_nil)) pa_nil))) pa_nil))))))) pa_nil)))))), ?_⟩
  have z0 : 0 ≤ sizeLine := by decide
  have z1 : 1 ≤ sizeLine := by decide
  have z2 : 2 ≤ sizeLine := by decide
  refine ⟨1, rfl, _, _, rfl, rfl, ⟨by decide, by decide, by decide⟩, z0, fun p1 h1 => ⟨z0, fun p2 h2 => fun p3 h3 => ⟨z1, fun p4 h4 => ⟨z1, fun p5 h5 => ⟨z1, fun p6 h6 => ⟨z2, fun p7 h7 => ⟨(by show 20 ≤ sizeLine; decide), fun l1 hl1 => ?_⟩⟩⟩⟩⟩⟩⟩
  have e1 : Ex H (upd H p1 (.tup [])) := Evl.Ex.new h1
  have e2 := e1.trans (Evl.Ex.new h2 (o := .lst []))
  have e3 := e2.trans (Evl.Ex.new h3 (o := .dK []))
  have e4 := e3.trans (Evl.Ex.new h4 (o := .tup [.int 0]))
  have e5 := e4.trans (Evl.Ex.new h5 (o := .lst [.int 0]))
  have e6 := e5.trans (Evl.Ex.new h6 (o := .tup [.bl true]))
  have e7 := e6.trans (Evl.Ex.new h7 (o := .tup [.int 0, .int 1]))
  have n1 : H p1 = none := h1
  have n2 : H p2 = none := Evl.fresh_back e1 h2
  have n3 : H p3 = none := Evl.fresh_back e2 h3
  have n4 : H p4 = none := Evl.fresh_back e3 h4
  have n5 : H p5 = none := Evl.fresh_back e4 h5
  have n6 : H p6 = none := Evl.fresh_back e5 h6
  have n7 : H p7 = none := Evl.fresh_back e6 h7
  have f7 := Evl.Ex.new h7 (o := .tup [.int 0, .int 1])
  have f6 := (Evl.Ex.new h6 (o := .tup [.bl true])).trans f7
  have f5 := (Evl.Ex.new h5 (o := .lst [.int 0])).trans f6
  have f4 := (Evl.Ex.new h4 (o := .tup [.int 0])).trans f5
  have f3 := (Evl.Ex.new h3 (o := .dK [])).trans f4
  have f2 := (Evl.Ex.new h2 (o := .lst [])).trans f3
  have a1 := f2 _ _ (upd_same (H := H) (a := p1) (o := .tup []))
  have a2 := f3 _ _ (upd_same (a := p2) (o := .lst []))
  have a3 := f4 _ _ (upd_same (a := p3) (o := .dK []))
  have a4 := f5 _ _ (upd_same (a := p4) (o := .tup [.int 0]))
  have a5 := f6 _ _ (upd_same (a := p5) (o := .lst [.int 0]))
  have a6 := f7 _ _ (upd_same (a := p6) (o := .tup [.bl true]))
  have a7 : upd (upd (upd (upd (upd (upd (upd H p1 (.tup [])) p2 (.lst [])) p3 (.dK [])) p4 (.tup [.int 0])) p5 (.lst [.int 0])) p6 (.tup [.bl true])) p7 (.tup [.int 0, .int 1]) p7 = some (.tup [.int 0, .int 1]) := upd_same
  generalize upd (upd (upd (upd (upd (upd (upd H p1 (.tup [])) p2 (.lst [])) p3 (.dK [])) p4 (.tup [.int 0])) p5 (.lst [.int 0])) p6 (.tup [.bl true])) p7 (.tup [.int 0, .int 1]) = G1 at *
  -- the second list
  refine ⟨_, rfl, _, rfl, z2, fun q1 g1 => ⟨z2, fun q2 g2 => fun q3 g3 => ⟨upd_same, [((Sum.inr "a" : Key), V.int 0)], rfl, (by show 1 ≤ 15; decide), z1, fun q4 g4 => ⟨z1, fun q5 g5 => ⟨z2, fun q6 g6 => ⟨(by show 5 ≤ sizeLine; decide), fun l2 hl2 => ?_⟩⟩⟩⟩⟩⟩
  rw [merge_one] at *
  generalize hL : [V.non, V.bl true, V.bl false, V.int (-1), V.int 0, V.int 1, V.int 6, V.int 7, V.int (10 ^ (39 : Int).toNat), V.str "", V.str "a", V.str "ap", V.str "0", V.ref p1, V.ref p2, V.ref p3, V.ref p4, V.ref p5, V.ref p6, V.ref p7] = L1 at *
  have x0 : Ex G1 (upd G1 l1 (.lst L1)) := Evl.Ex.new hl1
  have al : upd G1 l1 (.lst L1) l1 = some (.lst L1) := upd_same
  generalize upd G1 l1 (.lst L1) = G2 at *
  have x1 : Ex G2 (upd G2 q1 (.tup [.str "a", .str "p"])) := Evl.Ex.new g1
  have x2 := x1.trans (Evl.Ex.new g2 (o := .tup [.int 1, .int 0]))
  have y3 : Ex (upd (upd G2 q1 (.tup [.str "a", .str "p"])) q2 (.tup [.int 1, .int 0])) (upd (upd (upd (upd G2 q1 (.tup [.str "a", .str "p"])) q2 (.tup [.int 1, .int 0])) q3 (.dK [])) q3 (.dK [((Sum.inr "a" : Key), V.int 0)])) := Evl.Ex.mut (Evl.Ex.new g3) g3
  have x3 := x2.trans y3
  have x4 := x3.trans (Evl.Ex.new g4 (o := .tup [.int 0]))
  have x5 := x4.trans (Evl.Ex.new g5 (o := .tup [.int 0]))
  have x6 := x5.trans (Evl.Ex.new g6 (o := .tup [.ref q4, .ref q5]))
  have t0 := e7.trans x0
  have m1 : H q1 = none := Evl.fresh_back t0 g1
  have m2 : H q2 = none := Evl.fresh_back (t0.trans x1) g2
  have m3 : H q3 = none := Evl.fresh_back (t0.trans x2) g3
  have m4 : H q4 = none := Evl.fresh_back (t0.trans x3) g4
  have m5 : H q5 = none := Evl.fresh_back (t0.trans x4) g5
  have m6 : H q6 = none := Evl.fresh_back (t0.trans x5) g6
  have w6 := Evl.Ex.new g6 (o := .tup [.ref q4, .ref q5])
  have w5 := (Evl.Ex.new g5 (o := .tup [.int 0])).trans w6
  have w4 := (Evl.Ex.new g4 (o := .tup [.int 0])).trans w5
  have w3 := y3.trans w4
  have w2 := (Evl.Ex.new g2 (o := .tup [.int 1, .int 0])).trans w3
  have b1 := w2 _ _ (upd_same (H := G2) (a := q1) (o := .tup [.str "a", .str "p"]))
  have b2 := w3 _ _ (upd_same (a := q2) (o := .tup [.int 1, .int 0]))
  have b3 := w4 _ _ (upd_same (a := q3) (o := .dK [((Sum.inr "a" : Key), V.int 0)]))
  have b4 := w5 _ _ (upd_same (a := q4) (o := .tup [.int 0]))
  have b5 := w6 _ _ (upd_same (a := q5) (o := .tup [.int 0]))
  have b6 : upd (upd (upd (upd (upd (upd (upd G2 q1 (.tup [.str "a", .str "p"])) q2 (.tup [.int 1, .int 0])) q3 (.dK [])) q3 (.dK [((Sum.inr "a" : Key), V.int 0)])) q4 (.tup [.int 0])) q5 (.tup [.int 0])) q6 (.tup [.ref q4, .ref q5]) q6 = some (.tup [.ref q4, .ref q5]) := upd_same
  generalize upd (upd (upd (upd (upd (upd (upd G2 q1 (.tup [.str "a", .str "p"])) q2 (.tup [.int 1, .int 0])) q3 (.dK [])) q3 (.dK [((Sum.inr "a" : Key), V.int 0)])) q4 (.tup [.int 0])) q5 (.tup [.int 0])) q6 (.tup [.ref q4, .ref q5]) = G3 at *
  have ll : L1.length = 20 := by rw [← hL]; rfl
  have nl : l1 ≠ l2 := ne_of_none (x6 _ _ al) hl2
  refine ⟨l1, l2, L1, _, rfl, rfl, by rw [upd_ne nl]; exact x6 _ _ al, upd_same, by rw [ll]; exact (by decide : 20 + 5 ≤ sizeLine), fun l3 hl3 => ?_⟩
  have x7 : Ex G3 (upd (upd G3 l2 (.lst [V.ref q1, V.ref q2, V.str "none", V.ref q3, V.ref q6])) l3 (.lst (L1 ++ [V.ref q1, V.ref q2, V.str "none", V.ref q3, V.ref q6]))) := (Evl.Ex.new hl2).trans (Evl.Ex.new hl3)
  refine ⟨c, l3, _, rfl, C.mono ((t0.trans x6).trans x7), upd_same, by simp, by simp [ll], fun v H' e hv => ?_⟩
  have eG : Ex G3 H' := x7.trans e
  have e1G : Ex G1 H' := (x0.trans x6).trans eG
  have all : DvAll (mix B H H') (L1 ++ [V.ref q1, V.ref q2, V.str "none", V.ref q3, V.ref q6]) oddD := by
    rw [← hL]
    have t {p : Addr} {o : HO} (n : H p = none) (hp : H' p = some o) : mix B H H' p = some o := mix_new n hp
    exact .cons .non (.cons (.bl _) (.cons (.bl _) (.cons (.int _) (.cons (.int _) (.cons (.int _) (.cons (.int _) (.cons (.int _) (.cons (.int _) (.cons (.str _) (.cons (.str _) (.cons (.str _) (.cons (.str _)
      (.cons (.tup (t n1 (e1G _ _ a1)) .nil) (.cons (.lst (t n2 (e1G _ _ a2)) .nil) (.cons (.dic (t n3 (e1G _ _ a3)) .nil) (.cons (.tup (t n4 (e1G _ _ a4)) (.cons (.int _) .nil)) (.cons (.lst (t n5 (e1G _ _ a5)) (.cons (.int _) .nil))
      (.cons (.tup (t n6 (e1G _ _ a6)) (.cons (.bl _) .nil)) (.cons (.tup (t n7 (e1G _ _ a7)) (.cons (.int _) (.cons (.int _) .nil)))
      (.cons (.tup (t m1 (eG _ _ b1)) (.cons (.str _) (.cons (.str _) .nil))) (.cons (.tup (t m2 (eG _ _ b2)) (.cons (.int _) (.cons (.int _) .nil))) (.cons (.str _) (.cons (.dic (t m3 (eG _ _ b3)) (.cons (k := Sum.inr "a") (.int _) .nil))
      (.cons (.tup (t m6 (eG _ _ b6)) (.cons (.tup (t m4 (eG _ _ b4)) (.cons (.int _) .nil)) (.cons (.tup (t m5 (eG _ _ b5)) (.cons (.int _) .nil)) .nil))) .nil))))))))))))))))))))))))
  obtain ⟨i, hi⟩ := List.mem_iff_getElem?.mp hv
  obtain ⟨d, hd, hdv⟩ := all.get hi
  exact k v d _ H' (mix_grow hB (((t0.trans x6).trans x7).trans e)) hdv (List.mem_of_getElem? hd)
end
end Lr

namespace Lr
open PySem L2
/-! ### what a fault of a rule or a row is: said once -/
def withinD (d : PyData) (lo hi : Int) : Bool := match d with
  | .int i => decide (lo ≤ i) && decide (i ≤ hi)
  | _ => false
def numD (d : PyData) : Bool := isiD "int" d && !isiD "bool" d
theorem numD_within {d : PyData} {lo hi : Int} (h : numD d = false) : withinD d lo hi = false := by
  cases d <;> first | rfl | (simp [numD, isiD, kindD] at h)
theorem numD_int {d : PyData} (h : numD d = true) : ∃ i, d = .int i := by
  cases d with
  | int i => exact ⟨i, rfl⟩
  | _ => simp [numD, isiD, kindD] at h
/-- an arrangement of n lanes -/
def ArrOk (n : Nat) (d : PyData) : Prop := ∃ ns : List Int, d = .tuple (ns.map .int) ∧ ns.Perm (upto n)
def tellI (k : Nat) (x : Str) : PyData := .tuple [.int k, .str x]
/-- the first item that is not so -/
def First (p : PyData → Prop) (ds : List PyData) (x : Str) (r : PyData) : Prop := (r = .none ∧ ∀ d ∈ ds, p d) ∨ ∃ (k : Nat) (d : PyData), r = tellI k x ∧ ds[k]? = some d ∧ ¬ p d ∧ ∀ (j : Nat) (e : PyData), j < k → ds[j]? = some e → p e
theorem First.uniq {p : PyData → Prop} {ds : List PyData} {x : Str} {r q : PyData} (a : First p ds x r) (b : First p ds x q) : r = q := by
  rcases a with ⟨rfl, h⟩ | ⟨k, d, rfl, h1, h2, h3⟩
  · rcases b with ⟨rfl, _⟩ | ⟨k, d, rfl, h1, h2, h3⟩
    · rfl
    · exact absurd (h d (List.mem_of_getElem? h1)) h2
  · rcases b with ⟨rfl, h⟩ | ⟨k', d', rfl, g1, g2, g3⟩
    · exact absurd (h d (List.mem_of_getElem? h1)) h2
    · rcases Nat.lt_trichotomy k k' with q | q | q
      · exact absurd (g3 k d q h1) h2
      · rw [q]
      · exact absurd (h3 k' d' q g1) g2
def RuleRes (d r : PyData) : Prop := match d with
  | .tuple ds => if 2 ≤ ds.length ∧ ds.length ≤ 7 then First (ArrOk (ds.length - 1)) ds "preference" r else r = .tuple [.none, .str "rule"]
  | _ => r = .tuple [.none, .str "rule"]
def RowRes (n : Nat) (d r : PyData) : Prop := match d with
  | .tuple ds => if 1 ≤ ds.length ∧ ds.length ≤ 40 then First (fun e => withinD e 0 ((n : Int) - 1) = true) ds "lane" r else r = .tuple [.none, .str "row"]
  | _ => r = .tuple [.none, .str "row"]
theorem RuleRes.uniq {d r q : PyData} (a : RuleRes d r) (b : RuleRes d q) : r = q := by
  cases d with
  | tuple ds =>
    unfold RuleRes at a b
    simp only at a b
    split at a
    · rename_i h
      rw [if_pos h] at b
      exact a.uniq b
    · rename_i h
      rw [if_neg h] at b
      exact a.trans b.symm
  | _ => exact (show r = _ from a).trans (show q = _ from b).symm
theorem RowRes.uniq {n : Nat} {d r q : PyData} (a : RowRes n d r) (b : RowRes n d q) : r = q := by
  cases d with
  | tuple ds =>
    unfold RowRes at a b
    simp only at a b
    split at a
    · rename_i h
      rw [if_pos h] at b
      exact a.uniq b
    · rename_i h
      rw [if_neg h] at b
      exact a.trans b.symm
  | _ => exact (show r = _ from a).trans (show q = _ from b).symm
theorem upto_nodup (n : Nat) : (upto n).Nodup := by
  unfold upto
  exact List.Pairwise.map _ (fun a b hab z => hab (Int.ofNat.inj z)) List.nodup_range
theorem perm_upto {ns : List Int} {n : Nat} (hl : ns.length = n) (h : ∀ x ∈ ns, 0 ≤ x ∧ x < n) : ns.Nodup ↔ ns.Perm (upto n) := by
  constructor
  · intro nd
    exact perm_in nd (fun k hk => mem_upto.mpr (h k hk)) (by rw [upto_len]; omega)
  · intro p
    exact p.nodup_iff.mpr (upto_nodup n)
theorem tup_inv {H : Hp} {v : V} {ds : List PyData} (h : Dv H v (.tuple ds)) : ∃ a xs, v = .ref a ∧ H a = some (.tup xs) ∧ DvAll H xs ds := by
  cases h with
  | tup h t => exact ⟨_, _, rfl, h, t⟩
/-- items that are all numbers -/
theorem all_ints {H : Hp} : ∀ {xs : List V} {ds : List PyData} {lo hi : Int}, DvAll H xs ds → (∀ d ∈ ds, withinD d lo hi = true) → ∃ ns : List Int, xs = ns.map V.int ∧ ds = ns.map .int ∧ ∀ x ∈ ns, lo ≤ x ∧ x ≤ hi
  | _, _, _, _, .nil, _ => ⟨[], rfl, rfl, fun _ z => (nomatch z)⟩
  | _, _, lo, hi, .cons (d := d) a t, h => by
    obtain ⟨ns, rfl, rfl, hn⟩ := all_ints t fun e he => h e (by simp [he])
    have hd := h d (by simp)
    cases d with
    | int i =>
      cases a
      simp only [withinD, Bool.and_eq_true, decide_eq_true_eq] at hd
      refine ⟨i :: ns, rfl, rfl, fun x hx => ?_⟩
      rcases List.mem_cons.mp hx with rfl | hx
      · exact hd
      · exact hn x hx
    | _ => simp [withinD] at hd
theorem not_tup {d : PyData} (h : isiD "tuple" d = false) : ∀ ds, d ≠ .tuple ds := by
  rintro ds rfl
  simp [isiD, kindD] at h
theorem is_tup {d : PyData} (h : isiD "tuple" d = true) : ∃ ds, d = .tuple ds := by
  cases d with
  | tuple ds => exact ⟨ds, rfl⟩
  | _ => simp [isiD, kindD] at h
theorem ints_inj : ∀ {ns ms : List Int}, ns.map PyData.int = ms.map PyData.int → ns = ms
  | [], [], _ => rfl
  | [], _ :: _, h => by simp at h
  | _ :: _, [], h => by simp at h
  | a :: r, b :: t, h => by
    rw [List.map_cons, List.map_cons] at h
    injection h with h1 h2
    injection h1 with h1
    rw [h1, ints_inj h2]
abbrev sIsNum : Stmt := topS 3
abbrev nIsNum : List Str := ["value"]
theorem scIsNum : FnScope nIsNum ["value"] (defScope sIsNum) :=
  ⟨rfl, rfl, rfl, by decide +kernel, rfl, by decide +kernel, by decide +kernel⟩
abbrev sWithin : Stmt := topS 4
abbrev nWithin : List Str := ["value", "low", "high"]
theorem scWithin : FnScope nWithin ["value", "low", "high"] (defScope sWithin) :=
  ⟨rfl, rfl, rfl, by decide +kernel, rfl, by decide +kernel, by decide +kernel⟩
abbrev sArr : Stmt := topS 5
abbrev nArr : List Str := ["value", "count", "item"]
theorem scArr : FnScope nArr ["value", "count"] (defScope sArr) :=
  ⟨rfl, rfl, rfl, by decide +kernel, rfl, by decide +kernel, by decide +kernel⟩
section
variable {P : Program} {w : World} {K : PySem.W.Frag} {mg : Str → Option Value} {base : Heap}
def spNum : Sp := fun vs H Q _ => ∃ v d, vs = [v] ∧ Dv H v d ∧ ∀ H', Ex H H' → Q (.bl (numD d)) H'
theorem ok_num {f : Addr} {fd : FuncData} (F : Fun K "is_number" "is_number" sIsNum f fd) (T : Blt mg) : FnOk P w K mg base CX0 1 f fd ["value"] spNum := by
  refine F.ok scIsNum (fun vs H Q E h => ?_) (fun cdv A outer s H vs Q E hr h => ?_)
  · obtain ⟨v, d, rfl, _⟩ := h
    rfl
  obtain ⟨v, d, rfl, hd, k⟩ := h
  have k2 := k H (Evl.Ex.refl H)
  unfold numD at k2
  refine ⟨_, (pss_one (ps_ret (pe_and (pe_callB (k_isi (K := K) rfl) rfl T.isinstance bt_isinstance (pa_cons (pv 0) (pa_cons (pe_bltn (v := .ty "int") rfl T.int (by decide +kernel) rfl) pa_nil))) (pe_one (pe_not (pe_callB (k_isi (K := K) rfl) rfl T.isinstance bt_isinstance (pa_cons (pv 0) (pa_cons (pe_bltn (v := .ty "bool") rfl T.bool (by decide +kernel) rfl) pa_nil)))))))), ?_⟩
  refine ⟨_, rfl, v, .ty "int", _, _, _, rfl, .ty "int", ty_of hd, kit_D "int" d, _, rfl, ?_⟩
  cases hi : isiD "int" d with
  | false =>
    rw [hi] at k2
    exact iteF k2
  | true =>
    rw [hi] at k2
    exact iteT ⟨_, rfl, v, .ty "bool", _, _, _, rfl, .ty "bool", ty_of hd, kit_D "bool" d, _, rfl, k2⟩
def spWithin : Sp := fun vs H Q _ => ∃ v d lo hi, vs = [v, .int lo, .int hi] ∧ Dv H v d ∧ ∀ H', Ex H H' → Q (.bl (withinD d lo hi)) H'
theorem ok_within {f : Addr} {fd : FuncData} (F : Fun K "is_within" "is_within" sWithin f fd) (T : Blt mg) (cis_number : Cal P w K mg base 1 "is_number" ["value"] spNum) : FnOk P w K mg base CX0 2 f fd ["value", "low", "high"] spWithin := by
  refine F.ok scWithin (fun vs H Q E h => ?_) (fun cdv A outer s H vs Q E hr h => ?_)
  · obtain ⟨v, d, lo, hi, rfl, _⟩ := h
    rfl
  obtain ⟨v, d, lo, hi, rfl, hd, k⟩ := h
  refine ⟨_, (pss_one (ps_ret (pe_and (pe_cal cis_number (hr.mono (by decide)) rfl (pa_cons (pv 0) pa_nil)) (pe_one (pe_chain op_le op_le (pv 1) (pv 0) (pv 2)))))), ?_⟩
  refine ⟨_, rfl, v, d, rfl, hd, fun H1 e1 => ⟨_, rfl, ?_⟩⟩
  cases hn : numD d with
  | false =>
    have q := k H1 e1
    rw [numD_within hn] at q
    exact iteF q
  | true =>
    obtain ⟨i, rfl⟩ := numD_int hn
    cases hd
    refine iteT ⟨_, rfl, _, rfl, _, _, rfl, rfl, _, rfl, ?_⟩
    have q := k H1 e1
    unfold withinD at q
    simp only at q
    cases hl : decide (lo ≤ i) with
    | false =>
      rw [hl] at q
      exact iteF q
    | true =>
      rw [hl] at q
      exact iteT ⟨_, rfl, _, _, rfl, rfl, q⟩
def spArr : Sp := fun vs H Q _ => ∃ (v : V) (d : PyData) (n : Nat), vs = [v, .int n] ∧ Dv H v d ∧ n ≤ 1000 ∧ ∀ b H', Ex H H' → (b = true ↔ ArrOk n d) → Q (.bl b) H'
theorem ok_arr {f : Addr} {fd : FuncData} (F : Fun K "is_arrangement" "is_arrangement" sArr f fd) (T : Blt mg) (cis_within : Cal P w K mg base 2 "is_within" ["value", "low", "high"] spWithin) : FnOk P w K mg base CX0 3 f fd ["value", "count"] spArr := by
  refine F.ok scArr (fun vs H Q E h => ?_) (fun cdv A outer s H vs Q E hr h => ?_)
  · obtain ⟨v, d, n, rfl, _⟩ := h
    rfl
  obtain ⟨v, d, n, rfl, hd, hn, k⟩ := h
  refine ⟨_, (pss_cons (ps_if (PW.pt (pw_or (pt_not (pt_val (pe_callB (k_isi (K := K) rfl) rfl T.isinstance bt_isinstance (pa_cons (pv 0) (pa_cons (pe_bltn (v := .ty "tuple") rfl T.tuple (by decide +kernel) rfl) pa_nil))))) (pw_or1 (pt_cmpR op_ne (pe_callB (k_len (K := K) rfl) rfl T.len bt_len (pa_cons (pv 0) pa_nil)) (pv 1) (nomark _))))) (pss_one (ps_ret pe_bl)) pss_nil)
    (pss_cons (ps_if (pt_not (pt_val (pe_callB (k_all (K := K) rfl rfl) rfl T.all bt_all (pa_cons (pe_lc (own := [("item", 2)]) (g := gName 2)  (by rfl) scArr.nd (ki_tup (K := K) rfl (pv 0)) (blkOk_by (own := [("item", 2)]) (N := nArr) (sc := defScope sArr) (by decide +kernel)) (fun _ _ _ _ _ => (pg_name (i := 2) scArr.nd rfl (Or.inl rfl))) (fun _ _ _ _ _ => pts_nil) (fun _ _ _ _ _ => (pe_cal cis_within (hr.mono (by decide)) rfl (pa_cons (pv 2) (pa_cons pe_int (pa_cons (pe_op op_sub (pv 1) pe_int) pa_nil)))))) pa_nil)))) (pss_one (ps_ret pe_bl)) pss_nil)
    (pss_one (ps_ret (pe_cmpR op_eq (pe_lenSetT (K := K) rfl rfl T.len rfl T.set (pv 0)) (pv 1) (nomark _)))))), ?_⟩
  refine ⟨_, rfl, v, .ty "tuple", _, _, _, rfl, .ty "tuple", ty_of hd, kit_D "tuple" d, _, rfl, ?_⟩
  cases ht : isiD "tuple" d with
  | false =>
    refine iteT (iteT (k false H (Evl.Ex.refl H) ?_))
    constructor
    · intro z; cases z
    · rintro ⟨ns, e, _⟩; exact absurd e (not_tup ht _)
  | true =>
    obtain ⟨ds, rfl⟩ := is_tup ht
    obtain ⟨a, xs, rfl, ha, hx⟩ := tup_inv hd
    have hl := hx.len
    refine iteF ⟨_, rfl, a, xs, rfl, .inr (SqT.of ha), _, rfl, rfl, _, rfl, ?_⟩
    by_cases hc : xs.length = n
    · have : decide (V.int (xs.length : Int) = V.int (n : Int)) = true := decide_eq_true (by rw [hc])
      rw [this]
      refine iteF ?_
      -- all([is_within(item, 0, count - 1) for item in value])
      refine ⟨_, rfl, a, rfl, ⟨_, SqT.of ha⟩, fun D hD => made_tup (fun i v _ => ∃ e, ds[i]? = some e ∧ v = .bl (withinD e 0 ((n : Int) - 1))) hD (SqT.of ha) (by omega) (fun _ _ _ _ _ _ _ m => m) (fun _ => rfl) (fun i x hi H1 e1 Q1 q1 => ?_) (fun ys H1 hy e1 hD1 hm => ?_)⟩
      · obtain ⟨e, he, hde⟩ := hx.get hi
        exact ⟨_, rfl, _, rfl, _, _, rfl, rfl, x, e, 0, _, rfl, hde.mono e1, fun H2 e2 => q1 _ H2 e2 ⟨e, he, rfl⟩⟩
      · have bools : ys = (ds.map fun e => withinD e 0 ((n : Int) - 1)).map V.bl := by
          apply List.ext_getElem?
          intro i
          rw [List.getElem?_map, List.getElem?_map]
          cases hyi : ys[i]? with
          | none =>
            have := List.getElem?_eq_none_iff.mp hyi
            rw [List.getElem?_eq_none (by omega)]
            rfl
          | some y =>
            obtain ⟨e, he, rfl⟩ := hm i y hyi
            rw [he]
            rfl
        refine ⟨D, ds.map fun e => withinD e 0 ((n : Int) - 1), rfl, SqL.of (by rw [hD1, bools]), _, rfl, ?_⟩
        cases hall : ((ds.map fun e => withinD e 0 ((n : Int) - 1)).all id) with
        | false =>
          refine iteT (k false H1 e1 ?_)
          constructor
          · intro z; cases z
          · rintro ⟨ns, e, hp⟩
            have : ((ds.map fun e => withinD e 0 ((n : Int) - 1)).all id) = true := by
              rw [List.all_eq_true]
              intro b hb
              obtain ⟨e2, he2, rfl⟩ := List.mem_map.mp hb
              have e3 : ds = ns.map .int := by injection e
              rw [e3] at he2
              obtain ⟨x, hx2, rfl⟩ := List.mem_map.mp he2
              have := mem_upto.mp (hp.mem_iff.mp hx2)
              simp only [withinD, id, Bool.and_eq_true, decide_eq_true_eq]
              omega
            rw [this] at hall
            cases hall
        | true =>
          have each : ∀ d ∈ ds, withinD d 0 ((n : Int) - 1) = true := fun d hdm => by
            rw [List.all_eq_true] at hall
            exact hall _ (List.mem_map.mpr ⟨d, hdm, rfl⟩)
          obtain ⟨ns, rfl, rfl, hin⟩ := all_ints hx each
          have nl : ns.length = n := by rw [List.length_map] at hc; exact hc
          refine iteF ⟨_, rfl, a, ns, rfl, SqT.of (e1 _ _ ha), by omega, fun m hm2 => ⟨_, rfl, rfl, k _ H1 e1 ?_⟩⟩
          rw [decide_eq_true_iff]
          have pu := perm_upto nl fun x hx => by have := hin x hx; omega
          constructor
          · intro z
            have z2 := V.int.inj z
            exact ⟨ns, rfl, pu.mp (hm2.mp (by omega))⟩
          · rintro ⟨ns2, e, hp⟩
            have e3 : ns = ns2 := by
              injection e with e
              exact ints_inj e
            subst e3
            exact congrArg V.int (by have := hm2.mpr (pu.mpr hp); omega)
    · have : decide (V.int (xs.length : Int) = V.int (n : Int)) = false := decide_eq_false (fun z => hc (by have := V.int.inj z; omega))
      rw [this]
      refine iteT (k false H (Evl.Ex.refl H) ?_)
      constructor
      · intro z; cases z
      · rintro ⟨ns, e, hp⟩
        have e3 : ds = ns.map .int := by injection e
        have := hp.length_eq
        rw [upto_len] at this
        rw [e3, List.length_map] at hl
        exact absurd (by omega) hc
end
end Lr

namespace Lr
open PySem L2
theorem First.of {p : PyData → Prop} {ds : List PyData} {x : Str} (h : ∀ (j : Nat) (e : PyData), j < ds.length → ds[j]? = some e → p e) : First p ds x .none :=
  .inl ⟨rfl, fun d hd => by
    obtain ⟨j, hj⟩ := List.mem_iff_getElem?.mp hd
    exact h j d (List.getElem?_eq_some_iff.mp hj).1 hj⟩
theorem next_ok {p : PyData → Prop} {ds : List PyData} {n : Nat} {d : PyData} (ok : ∀ (j : Nat) (e : PyData), j < n → ds[j]? = some e → p e) (hd : ds[n]? = some d) (h : p d) : ∀ (j : Nat) (e : PyData), j < n + 1 → ds[j]? = some e → p e := fun j e hj he => by
  by_cases q : j < n
  · exact ok j e q he
  · have : j = n := by omega
    subst this
    rw [hd] at he
    cases he
    exact h
theorem RuleRes.bad {ds : List PyData} (h : ¬ (2 ≤ ds.length ∧ ds.length ≤ 7)) : RuleRes (.tuple ds) (.tuple [.none, .str "rule"]) := by
  show (if 2 ≤ ds.length ∧ ds.length ≤ 7 then _ else _)
  rw [if_neg h]
theorem RuleRes.good {ds : List PyData} {r : PyData} (h : 2 ≤ ds.length ∧ ds.length ≤ 7) (f : First (ArrOk (ds.length - 1)) ds "preference" r) : RuleRes (.tuple ds) r := by
  show (if 2 ≤ ds.length ∧ ds.length ≤ 7 then _ else _)
  rw [if_pos h]
  exact f
theorem RowRes.bad {n : Nat} {ds : List PyData} (h : ¬ (1 ≤ ds.length ∧ ds.length ≤ 40)) : RowRes n (.tuple ds) (.tuple [.none, .str "row"]) := by
  show (if 1 ≤ ds.length ∧ ds.length ≤ 40 then _ else _)
  rw [if_neg h]
theorem RowRes.good {n : Nat} {ds : List PyData} {r : PyData} (h : 1 ≤ ds.length ∧ ds.length ≤ 40) (f : First (fun e => withinD e 0 ((n : Int) - 1) = true) ds "lane" r) : RowRes n (.tuple ds) r := by
  show (if 1 ≤ ds.length ∧ ds.length ≤ 40 then _ else _)
  rw [if_pos h]
  exact f
/-- tuples are short -/
def Sz (d : PyData) : Prop := ∀ ds, d = .tuple ds → ds.length < 64
def wV (lo hi : Int) : V → Bool
  | .int i => decide (lo ≤ i) && decide (i ≤ hi)
  | _ => false
theorem wV_of {H : Hp} {v : V} {d : PyData} {lo hi : Int} (h : Dv H v d) : wV lo hi v = withinD d lo hi := by
  cases h <;> rfl
theorem nowhole {H : Hp} {lo hi : Int} : ∀ {xs : List V} {ds : List PyData}, DvAll H xs ds → (xs.filter (fun v => !wV lo hi v) = [] ↔ ∀ d ∈ ds, withinD d lo hi = true)
  | _, _, .nil => by simp
  | _, _, .cons (v := v) (d := d) a t => by
    have ih := nowhole (lo := lo) (hi := hi) t
    have e := wV_of (lo := lo) (hi := hi) a
    cases hw : withinD d lo hi with
    | true =>
      rw [hw] at e
      rw [List.filter_cons_of_neg (by simp [e]), ih]
      simp [hw]
    | false =>
      rw [hw] at e
      rw [List.filter_cons_of_pos (by simp [e])]
      simp [hw]
theorem eqv_ints : ∀ (as bs : List Int), PyData.eqvAll (as.map .int) (bs.map .int) = decide (as = bs)
  | [], [] => by simp [PyData.eqvAll]
  | [], _ :: _ => by simp [PyData.eqvAll]
  | _ :: _, [] => by simp [PyData.eqvAll]
  | a :: r, b :: t => by
    simp only [List.map_cons, PyData.eqvAll, eqv_ints r t]
    simp only [PyData.eqv, List.cons.injEq, Bool.decide_and]
    rfl
theorem upto_sorted (n : Nat) : (upto n).Pairwise (· ≤ ·) := by
  unfold upto
  exact List.Pairwise.map _ (fun a b hab => by simpa using Nat.le_of_lt hab) List.pairwise_lt_range
theorem sorted_uniq : ∀ {as bs : List Int}, as.Perm bs → as.Pairwise (· ≤ ·) → bs.Pairwise (· ≤ ·) → as = bs := by
  intro as bs p a b
  exact p.eq_of_pairwise (le := (· ≤ ·)) (fun x y _ _ h1 h2 => Int.le_antisymm h1 h2) a b
abbrev sRuleE : Stmt := topS 7
abbrev nRuleE : List Str := ["value", "index", "item"]
theorem scRuleE : FnScope nRuleE ["value"] (defScope sRuleE) :=
  ⟨rfl, rfl, rfl, by decide +kernel, rfl, by decide +kernel, by decide +kernel⟩
abbrev sIsRule : Stmt := topS 8
abbrev nIsRule : List Str := ["value"]
theorem scIsRule : FnScope nIsRule ["value"] (defScope sIsRule) :=
  ⟨rfl, rfl, rfl, by decide +kernel, rfl, by decide +kernel, by decide +kernel⟩
abbrev sIsLane : Stmt := topS 9
abbrev nIsLane : List Str := ["rule", "value"]
theorem scIsLane : FnScope nIsLane ["rule", "value"] (defScope sIsLane) :=
  ⟨rfl, rfl, rfl, by decide +kernel, rfl, by decide +kernel, by decide +kernel⟩
abbrev sRowE : Stmt := topS 10
abbrev nRowE : List Str := ["rule", "value", "index", "item"]
theorem scRowE : FnScope nRowE ["rule", "value"] (defScope sRowE) :=
  ⟨rfl, rfl, rfl, by decide +kernel, rfl, by decide +kernel, by decide +kernel⟩
abbrev sIsRow : Stmt := topS 11
abbrev nIsRow : List Str := ["rule", "value"]
theorem scIsRow : FnScope nIsRow ["rule", "value"] (defScope sIsRow) :=
  ⟨rfl, rfl, rfl, by decide +kernel, rfl, by decide +kernel, by decide +kernel⟩
abbrev sWhole : Stmt := topS 21
abbrev nWhole : List Str := ["_law_value", "_law_low", "_law_high"]
theorem scWhole : FnScope nWhole ["_law_value", "_law_low", "_law_high"] (defScope sWhole) :=
  ⟨rfl, rfl, rfl, by decide +kernel, rfl, by decide +kernel, by decide +kernel⟩
abbrev sIsMixed : Stmt := topS 22
abbrev nIsMixed : List Str := ["_law_value", "_law_many", "_law_lane"]
theorem scIsMixed : FnScope nIsMixed ["_law_value", "_law_many"] (defScope sIsMixed) :=
  ⟨rfl, rfl, rfl, by decide +kernel, rfl, by decide +kernel, by decide +kernel⟩
abbrev sRuleF : Stmt := topS 23
abbrev nRuleF : List Str := ["_law_value", "_law_k", "_law_some"]
theorem scRuleF : FnScope nRuleF ["_law_value"] (defScope sRuleF) :=
  ⟨rfl, rfl, rfl, by decide +kernel, rfl, by decide +kernel, by decide +kernel⟩
abbrev sRowF : Stmt := topS 24
abbrev nRowF : List Str := ["_law_rule_here", "_law_value", "_law_k", "_law_lane"]
theorem scRowF : FnScope nRowF ["_law_rule_here", "_law_value"] (defScope sRowF) :=
  ⟨rfl, rfl, rfl, by decide +kernel, rfl, by decide +kernel, by decide +kernel⟩
section
variable {P : Program} {w : World} {K : PySem.W.Frag} {mg : Str → Option Value} {base : Heap} {t1 t2 : Tok}
def spRuleE : Sp := fun vs H Q _ => ∃ v d, vs = [v] ∧ Dv H v d ∧ ∀ u r H', Ex H H' → Dv H' u r → RuleRes d r → Q u H'
theorem ok_rule_error {f : Addr} {fd : FuncData} (F : Fun K "rule_error" "rule_error" sRuleE f fd) (T : Blt mg) (qMAX_LANES : mg "MAX_LANES" = some (.int 6 t1)) (cis_arrangement : Cal P w K mg base 3 "is_arrangement" ["value", "count"] spArr) : FnOk P w K mg base CX0 4 f fd ["value"] spRuleE := by
  refine F.ok scRuleE (fun vs H Q E h => ?_) (fun cdv A outer s H vs Q E hr h => ?_)
  · obtain ⟨v, d, rfl, _⟩ := h
    rfl
  obtain ⟨v, d, rfl, hd, k⟩ := h
  refine ⟨_, (pss_cons (ps_if (PW.pt (pw_or (pt_not (pt_val (pe_callB (k_isi (K := K) rfl) rfl T.isinstance bt_isinstance (pa_cons (pv 0) (pa_cons (pe_bltn (v := .ty "tuple") rfl T.tuple (by decide +kernel) rfl) pa_nil))))) (pw_or1 (pt_not (pt_chain op_le op_le pe_int (pe_callB (k_len (K := K) rfl) rfl T.len bt_len (pa_cons (pv 0) pa_nil)) (pe_op op_add (pe_glob (v := .int 6) rfl qMAX_LANES ⟨_, rfl⟩) pe_int)))))) (pss_one (ps_ret (pe_tup (pa_cons pe_non (pa_cons pe_str pa_nil))))) pss_nil)
    (pss_cons (ps_for PassesOwn.never rfl (pi_enumT rfl T.enumerate (pa_cons (pv 0) pa_nil)) (pg_tup rfl (pgs_cons (pg_name (i := 1) scRuleE.nd rfl (Or.inl rfl)) (pgs_cons (pg_name (i := 2) scRuleE.nd rfl (Or.inl rfl)) pgs_nil))) (pss_one (ps_if (pt_not (pt_val (pe_cal cis_arrangement (hr.mono (by decide)) rfl (pa_cons (pv 2) (pa_cons (pe_op op_sub (pe_callB (k_len (K := K) rfl) rfl T.len bt_len (pa_cons (pv 0) pa_nil)) pe_int) pa_nil))))) (pss_one (ps_ret (pe_tup (pa_cons (pv 1) (pa_cons pe_str pa_nil))))) pss_nil)))
    (pss_one (ps_ret pe_non)))), ?_⟩
  have two : 2 ≤ sizeLine := by decide
  refine ⟨_, rfl, v, .ty "tuple", _, _, _, rfl, .ty "tuple", ty_of hd, kit_D "tuple" d, _, rfl, ?_⟩
  cases ht : isiD "tuple" d with
  | false =>
    refine iteT (iteT ⟨two, fun p hp => k _ _ _ (Evl.Ex.new hp) (.tup upd_same (.cons .non (.cons (.str _) .nil))) ?_⟩)
    cases d with
    | tuple ds => exact absurd rfl (not_tup ht ds)
    | _ => rfl
  | true =>
    obtain ⟨ds, rfl⟩ := is_tup ht
    obtain ⟨a, xs, rfl, ha, hx⟩ := tup_inv hd
    have hl := hx.len
    have bad : ∀ {H' : Hp}, Ex H H' → ¬ (2 ≤ ds.length ∧ ds.length ≤ 7) → ∀ p, H' p = none → Q (.ref p) (upd H' p (.tup [.non, .str "rule"])) := fun e hn p hp =>
      k _ _ _ (e.trans (Evl.Ex.new hp)) (.tup upd_same (.cons .non (.cons (.str _) .nil))) (RuleRes.bad hn)
    refine iteF ⟨_, rfl, a, xs, rfl, .inr (SqT.of ha), _, _, rfl, rfl, _, rfl, ?_⟩
    by_cases h2 : (2 : Int) ≤ xs.length
    · rw [decide_eq_true h2]
      refine iteT ⟨6, _, rfl, rfl, _, _, rfl, rfl, _, rfl, ?_⟩
      by_cases h7 : (xs.length : Int) ≤ 6 + 1
      · rw [decide_eq_true h7]
        refine iteF ?_
        have hin : 2 ≤ ds.length ∧ ds.length ≤ 7 := by omega
        refine ⟨_, rfl, a, xs, rfl, ha, for_enumT (fun n σ H' => (∃ x y, σ = [some (.ref a), x, y]) ∧ Ex H H' ∧ ∀ (j : Nat) (e : PyData), j < n → ds[j]? = some e → ArrOk (ds.length - 1) e) ⟨⟨_, _, rfl⟩, Evl.Ex.refl _, fun j e hj => absurd hj (Nat.not_lt_zero j)⟩ (fun n σ2 H2 h => h.2.1 _ _ ha) ?_ ?_⟩
        · rintro n x σ H2 H3 hx2 ⟨⟨_, _, rfl⟩, e, ok⟩ e3
          obtain ⟨d, hd2, hdv⟩ := hx.get hx2
          have e4 := e.trans e3
          have cast : ((xs.length : Int) - 1) = ((ds.length - 1 : Nat) : Int) := by omega
          refine ⟨_, rfl, _, rfl, a, xs, rfl, .inr (SqT.of (e4 _ _ ha)), _, _, rfl, rfl, x, d, ds.length - 1, show [x, V.int ((xs.length : Int) - 1)] ++ [] = [x, V.int ((ds.length - 1 : Nat) : Int)] by rw [cast]; rfl, hdv.mono e4, by omega, fun b H5 e5 hb => ⟨_, rfl, ?_⟩⟩
          cases b with
          | true =>
            refine iteF ⟨⟨_, _, rfl⟩, e4.trans e5, next_ok ok hd2 (hb.mp rfl)⟩
          | false =>
            refine iteT ⟨_, rfl, two, fun p hp => k _ _ _ ((e4.trans e5).trans (Evl.Ex.new hp)) (.tup upd_same (.cons (.int n) (.cons (.str _) .nil))) ?_⟩
            exact RuleRes.good hin (.inr ⟨n, d, rfl, hd2, fun z => (nomatch hb.mpr z), ok⟩)
        · rintro σ H2 ⟨_, e, ok⟩
          refine k .non .none H2 e .non ?_
          exact RuleRes.good hin (First.of fun j e hj he => ok j e (by omega) he)
      · rw [decide_eq_false h7]
        exact iteT ⟨two, bad (Evl.Ex.refl _) (by omega)⟩
    · rw [decide_eq_false h2]
      exact iteF ⟨false, rfl, iteT ⟨two, bad (Evl.Ex.refl _) (by omega)⟩⟩
def isNone : PyData → Bool
  | .none => true
  | _ => false
def spIsRule : Sp := fun vs H Q _ => ∃ v d, vs = [v] ∧ Dv H v d ∧ ∀ r H', Ex H H' → RuleRes d r → Q (.bl (isNone r)) H'
theorem is_none {H : Hp} {v : V} {d : PyData} (h : Dv H v d) : decide (v = .non) = isNone d := by
  cases h <;> simp [isNone]
theorem ok_is_rule {f : Addr} {fd : FuncData} (F : Fun K "is_rule" "is_rule" sIsRule f fd) (T : Blt mg) (crule_error : Cal P w K mg base 4 "rule_error" ["value"] spRuleE) : FnOk P w K mg base CX0 5 f fd ["value"] spIsRule := by
  refine F.ok scIsRule (fun vs H Q E h => ?_) (fun cdv A outer s H vs Q E hr h => ?_)
  · obtain ⟨v, d, rfl, _⟩ := h
    rfl
  obtain ⟨v, d, rfl, hd, k⟩ := h
  refine ⟨_, (pss_one (ps_ret (pe_cmpR op_isN (pe_cal crule_error (hr.mono (by decide)) rfl (pa_cons (pv 0) pa_nil)) pe_non (nomark _)))), ?_⟩
  refine ⟨_, rfl, v, d, rfl, hd, fun u r H1 e1 hu hres => ⟨rfl, ?_⟩⟩
  rw [is_none hu]
  exact k r H1 e1 hres
def spIsLane : Sp := fun vs H Q _ => ∃ (a : Addr) (xs : List V) (v : V) (d : PyData) (n : Nat), vs = [.ref a, v] ∧ H a = some (.tup xs) ∧ xs.length = n + 1 ∧ Dv H v d ∧ ∀ H', Ex H H' → Q (.bl (withinD d 0 ((n : Int) - 1))) H'
theorem ok_is_lane {f : Addr} {fd : FuncData} (F : Fun K "is_lane" "is_lane" sIsLane f fd) (T : Blt mg) (cis_within : Cal P w K mg base 2 "is_within" ["value", "low", "high"] spWithin) : FnOk P w K mg base CX0 3 f fd ["rule", "value"] spIsLane := by
  refine F.ok scIsLane (fun vs H Q E h => ?_) (fun cdv A outer s H vs Q E hr h => ?_)
  · obtain ⟨a, xs, v, d, n, rfl, _⟩ := h
    rfl
  obtain ⟨a, xs, v, d, n, rfl, ha, hn, hd, k⟩ := h
  refine ⟨_, (pss_one (ps_ret (pe_cal cis_within (hr.mono (by decide)) rfl (pa_cons (pv 1) (pa_cons pe_int (pa_cons (pe_op op_sub (pe_callB (k_len (K := K) rfl) rfl T.len bt_len (pa_cons (pv 0) pa_nil)) pe_int) pa_nil)))))), ?_⟩
  have cast : ((xs.length : Int) - 2) = (n : Int) - 1 := by omega
  refine ⟨_, rfl, _, rfl, a, xs, rfl, .inr (SqT.of ha), _, _, rfl, rfl, v, d, 0, (n : Int) - 1, show [v, V.int 0, V.int ((xs.length : Int) - 2)] ++ [] = [v, V.int 0, V.int ((n : Int) - 1)] by rw [cast]; rfl, hd, fun H1 e1 => k H1 e1⟩
def spRowE : Sp := fun vs H Q _ => ∃ (a : Addr) (xs : List V) (v : V) (d : PyData) (n : Nat), vs = [.ref a, v] ∧ H a = some (.tup xs) ∧ xs.length = n + 1 ∧ Dv H v d ∧ ∀ u r H', Ex H H' → Dv H' u r → RowRes n d r → Q u H'
theorem ok_row_error {f : Addr} {fd : FuncData} (F : Fun K "row_error" "row_error" sRowE f fd) (T : Blt mg) (qMAX_CARS : mg "MAX_CARS" = some (.int 40 t2)) (cis_lane : Cal P w K mg base 3 "is_lane" ["rule", "value"] spIsLane) : FnOk P w K mg base CX0 4 f fd ["rule", "value"] spRowE := by
  refine F.ok scRowE (fun vs H Q E h => ?_) (fun cdv A outer s H vs Q E hr h => ?_)
  · obtain ⟨a, xs, v, d, n, rfl, _⟩ := h
    rfl
  obtain ⟨l, ls, v, d, m, rfl, hl1, hm, hd, k⟩ := h
  refine ⟨_, (pss_cons (ps_if (PW.pt (pw_or (pt_not (pt_val (pe_callB (k_isi (K := K) rfl) rfl T.isinstance bt_isinstance (pa_cons (pv 1) (pa_cons (pe_bltn (v := .ty "tuple") rfl T.tuple (by decide +kernel) rfl) pa_nil))))) (pw_or1 (pt_not (pt_chain op_le op_le pe_int (pe_callB (k_len (K := K) rfl) rfl T.len bt_len (pa_cons (pv 1) pa_nil)) (pe_glob (v := .int 40) rfl qMAX_CARS ⟨_, rfl⟩)))))) (pss_one (ps_ret (pe_tup (pa_cons pe_non (pa_cons pe_str pa_nil))))) pss_nil)
    (pss_cons (ps_for PassesOwn.never rfl (pi_enumT rfl T.enumerate (pa_cons (pv 1) pa_nil)) (pg_tup rfl (pgs_cons (pg_name (i := 2) scRowE.nd rfl (Or.inl rfl)) (pgs_cons (pg_name (i := 3) scRowE.nd rfl (Or.inl rfl)) pgs_nil))) (pss_one (ps_if (pt_not (pt_val (pe_cal cis_lane (hr.mono (by decide)) rfl (pa_cons (pv 0) (pa_cons (pv 3) pa_nil))))) (pss_one (ps_ret (pe_tup (pa_cons (pv 2) (pa_cons pe_str pa_nil))))) pss_nil)))
    (pss_one (ps_ret pe_non)))), ?_⟩
  have two : 2 ≤ sizeLine := by decide
  refine ⟨_, rfl, v, .ty "tuple", _, _, _, rfl, .ty "tuple", ty_of hd, kit_D "tuple" d, _, rfl, ?_⟩
  cases ht : isiD "tuple" d with
  | false =>
    refine iteT (iteT ⟨two, fun p hp => k _ _ _ (Evl.Ex.new hp) (.tup upd_same (.cons .non (.cons (.str _) .nil))) ?_⟩)
    cases d with
    | tuple ds => exact absurd rfl (not_tup ht ds)
    | _ => rfl
  | true =>
    obtain ⟨ds, rfl⟩ := is_tup ht
    obtain ⟨a, xs, rfl, ha, hx⟩ := tup_inv hd
    have hl := hx.len
    have bad : ∀ {H' : Hp}, Ex H H' → ¬ (1 ≤ ds.length ∧ ds.length ≤ 40) → ∀ p, H' p = none → Q (.ref p) (upd H' p (.tup [.non, .str "row"])) := fun e hn p hp =>
      k _ _ _ (e.trans (Evl.Ex.new hp)) (.tup upd_same (.cons .non (.cons (.str _) .nil))) (RowRes.bad hn)
    refine iteF ⟨_, rfl, a, xs, rfl, .inr (SqT.of ha), _, _, rfl, rfl, _, rfl, ?_⟩
    by_cases h2 : (1 : Int) ≤ xs.length
    · rw [decide_eq_true h2]
      refine iteT ⟨_, _, rfl, rfl, _, rfl, ?_⟩
      by_cases h7 : (xs.length : Int) ≤ 40
      · rw [decide_eq_true h7]
        refine iteF ?_
        have hin : 1 ≤ ds.length ∧ ds.length ≤ 40 := by omega
        refine ⟨_, rfl, a, xs, rfl, ha, for_enumT (fun n σ H' => (∃ x y, σ = [some (.ref l), some (.ref a), x, y]) ∧ Ex H H' ∧ ∀ (j : Nat) (e : PyData), j < n → ds[j]? = some e → withinD e 0 ((m : Int) - 1) = true) ⟨⟨_, _, rfl⟩, Evl.Ex.refl _, fun j e hj => absurd hj (Nat.not_lt_zero j)⟩ (fun n σ2 H2 h => h.2.1 _ _ ha) ?_ ?_⟩
        · rintro n x σ H2 H3 hx2 ⟨⟨_, _, rfl⟩, e, ok⟩ e3
          obtain ⟨d, hd2, hdv⟩ := hx.get hx2
          have e4 := e.trans e3
          refine ⟨_, rfl, _, rfl, l, ls, x, d, m, rfl, e4 _ _ hl1, hm, hdv.mono e4, fun H5 e5 => ⟨_, rfl, ?_⟩⟩
          cases hb : withinD d 0 ((m : Int) - 1) with
          | true =>
            exact iteF ⟨⟨_, _, rfl⟩, e4.trans e5, next_ok (p := fun e => withinD e 0 ((m : Int) - 1) = true) ok hd2 hb⟩
          | false =>
            refine iteT ⟨_, rfl, two, fun p hp => k _ _ _ ((e4.trans e5).trans (Evl.Ex.new hp)) (.tup upd_same (.cons (.int n) (.cons (.str _) .nil))) ?_⟩
            exact RowRes.good hin (.inr ⟨n, d, rfl, hd2, fun z => (nomatch hb.symm.trans z), ok⟩)
        · rintro σ H2 ⟨_, e, ok⟩
          refine k .non .none H2 e .non ?_
          exact RowRes.good hin (First.of fun j e hj he => ok j e (by omega) he)
      · rw [decide_eq_false h7]
        exact iteT ⟨two, bad (Evl.Ex.refl _) (by omega)⟩
    · rw [decide_eq_false h2]
      exact iteF ⟨false, rfl, iteT ⟨two, bad (Evl.Ex.refl _) (by omega)⟩⟩
def spIsRow : Sp := fun vs H Q _ => ∃ (a : Addr) (xs : List V) (v : V) (d : PyData) (n : Nat), vs = [.ref a, v] ∧ H a = some (.tup xs) ∧ xs.length = n + 1 ∧ Dv H v d ∧ ∀ r H', Ex H H' → RowRes n d r → Q (.bl (isNone r)) H'
theorem ok_is_row {f : Addr} {fd : FuncData} (F : Fun K "is_row" "is_row" sIsRow f fd) (T : Blt mg) (crow_error : Cal P w K mg base 4 "row_error" ["rule", "value"] spRowE) : FnOk P w K mg base CX0 5 f fd ["rule", "value"] spIsRow := by
  refine F.ok scIsRow (fun vs H Q E h => ?_) (fun cdv A outer s H vs Q E hr h => ?_)
  · obtain ⟨a, xs, v, d, n, rfl, _⟩ := h
    rfl
  obtain ⟨a, xs, v, d, n, rfl, ha, hn, hd, k⟩ := h
  refine ⟨_, (pss_one (ps_ret (pe_cmpR op_isN (pe_cal crow_error (hr.mono (by decide)) rfl (pa_cons (pv 0) (pa_cons (pv 1) pa_nil))) pe_non (nomark _)))), ?_⟩
  refine ⟨_, rfl, _, rfl, a, xs, v, d, n, rfl, ha, hn, hd, fun u r H1 e1 hu hres => ⟨rfl, ?_⟩⟩
  rw [is_none hu]
  exact k r H1 e1 hres
/-! ### the law's own -/
def spWhole : Sp := fun vs H Q _ => ∃ v d lo hi, vs = [v, .int lo, .int hi] ∧ Dv H v d ∧ Q (.bl (withinD d lo hi)) H
theorem ok_whole {f : Addr} {fd : FuncData} (F : Fun K "_law_whole" "_law_whole" sWhole f fd) (T : Blt mg) : FnOk P w K mg base CX0 1 f fd ["_law_value", "_law_low", "_law_high"] spWhole := by
  refine F.ok scWhole (fun vs H Q E h => ?_) (fun cdv A outer s H vs Q E hr h => ?_)
  · obtain ⟨v, d, lo, hi, rfl, _⟩ := h
    rfl
  obtain ⟨v, d, lo, hi, rfl, hd, k⟩ := h
  refine ⟨_, (pss_one (ps_ret (pe_and (pe_callB (k_isi (K := K) rfl) rfl T.isinstance bt_isinstance (pa_cons (pv 0) (pa_cons (pe_bltn (v := .ty "int") rfl T.int (by decide +kernel) rfl) pa_nil))) (pe_and (pe_not (pe_callB (k_isi (K := K) rfl) rfl T.isinstance bt_isinstance (pa_cons (pv 0) (pa_cons (pe_bltn (v := .ty "bool") rfl T.bool (by decide +kernel) rfl) pa_nil)))) (pe_one (pe_chain op_le op_le (pv 1) (pv 0) (pv 2))))))), ?_⟩
  refine ⟨_, rfl, v, .ty "int", _, _, _, rfl, .ty "int", ty_of hd, kit_D "int" d, _, rfl, ?_⟩
  cases hi1 : isiD "int" d with
  | false =>
    rw [numD_within (by unfold numD; rw [hi1]; rfl)] at k
    exact iteF k
  | true =>
    refine iteT ⟨_, rfl, v, .ty "bool", _, _, _, rfl, .ty "bool", ty_of hd, kit_D "bool" d, _, rfl, _, rfl, ?_⟩
    cases hb : isiD "bool" d with
    | true =>
      rw [numD_within (by unfold numD; rw [hi1, hb]; rfl)] at k
      exact iteF k
    | false =>
      obtain ⟨i, rfl⟩ := numD_int (d := d) (by unfold numD; rw [hi1, hb]; rfl)
      cases hd
      refine iteT ⟨_, rfl, _, rfl, _, _, rfl, rfl, _, rfl, ?_⟩
      unfold withinD at k
      simp only at k
      cases hl : decide (lo ≤ i) with
      | false =>
        rw [hl] at k
        exact iteF k
      | true =>
        rw [hl] at k
        exact iteT ⟨_, rfl, _, _, rfl, rfl, k⟩
def spIsMix : Sp := fun vs H Q _ => ∃ (v : V) (d : PyData) (n : Nat), vs = [v, .int n] ∧ Dv H v d ∧ n ≤ 1000 ∧ Sz d ∧ ∀ b H', Ex H H' → (b = true ↔ ArrOk n d) → Q (.bl b) H'
theorem ok_is_mixed {f : Addr} {fd : FuncData} (F : Fun K "_law_is_mixed" "_law_is_mixed" sIsMixed f fd) (T : Blt mg) (c_law_whole : Cal P w K mg base 1 "_law_whole" ["_law_value", "_law_low", "_law_high"] spWhole) : FnOk P w K mg base CX0 2 f fd ["_law_value", "_law_many"] spIsMix := by
  refine F.ok scIsMixed (fun vs H Q E h => ?_) (fun cdv A outer s H vs Q E hr h => ?_)
  · obtain ⟨v, d, n, rfl, _⟩ := h
    rfl
  obtain ⟨v, d, n, rfl, hd, hn, sz, k⟩ := h
  refine ⟨_, (pss_cons (ps_if (PW.pt (pw_or (pt_not (pt_val (pe_callB (k_isi (K := K) rfl) rfl T.isinstance bt_isinstance (pa_cons (pv 0) (pa_cons (pe_bltn (v := .ty "tuple") rfl T.tuple (by decide +kernel) rfl) pa_nil))))) (pw_or1 (pt_cmpR (ko_neNil (K := K) rfl hr.units) (pe_lc (own := [("_law_lane", 2)]) (g := gName 2)  (by rfl) scIsMixed.nd (ki_tup (K := K) rfl (pv 0)) (blkOk_by (own := [("_law_lane", 2)]) (N := nIsMixed) (sc := defScope sIsMixed) (by decide +kernel)) (fun _ _ _ _ _ => (pg_name (i := 2) scIsMixed.nd rfl (Or.inl rfl))) (fun _ _ _ _ _ => pts_one (pt_not (pt_val (pe_cal c_law_whole (hr.mono (by decide)) rfl (pa_cons (pv 2) (pa_cons pe_int (pa_cons (pe_op op_sub (pv 1) pe_int) pa_nil))))))) (fun _ _ _ _ _ => (pv 2))) (pe_lst pa_nil) (nomark _))))) (pss_one (ps_ret pe_bl)) pss_nil)
    (pss_one (ps_ret (pe_cmpR (ko_eqD (K := K) rfl hr.units) (pe_callB (cr_sortT (K := K) rfl) rfl T.sorted bt_sorted (pa_cons (pv 0) pa_nil)) (pe_listRg rfl rfl T.list (prg_1 rfl T.range (pv 1))) (nomark _))))), ?_⟩
  refine ⟨_, rfl, v, .ty "tuple", _, _, _, rfl, .ty "tuple", ty_of hd, kit_D "tuple" d, _, rfl, ?_⟩
  cases ht : isiD "tuple" d with
  | false =>
    refine iteT (iteT (k false H (Evl.Ex.refl H) ?_))
    constructor
    · intro z; cases z
    · rintro ⟨ns, e, _⟩; exact absurd e (not_tup ht _)
  | true =>
    obtain ⟨ds, rfl⟩ := is_tup ht
    obtain ⟨a, xs, rfl, ha, hx⟩ := tup_inv hd
    have hl := hx.len
    have hs := sz ds rfl
    refine iteF ⟨_, rfl, a, rfl, ⟨_, SqT.of ha⟩, fun D hD => filt_tup (fun v => !wV 0 ((n : Int) - 1) v) hD (SqT.of ha) (by omega) (fun _ => rfl) (fun x H1 hxm e1 Q1 q1 => ?_) (fun x H1 e1 Q1 q1 => ⟨_, rfl, q1⟩) (fun H1 e1 h1 => ?_)⟩
    · obtain ⟨i, hi⟩ := List.mem_iff_getElem?.mp hxm
      obtain ⟨e, he, hde⟩ := hx.get hi
      refine ⟨_, rfl, _, rfl, _, _, rfl, rfl, x, e, 0, (n : Int) - 1, rfl, hde.mono e1, _, rfl, ?_⟩
      rw [← wV_of (lo := 0) (hi := (n : Int) - 1) hde]
      exact q1
    · refine ⟨(by show 0 ≤ sizeLine; decide), fun z hz => ⟨D, z, _, rfl, rfl, SqL.of (by rw [upd_ne (ne_of_none h1 hz)]; exact h1), SqL.of upd_same, _, rfl, ?_⟩⟩
      have iffw := nowhole (lo := 0) (hi := (n : Int) - 1) hx
      have e2 := e1.trans (Evl.Ex.new hz (o := .lst []))
      generalize upd H1 z (.lst []) = H2 at e2 ⊢
      by_cases hf : xs.filter (fun v => !wV 0 ((n : Int) - 1) v) = []
      · rw [decide_eq_false (fun q => q hf)]
        obtain ⟨ns, rfl, rfl, hin⟩ := all_ints hx (iffw.mp hf)
        rw [List.length_map] at hl hs
        refine iteF ⟨_, rfl, a, ns, rfl, SqT.of (e2 _ _ ha), by simpa using hs, fun ys p hp hso hpn => ?_⟩
        have szi : n ≤ 100000 := by omega
        refine ⟨_, rfl, n, rfl, RgOk.of_le (by decide) (by omega) (by decide) (by omega), fun l hl2 => ?_⟩
        rw [rgV_upto, Int.toNat_natCast] at *
        refine ⟨.list (ys.map .int), .list ((upto n).map .int), .lst (SqL.of (by rw [upd_ne (ne_of_none upd_same hl2)]; exact upd_same)) (dp_ints _ _ ys), .lst (SqL.of upd_same) (dp_ints _ _ (upto n)), shaped_ints ys, shaped_ints (upto n), ?_⟩
        rw [show PyData.eqv (.list (ys.map .int)) (.list ((upto n).map .int)) = decide (ys = upto n) by rw [PyData.eqv]; exact eqv_ints _ _]
        refine k _ _ ((e2.trans (Evl.Ex.new hpn)).trans (Evl.Ex.new hl2)) ?_
        rw [decide_eq_true_iff]
        constructor
        · intro z
          exact ⟨ns, rfl, hp.symm.trans (z ▸ List.Perm.refl _)⟩
        · rintro ⟨ns2, e, hp2⟩
          injection e with e
          have e3 := ints_inj e
          subst e3
          exact sorted_uniq (hp.trans hp2) hso (upto_sorted n)
      · rw [decide_eq_true hf]
        refine iteT (k false H2 e2 ?_)
        constructor
        · intro z; cases z
        · rintro ⟨ns, e, hp⟩
          refine absurd (iffw.mpr ?_) hf
          have e3 : ds = ns.map .int := by injection e
          rw [e3]
          intro d hdm
          obtain ⟨x, hx2, rfl⟩ := List.mem_map.mp hdm
          have := mem_upto.mp (hp.mem_iff.mp hx2)
          simp only [withinD, Bool.and_eq_true, decide_eq_true_eq]
          omega
def spRuleF : Sp := fun vs H Q _ => ∃ v d, vs = [v] ∧ Dv H v d ∧ (∀ ds, d = .tuple ds → ∀ e ∈ ds, Sz e) ∧ ∀ u r H', Ex H H' → Dv H' u r → RuleRes d r → Q u H'
theorem ok_rule_fault {f : Addr} {fd : FuncData} (F : Fun K "_law_rule_fault" "_law_rule_fault" sRuleF f fd) (T : Blt mg) (c_law_is_mixed : Cal P w K mg base 2 "_law_is_mixed" ["_law_value", "_law_many"] spIsMix) : FnOk P w K mg base CX0 3 f fd ["_law_value"] spRuleF := by
  refine F.ok scRuleF (fun vs H Q E h => ?_) (fun cdv A outer s H vs Q E hr h => ?_)
  · obtain ⟨v, d, rfl, _⟩ := h
    rfl
  obtain ⟨v, d, rfl, hd, sz, k⟩ := h
  refine ⟨_, (pss_cons (ps_if (PW.pt (pw_or (pt_not (pt_val (pe_callB (k_isi (K := K) rfl) rfl T.isinstance bt_isinstance (pa_cons (pv 0) (pa_cons (pe_bltn (v := .ty "tuple") rfl T.tuple (by decide +kernel) rfl) pa_nil))))) (pw_or (pt_cmpR op_lt (pe_callB (k_len (K := K) rfl) rfl T.len bt_len (pa_cons (pv 0) pa_nil)) pe_int (nomark _)) (pw_or1 (pt_cmpR op_gt (pe_callB (k_len (K := K) rfl) rfl T.len bt_len (pa_cons (pv 0) pa_nil)) pe_int (nomark _)))))) (pss_one (ps_ret (pe_tup (pa_cons pe_non (pa_cons pe_str pa_nil))))) pss_nil)
    (pss_cons (ps_for PassesOwn.never rfl (pi_enumT rfl T.enumerate (pa_cons (pv 0) pa_nil)) (pg_tup rfl (pgs_cons (pg_name (i := 1) scRuleF.nd rfl (Or.inl rfl)) (pgs_cons (pg_name (i := 2) scRuleF.nd rfl (Or.inl rfl)) pgs_nil))) (pss_one (ps_if (pt_not (pt_val (pe_cal c_law_is_mixed (hr.mono (by decide)) rfl (pa_cons (pv 2) (pa_cons (pe_op op_sub (pe_callB (k_len (K := K) rfl) rfl T.len bt_len (pa_cons (pv 0) pa_nil)) pe_int) pa_nil))))) (pss_one (ps_ret (pe_tup (pa_cons (pv 1) (pa_cons pe_str pa_nil))))) pss_nil)))
    (pss_one (ps_ret pe_non)))), ?_⟩
  have two : 2 ≤ sizeLine := by decide
  refine ⟨_, rfl, v, .ty "tuple", _, _, _, rfl, .ty "tuple", ty_of hd, kit_D "tuple" d, _, rfl, ?_⟩
  cases ht : isiD "tuple" d with
  | false =>
    refine iteT (iteT ⟨two, fun p hp => k _ _ _ (Evl.Ex.new hp) (.tup upd_same (.cons .non (.cons (.str _) .nil))) ?_⟩)
    cases d with
    | tuple ds => exact absurd rfl (not_tup ht ds)
    | _ => rfl
  | true =>
    obtain ⟨ds, rfl⟩ := is_tup ht
    obtain ⟨a, xs, rfl, ha, hx⟩ := tup_inv hd
    have hl := hx.len
    have bad : ∀ {H' : Hp}, Ex H H' → ¬ (2 ≤ ds.length ∧ ds.length ≤ 7) → ∀ p, H' p = none → Q (.ref p) (upd H' p (.tup [.non, .str "rule"])) := fun e hn p hp =>
      k _ _ _ (e.trans (Evl.Ex.new hp)) (.tup upd_same (.cons .non (.cons (.str _) .nil))) (RuleRes.bad hn)
    refine iteF ⟨_, rfl, a, xs, rfl, .inr (SqT.of ha), _, _, rfl, rfl, _, rfl, ?_⟩
    by_cases h2 : (xs.length : Int) < 2
    · rw [decide_eq_true h2]
      exact iteT (iteT ⟨two, bad (Evl.Ex.refl _) (by omega)⟩)
    · rw [decide_eq_false h2]
      refine iteF ⟨_, rfl, a, xs, rfl, .inr (SqT.of ha), _, _, rfl, rfl, _, rfl, ?_⟩
      by_cases h7 : (7 : Int) < xs.length
      · rw [decide_eq_true h7]
        exact iteT ⟨two, bad (Evl.Ex.refl _) (by omega)⟩
      · rw [decide_eq_false h7]
        refine iteF ?_
        have hin : 2 ≤ ds.length ∧ ds.length ≤ 7 := by omega
        refine ⟨_, rfl, a, xs, rfl, ha, for_enumT (fun n σ H' => (∃ x y, σ = [some (.ref a), x, y]) ∧ Ex H H' ∧ ∀ (j : Nat) (e : PyData), j < n → ds[j]? = some e → ArrOk (ds.length - 1) e) ⟨⟨_, _, rfl⟩, Evl.Ex.refl _, fun j e hj => absurd hj (Nat.not_lt_zero j)⟩ (fun n σ2 H2 h => h.2.1 _ _ ha) ?_ ?_⟩
        · rintro n x σ H2 H3 hx2 ⟨⟨_, _, rfl⟩, e, ok⟩ e3
          obtain ⟨d, hd2, hdv⟩ := hx.get hx2
          have e4 := e.trans e3
          have cast : ((xs.length : Int) - 1) = ((ds.length - 1 : Nat) : Int) := by omega
          refine ⟨_, rfl, _, rfl, a, xs, rfl, .inr (SqT.of (e4 _ _ ha)), _, _, rfl, rfl, x, d, ds.length - 1, show [x, V.int ((xs.length : Int) - 1)] ++ [] = [x, V.int ((ds.length - 1 : Nat) : Int)] by rw [cast]; rfl, hdv.mono e4, by omega, sz ds rfl d (List.mem_of_getElem? hd2), fun b H5 e5 hb => ⟨_, rfl, ?_⟩⟩
          cases b with
          | true =>
            refine iteF ⟨⟨_, _, rfl⟩, e4.trans e5, next_ok ok hd2 (hb.mp rfl)⟩
          | false =>
            refine iteT ⟨_, rfl, two, fun p hp => k _ _ _ ((e4.trans e5).trans (Evl.Ex.new hp)) (.tup upd_same (.cons (.int n) (.cons (.str _) .nil))) ?_⟩
            exact RuleRes.good hin (.inr ⟨n, d, rfl, hd2, fun z => (nomatch hb.mpr z), ok⟩)
        · rintro σ H2 ⟨_, e, ok⟩
          refine k .non .none H2 e .non ?_
          exact RuleRes.good hin (First.of fun j e hj he => ok j e (by omega) he)
theorem ok_row_fault {f : Addr} {fd : FuncData} (F : Fun K "_law_row_fault" "_law_row_fault" sRowF f fd) (T : Blt mg) (c_law_whole : Cal P w K mg base 1 "_law_whole" ["_law_value", "_law_low", "_law_high"] spWhole) : FnOk P w K mg base CX0 2 f fd ["_law_rule_here", "_law_value"] spRowE := by
  refine F.ok scRowF (fun vs H Q E h => ?_) (fun cdv A outer s H vs Q E hr h => ?_)
  · obtain ⟨a, xs, v, d, n, rfl, _⟩ := h
    rfl
  obtain ⟨l, ls, v, d, m, rfl, hl1, hm, hd, k⟩ := h
  refine ⟨_, (pss_cons (ps_if (PW.pt (pw_or (pt_not (pt_val (pe_callB (k_isi (K := K) rfl) rfl T.isinstance bt_isinstance (pa_cons (pv 1) (pa_cons (pe_bltn (v := .ty "tuple") rfl T.tuple (by decide +kernel) rfl) pa_nil))))) (pw_or (pt_cmpR (ko_eqNilT (K := K) rfl hr.units) (pv 1) (pe_tup pa_nil) (nomark _)) (pw_or1 (pt_cmpR op_gt (pe_callB (k_len (K := K) rfl) rfl T.len bt_len (pa_cons (pv 1) pa_nil)) pe_int (nomark _)))))) (pss_one (ps_ret (pe_tup (pa_cons pe_non (pa_cons pe_str pa_nil))))) pss_nil)
    (pss_cons (ps_for PassesOwn.never rfl (pi_enumT rfl T.enumerate (pa_cons (pv 1) pa_nil)) (pg_tup rfl (pgs_cons (pg_name (i := 2) scRowF.nd rfl (Or.inl rfl)) (pgs_cons (pg_name (i := 3) scRowF.nd rfl (Or.inl rfl)) pgs_nil))) (pss_one (ps_if (pt_not (pt_val (pe_cal c_law_whole (hr.mono (by decide)) rfl (pa_cons (pv 3) (pa_cons pe_int (pa_cons (pe_op op_sub (pe_callB (k_len (K := K) rfl) rfl T.len bt_len (pa_cons (pv 0) pa_nil)) pe_int) pa_nil)))))) (pss_one (ps_ret (pe_tup (pa_cons (pv 2) (pa_cons pe_str pa_nil))))) pss_nil)))
    (pss_one (ps_ret pe_non)))), ?_⟩
  have two : 2 ≤ sizeLine := by decide
  refine ⟨_, rfl, v, .ty "tuple", _, _, _, rfl, .ty "tuple", ty_of hd, kit_D "tuple" d, _, rfl, ?_⟩
  cases ht : isiD "tuple" d with
  | false =>
    refine iteT (iteT ⟨two, fun p hp => k _ _ _ (Evl.Ex.new hp) (.tup upd_same (.cons .non (.cons (.str _) .nil))) ?_⟩)
    cases d with
    | tuple ds => exact absurd rfl (not_tup ht ds)
    | _ => rfl
  | true =>
    obtain ⟨ds, rfl⟩ := is_tup ht
    obtain ⟨a, xs, rfl, ha, hx⟩ := tup_inv hd
    have hl := hx.len
    have bad : ∀ {H' : Hp}, Ex H H' → ¬ (1 ≤ ds.length ∧ ds.length ≤ 40) → ∀ p, H' p = none → Q (.ref p) (upd H' p (.tup [.non, .str "row"])) := fun e hn p hp =>
      k _ _ _ (e.trans (Evl.Ex.new hp)) (.tup upd_same (.cons .non (.cons (.str _) .nil))) (RowRes.bad hn)
    refine iteF ⟨_, rfl, (by show 0 ≤ sizeLine; decide), fun z hz => ⟨a, z, xs, rfl, rfl, SqT.of (by rw [upd_ne (ne_of_none ha hz)]; exact ha), SqT.of upd_same, _, rfl, ?_⟩⟩
    have e2 : Ex H (upd H z (.tup [])) := Evl.Ex.new hz
    generalize upd H z (.tup []) = H1 at e2 ⊢
    by_cases h2 : xs = []
    · rw [decide_eq_true h2]
      refine iteT (iteT ⟨two, bad e2 ?_⟩)
      rw [h2] at hl
      rw [← hl]
      exact fun q => absurd q.1 (by decide)
    · rw [decide_eq_false h2]
      have hpos : 0 < xs.length := List.length_pos_iff.mpr h2
      refine iteF ⟨_, rfl, a, xs, rfl, .inr (SqT.of (e2 _ _ ha)), _, _, rfl, rfl, _, rfl, ?_⟩
      by_cases h7 : (40 : Int) < xs.length
      · rw [decide_eq_true h7]
        exact iteT ⟨two, bad e2 (by omega)⟩
      · rw [decide_eq_false h7]
        refine iteF ?_
        have hin : 1 ≤ ds.length ∧ ds.length ≤ 40 := by omega
        refine ⟨_, rfl, a, xs, rfl, e2 _ _ ha, for_enumT (fun n σ H' => (∃ x y, σ = [some (.ref l), some (.ref a), x, y]) ∧ Ex H H' ∧ ∀ (j : Nat) (e : PyData), j < n → ds[j]? = some e → withinD e 0 ((m : Int) - 1) = true) ⟨⟨_, _, rfl⟩, e2, fun j e hj => absurd hj (Nat.not_lt_zero j)⟩ (fun n σ2 H2 h => h.2.1 _ _ ha) ?_ ?_⟩
        · rintro n x σ H2 H3 hx2 ⟨⟨_, _, rfl⟩, e, ok⟩ e3
          obtain ⟨d, hd2, hdv⟩ := hx.get hx2
          have e4 := e.trans e3
          have cast : ((ls.length : Int) - 2) = (m : Int) - 1 := by omega
          refine ⟨_, rfl, _, rfl, l, ls, rfl, .inr (SqT.of (e4 _ _ hl1)), _, _, rfl, rfl, x, d, 0, (m : Int) - 1, show [x, V.int 0, V.int ((ls.length : Int) - 2)] ++ [] = [x, V.int 0, V.int ((m : Int) - 1)] by rw [cast]; rfl, hdv.mono e4, _, rfl, ?_⟩
          cases hb : withinD d 0 ((m : Int) - 1) with
          | true =>
            exact iteF ⟨⟨_, _, rfl⟩, e4, next_ok (p := fun e => withinD e 0 ((m : Int) - 1) = true) ok hd2 hb⟩
          | false =>
            refine iteT ⟨_, rfl, two, fun p hp => k _ _ _ (e4.trans (Evl.Ex.new hp)) (.tup upd_same (.cons (.int n) (.cons (.str _) .nil))) ?_⟩
            exact RowRes.good hin (.inr ⟨n, d, rfl, hd2, fun z => (nomatch hb.symm.trans z), ok⟩)
        · rintro σ H2 ⟨_, e, ok⟩
          refine k .non .none H2 e .non ?_
          exact RowRes.good hin (First.of fun j e hj he => ok j e (by omega) he)
end
end Lr

namespace Lr
open PySem L2
/-! ### how long a text shows it, how deep it is -/
structure Sh (m k : Nat) (d : PyData) : Prop where
  sh : d.showable = true
  len : d.shown.length ≤ m
  dep : d.depth ≤ k
structure Pu (d : PyData) : Prop where
  nd : d.hasDict = false
  nl : hasList d = false
def Ni (d : PyData) : Prop := d.hasDict = true → hasList d = false
theorem Pu.ni {d : PyData} (h : Pu d) : Ni d := fun _ => h.nl
theorem Sh.mono {m k m' k' : Nat} {d : PyData} (h : Sh m k d) (hm : m ≤ m') (hk : k ≤ k') : Sh m' k' d := ⟨h.sh, Nat.le_trans h.len hm, Nat.le_trans h.dep hk⟩
theorem sh_all {m k : Nat} : ∀ {es : List PyData}, (∀ e ∈ es, Sh m k e) → PyData.showableAll es = true ∧ ((PyData.shownAll es).map (·.length)).sum ≤ m * es.length ∧ PyData.depthAll es ≤ k
  | [], _ => by simp [PyData.showableAll, PyData.shownAll, PyData.depthAll]
  | x :: r, h => by
    obtain ⟨a, b, c⟩ := sh_all (es := r) fun y hy => h y (by simp [hy])
    have hx := h x (by simp)
    have h1 := hx.len
    have h2 := hx.dep
    refine ⟨by simp [PyData.showableAll, hx.sh, a], ?_, by simp only [PyData.depthAll]; omega⟩
    simp only [List.map_cons, PyData.shownAll, List.sum_cons, List.length_cons, Nat.mul_add, Nat.mul_one]
    omega
theorem sh_tup {m k c : Nat} {es : List PyData} (h : ∀ e ∈ es, Sh m k e) (hc : es.length ≤ c) : Sh (c * (m + 2) + 3) (k + 1) (.tuple es) := by
  obtain ⟨a, b, e⟩ := sh_all h
  refine ⟨by simpa [PyData.showable] using a, ?_, by simp only [PyData.depth]; omega⟩
  simp only [PyData.shown]
  have t := tupleText_len_le (PyData.shownAll es)
  rw [PyData.shownAll_length] at t
  have q : m * es.length + 2 * es.length ≤ c * (m + 2) := by
    rw [← Nat.add_mul, Nat.mul_comm, Nat.add_comm m 2, Nat.add_comm 2 m]
    exact Nat.mul_le_mul_right _ hc
  omega
theorem sh_lst {m k c : Nat} {es : List PyData} (h : ∀ e ∈ es, Sh m k e) (hc : es.length ≤ c) : Sh (c * (m + 2) + 3) (k + 1) (.list es) := by
  obtain ⟨a, b, e⟩ := sh_all h
  refine ⟨by simpa [PyData.showable] using a, ?_, by simp only [PyData.depth]; omega⟩
  simp only [PyData.shown]
  have t := listText_len_le (PyData.shownAll es)
  rw [PyData.shownAll_length] at t
  have q : m * es.length + 2 * es.length ≤ c * (m + 2) := by
    rw [← Nat.add_mul, Nat.mul_comm, Nat.add_comm m 2, Nat.add_comm 2 m]
    exact Nat.mul_le_mul_right _ hc
  omega
theorem pu_all : ∀ {es : List PyData}, (∀ e ∈ es, Pu e) → PyData.hasDictAll es = false ∧ hasListAll es = false
  | [], _ => by simp [PyData.hasDictAll, hasListAll]
  | x :: r, h => by
    obtain ⟨a, b⟩ := pu_all (es := r) fun y hy => h y (by simp [hy])
    have hx := h x (by simp)
    exact ⟨by simp [PyData.hasDictAll, hx.nd, a], by simp [hasListAll, hx.nl, b]⟩
theorem hd_app : ∀ (l r : List PyData), PyData.hasDictAll (l ++ r) = (PyData.hasDictAll l || PyData.hasDictAll r)
  | [], r => by simp [PyData.hasDictAll]
  | x :: l, r => by simp [PyData.hasDictAll, hd_app l r, Bool.or_assoc]
theorem hl_app : ∀ (l r : List PyData), hasListAll (l ++ r) = (hasListAll l || hasListAll r)
  | [], r => by simp [hasListAll]
  | x :: l, r => by simp [hasListAll, hl_app l r, Bool.or_assoc]
theorem pu_tup {es : List PyData} (h : ∀ e ∈ es, Pu e) : Pu (.tuple es) := by
  obtain ⟨a, b⟩ := pu_all h
  exact ⟨by simpa [PyData.hasDict] using a, by simpa [hasList] using b⟩
theorem ni_lst {es : List PyData} (h : ∀ e ∈ es, Pu e) : Ni (.list es) := fun z => by
  obtain ⟨a, b⟩ := pu_all h
  simp [PyData.hasDict, a] at z
theorem ni_tup {l r : List PyData} {e : PyData} (hl : ∀ x ∈ l, Pu x) (he : Ni e) (hr : ∀ x ∈ r, Pu x) : Ni (.tuple (l ++ e :: r)) := fun z => by
  obtain ⟨a1, b1⟩ := pu_all hl
  obtain ⟨a2, b2⟩ := pu_all hr
  simp only [PyData.hasDict, hd_app, PyData.hasDictAll, a1, a2, Bool.false_or, Bool.or_false] at z
  simp only [hasList, hl_app, hasListAll, b1, b2, Bool.false_or, Bool.or_false]
  exact he z
/-! ### items: plain ones, and the odd one among them -/
structure PI (m k : Nat) (e : PyData) : Prop where
  s : Sh m k e
  p : Pu e
  z : Sz e
structure VI (m k : Nat) (e : PyData) : Prop where
  s : Sh m k e
  n : Ni e
  z : Sz e
theorem PI.vi {m k : Nat} {e : PyData} (h : PI m k e) : VI m k e := ⟨h.s, h.p.ni, h.z⟩
theorem PI.mono {m k m' k' : Nat} {d : PyData} (h : PI m k d) (hm : m ≤ m') (hk : k ≤ k') : PI m' k' d := ⟨h.s.mono hm hk, h.p, h.z⟩
theorem VI.mono {m k m' k' : Nat} {d : PyData} (h : VI m k d) (hm : m ≤ m') (hk : k ≤ k') : VI m' k' d := ⟨h.s.mono hm hk, h.n, h.z⟩
/-- a tuple of plain items -/
def TP (m k c : Nat) (B : Hp) (v : V) : Prop := ∃ ds, Dv B v (.tuple ds) ∧ (∀ e ∈ ds, PI m k e) ∧ ds.length ≤ c
/-- a tuple of plain items but one -/
def TV (m k c : Nat) (B : Hp) (v : V) : Prop := ∃ l e r, Dv B v (.tuple (l ++ e :: r)) ∧ (∀ x ∈ l, PI m k x) ∧ VI m k e ∧ (∀ x ∈ r, PI m k x) ∧ l.length + r.length + 1 ≤ c
theorem TP.mono {m k c : Nat} {B B' : Hp} {v : V} (h : TP m k c B v) (e : Ex B B') : TP m k c B' v := by
  obtain ⟨ds, a, b⟩ := h
  exact ⟨ds, a.mono e, b⟩
theorem TV.mono {m k c : Nat} {B B' : Hp} {v : V} (h : TV m k c B v) (e : Ex B B') : TV m k c B' v := by
  obtain ⟨l, x, r, a, b⟩ := h
  exact ⟨l, x, r, a.mono e, b⟩
theorem TP.le {m k c c' : Nat} {B : Hp} {v : V} (h : TP m k c B v) (e : c ≤ c') : TP m k c' B v := by
  obtain ⟨ds, a, b, c⟩ := h
  exact ⟨ds, a, b, by omega⟩
/-- a value to be judged -/
structure Val (m k : Nat) (d : PyData) : Prop where
  s : Sh m k d
  n : Ni d
  z : ∀ ds, d = .tuple ds → ∀ e ∈ ds, Sz e
theorem Val.mono {m k m' k' : Nat} {d : PyData} (h : Val m k d) (hm : m ≤ m') (hk : k ≤ k') : Val m' k' d := ⟨h.s.mono hm hk, h.n, h.z⟩
def IsVal (m k : Nat) (B : Hp) (v : V) : Prop := ∃ d, Dv B v d ∧ Val m k d
theorem IsVal.mono {m k : Nat} {B B' : Hp} {v : V} (h : IsVal m k B v) (e : Ex B B') : IsVal m k B' v := by
  obtain ⟨d, a, b⟩ := h
  exact ⟨d, a.mono e, b⟩
theorem TP.val {m k c : Nat} {B : Hp} {v : V} (h : TP m k c B v) : ∃ d, Dv B v d ∧ Val (c * (m + 2) + 3) (k + 1) d ∧ (c < 64 → Sz d) ∧ Pu d := by
  obtain ⟨ds, a, b, hc⟩ := h
  refine ⟨_, a, ⟨sh_tup (fun e he => (b e he).s) hc, (pu_tup fun e he => (b e he).p).ni, ?_⟩, ?_, pu_tup fun e he => (b e he).p⟩
  · intro es q e he
    injection q with q
    subst q
    exact (b e he).z
  · intro hc2 es q
    injection q with q
    subst q
    omega
theorem TV.val {m k c : Nat} {B : Hp} {v : V} (h : TV m k c B v) : ∃ d, Dv B v d ∧ Val (c * (m + 2) + 3) (k + 1) d ∧ (c < 64 → Sz d) := by
  obtain ⟨l, x, r, a, hl, hx, hr, hc⟩ := h
  have all : ∀ e ∈ l ++ x :: r, VI m k e := fun e he => by
    rcases List.mem_append.mp he with q | q
    · exact (hl e q).vi
    · rcases List.mem_cons.mp q with rfl | q
      · exact hx
      · exact (hr e q).vi
  have len : (l ++ x :: r).length ≤ c := by simp; omega
  refine ⟨_, a, ⟨sh_tup (fun e he => (all e he).s) len, ni_tup (fun e he => (hl e he).p) hx.n (fun e he => (hr e he).p), ?_⟩, ?_⟩
  · intro es q e he
    injection q with q
    subst q
    exact (all e he).z
  · intro hc2 es q
    injection q with q
    subst q
    omega
theorem np {σ : L2.St} {H : Hp} {Q : Option Int → Hp → Prop} (h : Q none H) : tNoPart σ H Q := h
theorem tn {σ : L2.St} {H : Hp} {Q : List V → Hp → Prop} (h : Q [] H) : tNil σ H Q := h
/-! ### B0 is known of data at H0; later all that is new is known too -/
section
variable {B0 H0 H H' : Hp}
theorem mix_mono (e : Ex H H') : Ex (mix B0 H0 H) (mix B0 H0 H') := fun a o h => by
  unfold mix at h ⊢
  by_cases q : H0 a = none
  · rw [if_pos q] at h ⊢
    exact e a o h
  · rw [if_neg q] at h ⊢
    exact h
theorem mix_call {B' : Hp} (e0 : Ex H0 H) (g : Grow (mix B0 H0 H) H B' H') : Ex B' (mix B0 H0 H') := fun a o h => by
  rcases g.sep a o h with q | q
  · exact mix_mono g.hh a o q
  · exact mix_new (Evl.fresh_back e0 q) (g.bh a o h)
theorem mix_at (b : Ex B0 H0) (e0 : Ex H0 H) : Ex (mix B0 H0 H) H := (mix_grow b e0).bh
theorem mix_base (b : Ex B0 H0) (e0 : Ex H0 H) : Ex B0 (mix B0 H0 H) := (mix_grow b e0).bb
theorem dm_tup {p : Addr} {xs : List V} {ds : List PyData} (e0 : Ex H0 H) (hp : H p = none) (h : DvAll (mix B0 H0 H) xs ds) : Dv (mix B0 H0 (upd H p (.tup xs))) (.ref p) (.tuple ds) :=
  .tup (mix_new (Evl.fresh_back e0 hp) upd_same) (h.mono (mix_mono (Evl.Ex.new hp)))
theorem dm_lst {p : Addr} {xs : List V} {ds : List PyData} (e0 : Ex H0 H) (hp : H p = none) (h : DvAll (mix B0 H0 H) xs ds) : Dv (mix B0 H0 (upd H p (.lst xs))) (.ref p) (.list ds) :=
  .lst (mix_new (Evl.fresh_back e0 hp) upd_same) (h.mono (mix_mono (Evl.Ex.new hp)))
theorem dm_in {v : V} {ds : List PyData} (b : Ex B0 H0) (e0 : Ex H0 H) (h : Dv (mix B0 H0 H) v (.tuple ds)) : ∃ a xs, v = .ref a ∧ H a = some (.tup xs) ∧ DvAll (mix B0 H0 H) xs ds ∧ xs.length = ds.length := by
  obtain ⟨a, xs, rfl, h1, h2⟩ := tup_inv h
  exact ⟨a, xs, rfl, mix_at b e0 a _ h1, h2, h2.len⟩
variable {K : PySem.W.Frag} {m k c c' : Nat} {v u : V} {Q : VK}
theorem cat_dm {ds es : List PyData} (b : Ex B0 H0) (e0 : Ex H0 H) (h1 : Dv (mix B0 H0 H) v (.tuple ds)) (h2 : Dv (mix B0 H0 H) u (.tuple es)) (hl : ds.length + es.length ≤ 100000)
    (q : ∀ x H', Ex H H' → Dv (mix B0 H0 H') x (.tuple (ds ++ es)) → Q x H') : rCatA K v u H Q := by
  obtain ⟨a, xs, rfl, ha, hx, lx⟩ := dm_in b e0 h1
  obtain ⟨a2, ys, rfl, hb, hy, ly⟩ := dm_in b e0 h2
  refine ⟨a, a2, xs, ys, rfl, rfl, SqT.of ha, SqT.of hb, Evl.sz_of (by omega), fun z => ?_, fun _ z => ?_, fun _ _ p hp => q _ _ (Evl.Ex.new hp) (dm_tup e0 hp (hx.app hy))⟩
  · subst z
    cases hx
    exact q _ _ (Evl.Ex.refl _) h2
  · subst z
    cases hy
    rw [List.append_nil] at q
    exact q _ _ (Evl.Ex.refl _) h1
theorem cat_pp (b : Ex B0 H0) (e0 : Ex H0 H) (h1 : TP m k c (mix B0 H0 H) v) (h2 : TP m k c' (mix B0 H0 H) u) (hl : c + c' ≤ 100000) (q : ∀ x H', Ex H H' → TP m k (c + c') (mix B0 H0 H') x → Q x H') : rCatA K v u H Q := by
  obtain ⟨ds, a1, a2, a3⟩ := h1
  obtain ⟨es, b1, b2, b3⟩ := h2
  refine cat_dm b e0 a1 b1 (by omega) fun x H' e hx => q x H' e ⟨_, hx, fun y hy => ?_, by simp; omega⟩
  rcases List.mem_append.mp hy with z | z
  · exact a2 y z
  · exact b2 y z
theorem cat_pv (b : Ex B0 H0) (e0 : Ex H0 H) (h1 : TP m k c (mix B0 H0 H) v) (h2 : TV m k c' (mix B0 H0 H) u) (hl : c + c' ≤ 100000) (q : ∀ x H', Ex H H' → TV m k (c + c') (mix B0 H0 H') x → Q x H') : rCatA K v u H Q := by
  obtain ⟨ds, a1, a2, a3⟩ := h1
  obtain ⟨l, o, r, b1, b2, b3, b4, b5⟩ := h2
  refine cat_dm b e0 a1 b1 (by simp; omega) fun x H' e hx => q x H' e ⟨ds ++ l, o, r, by rw [List.append_assoc]; exact hx, fun y hy => ?_, b3, b4, by simp; omega⟩
  rcases List.mem_append.mp hy with z | z
  · exact a2 y z
  · exact b2 y z
theorem cat_vp (b : Ex B0 H0) (e0 : Ex H0 H) (h1 : TV m k c (mix B0 H0 H) v) (h2 : TP m k c' (mix B0 H0 H) u) (hl : c + c' ≤ 100000) (q : ∀ x H', Ex H H' → TV m k (c + c') (mix B0 H0 H') x → Q x H') : rCatA K v u H Q := by
  obtain ⟨ds, a1, a2, a3⟩ := h2
  obtain ⟨l, o, r, b1, b2, b3, b4, b5⟩ := h1
  refine cat_dm b e0 b1 a1 (by simp; omega) fun x H' e hx => q x H' e ⟨l, o, r ++ ds, ?_, b2, b3, fun y hy => ?_, by simp; omega⟩
  · rw [List.append_assoc, List.cons_append] at hx
    exact hx
  · rcases List.mem_append.mp hy with z | z
    · exact b4 y z
    · exact a2 y z
theorem sl_tp {lo hi : Option Int} (b : Ex B0 H0) (e0 : Ex H0 H) (h1 : TP m k c (mix B0 H0 H) v) (q : ∀ x H', Ex H H' → TP m k c (mix B0 H0 H') x → Q x H') : rSlA K v lo hi H Q := by
  obtain ⟨ds, a1, a2, a3⟩ := h1
  obtain ⟨a, xs, rfl, ha, hx, lx⟩ := dm_in b e0 a1
  refine ⟨a, xs, rfl, SqT.of ha, fun _ => q _ _ (Evl.Ex.refl _) ⟨ds, a1, a2, a3⟩, fun _ p hp => q _ _ (Evl.Ex.new hp) ⟨_, dm_tup e0 hp ((hx.drop _).take _), fun e he => a2 e (List.mem_of_mem_drop (List.mem_of_mem_take he)), ?_⟩⟩
  rw [List.length_take, List.length_drop]
  omega
theorem tup1_v {e : PyData} {p : Addr} (e0 : Ex H0 H) (h : Dv (mix B0 H0 H) v e) (hv : VI m k e) (hp : H p = none) : TV m k 1 (mix B0 H0 (upd H p (.tup [v]))) (.ref p) :=
  ⟨[], e, [], dm_tup e0 hp (.cons h .nil), fun _ z => (nomatch z), hv, fun _ z => (nomatch z), Nat.le_refl _⟩
theorem tup1_p {e : PyData} {p : Addr} (e0 : Ex H0 H) (h : Dv (mix B0 H0 H) v e) (hv : PI m k e) (hp : H p = none) : TP m k 1 (mix B0 H0 (upd H p (.tup [v]))) (.ref p) :=
  ⟨[e], dm_tup e0 hp (.cons h .nil), fun x z => by rcases List.mem_singleton.mp z with rfl; exact hv, Nat.le_refl _⟩
/-- the items picked by places -/
theorem pick_all {B : Hp} {xs : List V} {ds : List PyData} (h : DvAll B xs ds) (f : Nat → Nat) : ∀ l : List Nat, DvAll B (l.filterMap fun j => xs[f j]?) (l.filterMap fun j => ds[f j]?)
  | [] => .nil
  | j :: l => by
    cases q : xs[f j]? with
    | none =>
      have : ds[f j]? = none := by
        have := List.getElem?_eq_none_iff.mp q
        rw [h.len] at this
        exact List.getElem?_eq_none this
      rw [List.filterMap_cons_none (by rw [q]), List.filterMap_cons_none (by rw [this])]
      exact pick_all h f l
    | some x =>
      obtain ⟨d, h1, h2⟩ := h.get q
      rw [List.filterMap_cons_some (by rw [q]), List.filterMap_cons_some (by rw [h1])]
      exact .cons h2 (pick_all h f l)
theorem rev_tp (b : Ex B0 H0) (e0 : Ex H0 H) (h1 : TP m k c (mix B0 H0 H) v) :
    ∃ (a : Addr) (xs : List V), v = .ref a ∧ H a = some (.tup xs) ∧ ∀ (f : Nat → Nat) (n : Nat) p, n ≤ xs.length → H p = none → TP m k c (mix B0 H0 (upd H p (.tup ((List.range n).filterMap fun j => xs[f j]?)))) (.ref p) := by
  obtain ⟨ds, a1, a2, a3⟩ := h1
  obtain ⟨a, xs, rfl, ha, hx, lx⟩ := dm_in b e0 a1
  refine ⟨a, xs, rfl, ha, fun f n p hn hp => ⟨_, dm_tup e0 hp (pick_all hx f _), fun e he => ?_, ?_⟩⟩
  · obtain ⟨j, _, hj⟩ := List.mem_filterMap.mp he
    exact a2 e (List.mem_of_getElem? hj)
  · refine Nat.le_trans (List.length_filterMap_le _ _) ?_
    rw [List.length_range]
    omega
/-- list(a tuple) -/
theorem lst_tp (b : Ex B0 H0) (e0 : Ex H0 H) (h1 : TP m k c (mix B0 H0 H) v) (q : ∀ x H' es, Ex H H' → Dv (mix B0 H0 H') x (.list es) → (∀ e ∈ es, PI m k e) → es.length ≤ c → Q x H') : rLstOf K [v] H Q := by
  obtain ⟨ds, a1, a2, a3⟩ := h1
  obtain ⟨a, xs, rfl, ha, hx, lx⟩ := dm_in b e0 a1
  exact ⟨a, xs, rfl, .inr (SqT.of ha), fun l hl => q _ _ ds (Evl.Ex.new hl) (dm_lst e0 hl hx) a2 a3⟩
theorem lst_val {es : List PyData} (h : ∀ e ∈ es, PI m k e) (hc : es.length ≤ c) : Val (c * (m + 2) + 3) (k + 1) (.list es) ∧ Sz (.list es) :=
  ⟨⟨sh_lst (fun e he => (h e he).s) hc, ni_lst fun e he => (h e he).p, fun _ q => (nomatch q)⟩, fun _ q => (nomatch q)⟩
end
/-! ### a list made turn by turn, whose items may hold lists -/
section
variable {a : Addr} {xs : List V} {te : TE} {vs : List Nat} {σ : L2.St} {B H1 : Hp} {D : Addr} {Qd : Hp → Prop} {j : Nat}
theorem made_rangeB {n : Nat} (M : PyData → Prop) (hD : H1 D = none) (hB : Ex B H1) (hn : n < 100000)
    (hw : ∀ x, wipe ((wipe σ vs).set j (some x)) vs = wipe σ vs)
    (he : ∀ i : Nat, i < n → ∀ B' H', Ex B B' → Ex B' H' → Ex H1 H' → ∀ Q : VK, (∀ v d B2 H2, Grow B' H' B2 H2 → Dv B2 v d → M d → Q v H2) → te ((wipe σ vs).set j (some (.int (i : Int)))) H' Q)
    (hd : ∀ (ys : List V) (ds : List PyData) B' H', ys.length = n → Grow B H1 B' H' → H' D = some (.lst ys) → DvAll B' ys ds → (∀ d ∈ ds, M d) → Qd H') :
    ∃ W : Nat → Nat → Hp → Prop, (∃ m, W 0 m (upd H1 D (.lst []))) ∧ ∀ i m H, W i m H →
      ((Itr 0 n).stop i H ∧ Qd H) ∨ ((Itr 0 n).go i H ∧ ∃ Nx : Hp → Prop, (∀ H', Nx H' → ∃ m', m' < m ∧ W (i + 1) m' H') ∧ ∀ x H', (Itr 0 n).yld i H x H' → gName j x (wipe σ vs) H' fun σ2 H2 => wipe σ2 vs = wipe σ vs ∧ tYes σ2 H2 fun b H3 =>
        if b = true then te σ2 H3 fun y H4 => ∃ acc, H4 D = some (.lst acc) ∧ acc.length < sizeLine ∧ Nx (upd H4 D (.lst (acc ++ [y]))) else Nx H3) := by
  have hBD : B D = none := Evl.fresh_back hB hD
  refine lc_range (lo := 0) (n := n) (fun i H' => ∃ (ys : List V) (ds : List PyData) (B' : Hp), ys.length = i ∧ Grow B H1 B' H' ∧ B' D = none ∧ H' D = some (.lst ys) ∧ DvAll B' ys ds ∧ ∀ d ∈ ds, M d) ?_ ?_ ?_
  · refine ⟨[], [], B, rfl, ⟨Evl.Ex.refl _, hB.trans (Evl.Ex.new hD), Evl.Ex.new hD, fun a o h => .inl h⟩, hBD, upd_same, .nil, fun _ z => (nomatch z)⟩
  · rintro i H' hi ⟨ys, ds, B', hl, g, f, hy, hdv, hm⟩
    have e0 : (0 : Int) + (i : Int) = (i : Int) := Int.zero_add _
    show wipe ((wipe σ vs).set j (some (.int (0 + (i : Int))))) vs = wipe σ vs ∧ tYes ((wipe σ vs).set j (some (.int (0 + (i : Int))))) H' _
    rw [e0]
    refine ⟨hw _, yesT (he i hi B' H' g.bb g.bh g.hh _ fun v d B2 H2 g2 hv hmd => ?_)⟩
    have f2 : B2 D = none := g2.free f hy
    have upx : Ex B2 (upd H2 D (.lst (ys ++ [v]))) := fun a o h => by
      have : a ≠ D := fun z => by rw [z, f2] at h; cases h
      rw [upd_ne this]
      exact g2.bh a o h
    have up1 : Ex H1 (upd H2 D (.lst (ys ++ [v]))) := Evl.Ex.mut (g.hh.trans g2.hh) hD
    refine ⟨ys, g2.hh _ _ hy, by rw [hl]; exact Evl.sz_lt (by omega), ys ++ [v], ds ++ [d], B2, by simp [hl], ⟨g.bb.trans g2.bb, upx, up1, fun a o h => ?_⟩, f2, upd_same, (hdv.mono g2.bb).app (.cons hv .nil), fun x hx => ?_⟩
    · rcases g2.sep a o h with q | q
      · exact g.sep a o q
      · exact .inr (Evl.fresh_back g.hh q)
    · rcases List.mem_append.mp hx with q | q
      · exact hm x q
      · rcases List.mem_singleton.mp q with rfl
        exact hmd
  · rintro H' ⟨ys, ds, B', hl, g, f, hy, hdv, hm⟩
    exact hd ys ds B' H' hl g hy hdv hm
end
end Lr

namespace Lr
open PySem L2
theorem odd_vi : ∀ d ∈ oddD, VI 60 2 d := by
  have h : ∀ d ∈ oddD, (d.showable && decide (d.shown.length ≤ 60) && decide (d.depth ≤ 2) && (!d.hasDict || !hasList d) && (match d with | .tuple es => decide (es.length < 64) | _ => true)) = true := by decide +kernel
  intro d hd
  have q := h d hd
  simp only [Bool.and_eq_true, decide_eq_true_eq] at q
  obtain ⟨⟨⟨⟨a, b⟩, c⟩, e⟩, f⟩ := q
  refine ⟨⟨a, b, c⟩, fun z => ?_, ?_⟩
  · rw [z] at e
    simpa using e
  · rintro es rfl
    exact of_decide_eq_true f
theorem small_show {i : Int} (h : i.natAbs < 10 ^ 12) : (PyData.int i).showable = true := by
  simp only [PyData.showable, decide_eq_true_eq]
  have h1 : i.natAbs < 2 ^ 40 := Nat.lt_trans h (by decide)
  have := PySem.Flt.log2_lt_of (k := 40) (by decide) h1
  omega
theorem int_pi {i : Int} (h : i.natAbs < 10 ^ 12) : PI 20 0 (.int i) :=
  ⟨⟨small_show h, Nat.le_trans (PyData.shown_int_le h) (by decide), by simp [PyData.depth]⟩, ⟨rfl, rfl⟩, fun _ q => (nomatch q)⟩
theorem t012_pi : PI 20 1 (.tuple [.int 0, .int 1, .int 2]) := ⟨⟨by decide +kernel, by decide +kernel, by decide +kernel⟩, ⟨by decide +kernel, by decide +kernel⟩, fun _ q => by injection q with q; subst q; decide⟩
abbrev sBent : Stmt := topS 20
abbrev nBent : List Str := ["_law_can", "_law_value", "_law_at", "_law_head", "_law_tail", "_law_new", "_law_some"]
theorem scBent : FnScope nBent ["_law_can", "_law_value"] (defScope sBent) :=
  ⟨rfl, rfl, rfl, by decide +kernel, rfl, by decide +kernel, by decide +kernel⟩
section
variable {P : Program} {w : World} {K : PySem.W.Frag} {mg : Str → Option Value} {base : Heap}
def spBent (P : Program) (w : World) : Sp := fun vs H Q _ => ∃ (c : Addr) (v : V) (B : Hp) (m k n : Nat), vs = [.ref c, v] ∧ Can P w H c ∧ Ex B H ∧ TP m k n B v ∧ 60 ≤ m ∧ 2 ≤ k ∧ n ≤ 1000 ∧
  ∀ v d B' H', Grow B H B' H' → Dv B' v d → Val ((3 * n + 1) * (m + 2) + 3) (k + 1) d → (3 * n + 1 < 64 → Sz d) → Q v H'
theorem ok_bent {f : Addr} {fd : FuncData} (F : Fun K "_law_bent" "_law_bent" sBent f fd) (T : Blt mg) (c_law_roll : Cal P w K mg base 1 "_law_roll" ["_law_can", "_law_many"] (spRoll P w))
    (c_law_one : Cal P w K mg base 2 "_law_one" ["_law_can", "_law_items"] (spOne P w)) (c_law_odd : Cal P w K mg base 3 "_law_odd" ["_law_can"] (spOdd P w)) : FnOk P w K mg base CX0 4 f fd ["_law_can", "_law_value"] (spBent P w) := by
  refine F.ok scBent (fun vs H Q E h => ?_) (fun cdv A outer s H vs Q E hr h => ?_)
  · obtain ⟨c, v, B, m, k, n, rfl, _⟩ := h
    rfl
  obtain ⟨c, v, B, m, k, n, rfl, C, hB, tv, hm, hk, hn, kk⟩ := h
  obtain ⟨ds, hv, pi, hds⟩ := id tv
  obtain ⟨a, xs, rfl, haB, hx⟩ := tup_inv hv
  have ha := hB _ _ haB
  have lx := hx.len
  refine ⟨_, (pss_cons (ps_set (i := 2) scBent.nd rfl (Or.inl rfl) (pe_cal c_law_roll (hr.mono (by decide)) rfl (pa_cons (pv 0) (pa_cons (pe_op op_add (pe_callB (k_len (K := K) rfl) rfl T.len bt_len (pa_cons (pv 1) pa_nil)) pe_int) pa_nil))))
    (pss_cons (ps_par (i := 3) (j := 4) rfl scBent.nd rfl rfl (by decide) rfl rfl (pa_cons (pe_slice (ks_tup (K := K) rfl) (pv 1) po_none (po_some (pv 2))) (pa_cons (pe_slice (ks_tup (K := K) rfl) (pv 1) (po_some (pv 2)) po_none) pa_nil)) rfl)
    (pss_cons (ps_set (i := 5) scBent.nd rfl (Or.inl rfl) (pe_cal c_law_one (hr.mono (by decide)) rfl (pa_cons (pv 0) (pa_cons (pe_lst (pa_cons (pe_cal c_law_odd (hr.mono (by decide)) rfl (pa_cons (pv 0) pa_nil)) (pa_cons (pe_un un_neg pe_int) (pa_cons (pe_callB (k_len (K := K) rfl) rfl T.len bt_len (pa_cons (pv 1) pa_nil)) (pa_cons (pe_op op_sub (pe_callB (k_len (K := K) rfl) rfl T.len bt_len (pa_cons (pv 1) pa_nil)) pe_int) (pa_cons pe_int (pa_cons (pe_tup (pa_cons pe_int (pa_cons pe_int (pa_cons pe_int pa_nil)))) pa_nil))))))) pa_nil))))
    (pss_cons (ps_set (i := 6) scBent.nd rfl (Or.inl rfl) (pe_lst (pa_cons (pe_op (ko_catT (K := K) rfl) (pe_op (ko_catT (K := K) rfl) (pv 3) (pe_tup (pa_cons (pv 5) pa_nil))) (pv 4)) (pa_cons (pe_op (ko_catT (K := K) rfl) (pe_op (ko_catT (K := K) rfl) (pv 3) (pe_tup (pa_cons (pv 5) pa_nil))) (pe_slice (ks_tup (K := K) rfl) (pv 4) (po_some pe_int) po_none)) (pa_cons (pe_op (ko_catT (K := K) rfl) (pv 3) (pe_slice (ks_tup (K := K) rfl) (pv 4) (po_some pe_int) po_none)) (pa_cons (pe_op (ko_catT (K := K) rfl) (pe_op (ko_catT (K := K) rfl) (pv 3) (pe_slice (ks_tup (K := K) rfl) (pv 4) po_none (po_some pe_int))) (pv 4)) pa_nil))))))
    (pss_one (ps_ret (pe_cal c_law_one (hr.mono (by decide)) rfl (pa_cons (pv 0) (pa_cons (pe_op op_cat (pv 6) (pe_lst (pa_cons (pe_callTy (k_list_of (K := K) rfl) rfl T.list bt_list (pa_cons (pv 1) pa_nil)) (pa_cons (pe_op (ko_catT (K := K) rfl) (pe_op (ko_catT (K := K) rfl) (pv 3) (pe_revT (pe_slice (ks_tup (K := K) rfl) (pv 4) po_none (po_some pe_int)))) (pe_slice (ks_tup (K := K) rfl) (pv 4) (po_some pe_int) po_none)) pa_nil)))) pa_nil))))))))), ?_⟩
  -- at
  refine ⟨_, rfl, _, rfl, a, xs, rfl, .inr (SqT.of ha), _, _, rfl, rfl, c, _, rfl, C, by omega, by omega, fun at1 H1 e1 r0 r1 => ?_⟩
  have t1 : TP m k n (mix B H H1) (.ref a) := tv.mono (mix_base hB e1)
  -- head, tail
  refine ⟨_, rfl, _, rfl, at1, rfl, sl_tp hB e1 t1 fun hd H2 e2 th => ?_⟩
  have f2 := e1.trans e2
  refine ⟨_, rfl, _, rfl, at1, rfl, np (sl_tp hB f2 (t1.mono (mix_mono e2)) fun tl H3 e3 tt => ⟨_, _, rfl, ?_⟩)⟩
  have f3 := f2.trans e3
  have th := th.mono (mix_mono e3)
  have tt := tt
  -- new
  refine ⟨_, rfl, _, rfl, c, mix B H H3, rfl, C.mono f3, mix_at hB f3, fun v0 d0 B4 H4 g4 hv0 hd0 => ?_⟩
  have f4 := f3.trans g4.hh
  have hv0 := hv0.mono (mix_call f3 g4)
  have tt := tt.mono (mix_mono g4.hh)
  have th := th.mono (mix_mono g4.hh)
  clear g4
  refine ⟨_, rfl, _, rfl, a, xs, rfl, .inr (SqT.of (f4 _ _ ha)), _, rfl, a, xs, rfl, .inr (SqT.of (f4 _ _ ha)), _, _, rfl, rfl, (by show 3 ≤ sizeLine; decide), fun p5 hp5 => ⟨(by show 6 ≤ sizeLine; decide), fun l5 hl5 => ?_⟩⟩
  have e5 := Evl.Ex.new hp5 (o := .tup [.int 0, .int 1, .int 2])
  have d5 : Dv (mix B H (upd H4 p5 (.tup [.int 0, .int 1, .int 2]))) (.ref p5) (.tuple [.int 0, .int 1, .int 2]) := dm_tup f4 hp5 (.cons (.int _) (.cons (.int _) (.cons (.int _) .nil)))
  have f5 := f4.trans e5
  have hv0 := hv0.mono (mix_mono e5)
  have tt := tt.mono (mix_mono e5)
  have th := th.mono (mix_mono e5)
  generalize upd H4 p5 (.tup [.int 0, .int 1, .int 2]) = H5 at hl5 d5 f5 hv0 tt th ⊢
  clear e5
  refine ⟨c, l5, _, rfl, C.mono (f5.trans (Evl.Ex.new hl5)), upd_same, by simp, by simp, fun new H6 e6' hnew => ?_⟩
  have e6 := (Evl.Ex.new hl5).trans e6'
  have f6 := f5.trans e6
  have tt := tt.mono (mix_mono e6)
  have th := th.mono (mix_mono e6)
  obtain ⟨dn, hdn, vn⟩ : ∃ d, Dv (mix B H H6) new d ∧ VI m k d := by
    have small : ∀ i : Int, i.natAbs < 10 ^ 12 → VI m k (.int i) := fun i hi => (int_pi hi).vi.mono (by omega) (by omega)
    simp only [List.mem_cons, List.not_mem_nil, or_false] at hnew
    rcases hnew with rfl | rfl | rfl | rfl | rfl | rfl
    · exact ⟨_, hv0.mono (mix_mono e6), (odd_vi _ hd0).mono (by omega) (by omega)⟩
    · exact ⟨_, .int _, small _ (by decide)⟩
    · exact ⟨_, .int _, small _ (by omega)⟩
    · exact ⟨_, .int _, small _ (by omega)⟩
    · exact ⟨_, .int _, small _ (by decide)⟩
    · exact ⟨_, d5.mono (mix_mono e6), t012_pi.vi.mono (by omega) (by omega)⟩
  clear hnew d5 hv0 e6 e6'
  -- some
  have z1 : 1 ≤ sizeLine := by decide
  refine ⟨_, rfl, _, rfl, z1, fun p1 hp1 => ?_⟩
  have a1 := Evl.Ex.new hp1 (o := .tup [new])
  refine cat_pv hB (f6.trans a1) (th.mono (mix_mono a1)) (tup1_v f6 hdn vn hp1) (by omega) fun x1 G1 b1 u1 => ⟨_, rfl, ?_⟩
  have g1 := a1.trans b1
  clear b1 a1
  refine cat_vp hB (f6.trans g1) u1 (tt.mono (mix_mono g1)) (by omega) fun y1 G2 b2 s1 => ⟨_, rfl, _, rfl, z1, fun p2 hp2 => ?_⟩
  have g2 := g1.trans b2
  clear u1 b2 g1
  have a2 := Evl.Ex.new hp2 (o := .tup [new])
  refine cat_pv hB (f6.trans (g2.trans a2)) (th.mono (mix_mono (g2.trans a2))) (tup1_v (f6.trans g2) (hdn.mono (mix_mono g2)) vn hp2) (by omega) fun x2 G3 b3 u2 => ⟨_, rfl, 1, rfl, np ?_⟩
  have g3 := g2.trans (a2.trans b3)
  have s1 := s1.mono (mix_mono (a2.trans b3))
  clear a2 b3 g2
  refine sl_tp hB (f6.trans g3) (tt.mono (mix_mono g3)) fun x3 G4 b4 u3 => ?_
  have g4 := g3.trans b4
  refine cat_vp hB (f6.trans g4) (u2.mono (mix_mono b4)) u3 (by omega) fun y2 G5 b5 s2 => ⟨_, rfl, _, rfl, 1, rfl, np ?_⟩
  have g5 := g4.trans b5
  have s1 := s1.mono (mix_mono (b4.trans b5))
  clear b4 b5 g4 g3 u3 u2
  refine sl_tp hB (f6.trans g5) (tt.mono (mix_mono g5)) fun x4 G6 b6 u4 => ?_
  have g6 := g5.trans b6
  refine cat_pp hB (f6.trans g6) (th.mono (mix_mono g6)) u4 (by omega) fun y3 G7 b7 s3 => ⟨_, rfl, _, rfl, 1, rfl, ?_⟩
  have g7 := g6.trans b7
  have s1 := s1.mono (mix_mono (b6.trans b7))
  have s2 := s2.mono (mix_mono (b6.trans b7))
  clear b6 b7 g6 g5 u4
  refine sl_tp hB (f6.trans g7) (tt.mono (mix_mono g7)) fun x5 G8 b8 u5 => ?_
  have g8 := g7.trans b8
  refine cat_pp hB (f6.trans g8) (th.mono (mix_mono g8)) u5 (by omega) fun x6 G9 b9 u6 => ⟨_, rfl, ?_⟩
  have g9 := g8.trans b9
  refine cat_pp hB (f6.trans g9) u6 (tt.mono (mix_mono g9)) (by omega) fun y4 G10 b10 s4 => ⟨(by show 4 ≤ sizeLine; decide), fun l7 hl7 => ?_⟩
  have b11 := Evl.Ex.new hl7 (o := .lst [y1, y2, y3, y4])
  have hl : upd G10 l7 (.lst [y1, y2, y3, y4]) l7 = some (.lst [y1, y2, y3, y4]) := upd_same
  have g10 := (g9.trans b10).trans b11
  have b8' := ((b8.trans b9).trans b10).trans b11
  have s1 := s1.mono (mix_mono b8')
  have s2 := s2.mono (mix_mono b8')
  have s3 := s3.mono (mix_mono b8')
  have s4 := s4.mono (mix_mono b11)
  generalize upd G10 l7 (.lst [y1, y2, y3, y4]) = G11 at hl g10 s1 s2 s3 s4 ⊢
  clear b8 b9 b10 b11 b8' u5 u6 g7 g8 g9
  -- the end
  refine ⟨_, rfl, _, rfl, _, rfl, ?_⟩
  have f11 := f6.trans g10
  refine tn (lst_tp hB f11 (tv.mono (mix_base hB f11)) fun y5 G12 es b12 hy5 hes hel => ⟨_, rfl, _, rfl, 2, rfl, ?_⟩)
  have g12 := g10.trans b12
  refine sl_tp hB (f6.trans g12) (tt.mono (mix_mono g12)) fun x7 G13 b13 u7 => ?_
  have g13 := g12.trans b13
  obtain ⟨a7, xs7, rfl, ha7, rv⟩ := rev_tp hB (f6.trans g13) u7
  refine ⟨a7, xs7, rfl, ha7, fun f1 k1 x8 hk1 hx8 => ?_⟩
  have u8 := rv f1 k1 x8 hk1 hx8
  have b14 := Evl.Ex.new hx8 (o := .tup ((List.range k1).filterMap fun j => xs7[f1 j]?))
  generalize upd G13 x8 (.tup ((List.range k1).filterMap fun j => xs7[f1 j]?)) = G14 at u8 b14 ⊢
  have g14 := g13.trans b14
  refine cat_pp hB (f6.trans g14) (th.mono (mix_mono g14)) u8 (by omega) fun x9 G15 b15 u9 => ⟨_, rfl, 2, rfl, np ?_⟩
  have g15 := g14.trans b15
  refine sl_tp hB (f6.trans g15) (tt.mono (mix_mono g15)) fun x10 G16 b16 u10 => ?_
  have g16 := g15.trans b16
  refine cat_pp hB (f6.trans g16) (u9.mono (mix_mono b16)) u10 (by omega) fun y6 G17 b17 s6 => ⟨(by show 2 ≤ sizeLine; decide), fun l8 hl8 => ?_⟩
  have b18 := Evl.Ex.new hl8 (o := .lst [y5, y6])
  have b12' := ((((b12.trans b13).trans b14).trans b15).trans b16).trans b17
  have hl2 : upd G17 l8 (.lst [y5, y6]) l7 = some (.lst [y1, y2, y3, y4]) := b18 _ _ (b12' _ _ hl)
  refine ⟨l7, l8, _, _, rfl, rfl, hl2, upd_same, (by show 4 + 2 ≤ sizeLine; decide), fun l9 hl9 => ?_⟩
  have b19 := Evl.Ex.new hl9 (o := .lst ([y1, y2, y3, y4] ++ [y5, y6]))
  have g19 := ((g10.trans b12').trans b18).trans b19
  refine ⟨c, l9, _, rfl, C.mono (f6.trans g19), upd_same, by simp, by simp, fun v9 H9 e9 hv9 => ?_⟩
  have e20 := (b18.trans b19).trans e9
  have e21 := b12'.trans e20
  have fin := mix_grow hB ((f6.trans g10).trans e21)
  have big : ∀ c', c' ≤ 3 * n + 1 → c' * (m + 2) + 3 ≤ (3 * n + 1) * (m + 2) + 3 := fun c' hc' => Nat.add_le_add_right (Nat.mul_le_mul_right _ hc') _
  have tvd : ∀ {c' : Nat} {y : V}, TV m k c' (mix B H H9) y → c' ≤ 3 * n + 1 → Q y H9 := fun t hc' => by
    obtain ⟨d, q1, q2, q3⟩ := t.val
    exact kk _ _ _ _ fin q1 (q2.mono (big _ hc') (Nat.le_refl _)) fun z => q3 (by omega)
  have tpd : ∀ {c' : Nat} {y : V}, TP m k c' (mix B H H9) y → c' ≤ 3 * n + 1 → Q y H9 := fun t hc' => by
    obtain ⟨d, q1, q2, q3, _⟩ := t.val
    exact kk _ _ _ _ fin q1 (q2.mono (big _ hc') (Nat.le_refl _)) fun z => q3 (by omega)
  simp only [List.cons_append, List.nil_append, List.mem_cons, List.not_mem_nil, or_false] at hv9
  rcases hv9 with rfl | rfl | rfl | rfl | rfl | rfl
  · exact tvd (s1.mono (mix_mono e21)) (by omega)
  · exact tvd (s2.mono (mix_mono e21)) (by omega)
  · exact tpd (s3.mono (mix_mono e21)) (by omega)
  · exact tpd (s4.mono (mix_mono e21)) (by omega)
  · obtain ⟨q2, q3⟩ := lst_val (c := 3 * n + 1) hes (by omega)
    exact kk _ _ _ _ fin (hy5.mono (mix_mono (((((b13.trans b14).trans b15).trans b16).trans b17).trans e20))) q2 fun _ => q3
  · exact tpd (s6.mono (mix_mono e20)) (by omega)
end
end Lr

namespace Lr
open PySem L2
def valB (d : PyData) : Bool := d.showable && decide (d.shown.length ≤ 100000) && decide (d.depth ≤ 6) && (!d.hasDict || !hasList d) && (match d with | .tuple es => es.all (fun e => match e with | .tuple fs => decide (fs.length < 64) | _ => true) | _ => true)
theorem val_of {d : PyData} (h : valB d = true) : Val 100000 6 d := by
  unfold valB at h
  simp only [Bool.and_eq_true, decide_eq_true_eq] at h
  obtain ⟨⟨⟨⟨a, b⟩, c⟩, e⟩, f⟩ := h
  refine ⟨⟨a, b, c⟩, fun z => ?_, ?_⟩
  · rw [z] at e
    simpa using e
  · rintro es rfl x hx fs rfl
    have f2 : es.all (fun e => match e with | .tuple fs => decide (fs.length < 64) | _ => true) = true := f
    have := List.all_eq_true.mp f2 _ hx
    exact of_decide_eq_true this
theorem odd_val : ∀ d ∈ oddD, Val 100000 6 d := fun d hd => val_of ((show ∀ d ∈ oddD, valB d = true by decide +kernel) d hd)
/-- a preference, as an item and as a tuple of its own -/
theorem pref_tp {n : Nat} {B : Hp} {v : V} {p : List Int} (h : Dv B v (prefD p)) (hp : p.Perm (upto n)) (hn : n ≤ 6) : TP 60 2 6 B v := by
  refine ⟨p.map .int, h, fun e he => ?_, ?_⟩
  · obtain ⟨x, hx, rfl⟩ := List.mem_map.mp he
    have := mem_upto.mp (hp.mem_iff.mp hx)
    exact (int_pi (by omega)).mono (by decide) (by decide)
  · rw [List.length_map, hp.length_eq, upto_len]
    exact hn
theorem TP.pi {m k c : Nat} {B : Hp} {v : V} (h : TP m k c B v) (hc : c < 64) {d : PyData} (hd : Dv B v d) (hu : ∀ e, Dv B v e → e = d) : PI (c * (m + 2) + 3) (k + 1) d := by
  obtain ⟨e, a, b, z, p⟩ := h.val
  rw [hu e a] at b z p
  exact ⟨b.s, p, z hc⟩
theorem pref_pi {n : Nat} {p : List Int} (hp : p.Perm (upto n)) (hn : n ≤ 6) : PI 2000 4 (prefD p) := by
  have all : ∀ e ∈ p.map PyData.int, PI 20 0 e := fun e he => by
    obtain ⟨x, hx, rfl⟩ := List.mem_map.mp he
    have := mem_upto.mp (hp.mem_iff.mp hx)
    exact int_pi (by omega)
  have len : (p.map PyData.int).length ≤ 6 := by
    rw [List.length_map, hp.length_eq, upto_len]
    exact hn
  refine ⟨(sh_tup (fun e he => (all e he).s) len).mono (by decide) (by decide), pu_tup fun e he => (all e he).p, fun ds q => ?_⟩
  injection q with q
  subst q
  omega
theorem rule_tp {n : Nat} {B : Hp} {v : V} {ps : List (List Int)} (h : Dv B v (ruleD ps)) (hR : RuleOk n ps) (hn : n ≤ 6) : TP 2000 4 7 B v := by
  refine ⟨ps.map prefD, h, fun e he => ?_, ?_⟩
  · obtain ⟨p, hp, rfl⟩ := List.mem_map.mp he
    exact pref_pi (hR.2.2 p hp) hn
  · rw [List.length_map, hR.2.1]
    omega
/-- where the law's values stand -/
structure Now (H G : Hp) (rl fr rs : V) (ys : List V) : Prop where
  ex : Ex H G
  rl : TP 2000 4 7 (mix H H G) rl
  fr : TP 2000 4 7 (mix H H G) fr
  rs : TP 2000 4 7 (mix H H G) rs
  all : ∀ y ∈ ys, IsVal 100000 6 (mix H H G) y
theorem Now.on {H G G' : Hp} {rl fr rs : V} {ys : List V} (h : Now H G rl fr rs ys) (e : Ex G G') : Now H G' rl fr rs ys :=
  ⟨h.ex.trans e, h.rl.mono (mix_mono e), h.fr.mono (mix_mono e), h.rs.mono (mix_mono e), fun y hy => (h.all y hy).mono (mix_mono e)⟩
theorem Now.add {H G G' : Hp} {rl fr rs y : V} {ys : List V} (h : Now H G rl fr rs ys) (e : Ex G G') (v : IsVal 100000 6 (mix H H G') y) : Now H G' rl fr rs (ys ++ [y]) := by
  refine ⟨(h.on e).ex, (h.on e).rl, (h.on e).fr, (h.on e).rs, fun x hx => ?_⟩
  rcases List.mem_append.mp hx with q | q
  · exact (h.on e).all x q
  · rcases List.mem_singleton.mp q with rfl
    exact v
theorem TP.is {m k c : Nat} {B : Hp} {v : V} (h : TP m k c B v) (hc : c * (m + 2) + 3 ≤ 100000) (hk : k ≤ 5) : IsVal 100000 6 B v := by
  obtain ⟨d, a, b, _⟩ := h.val
  exact ⟨d, a, b.mono hc (by omega)⟩
theorem TV.is {m k c : Nat} {B : Hp} {v : V} (h : TV m k c B v) (hc : c * (m + 2) + 3 ≤ 100000) (hk : k ≤ 5) : IsVal 100000 6 B v := by
  obtain ⟨d, a, b, _⟩ := h.val
  exact ⟨d, a, b.mono hc (by omega)⟩
theorem rep_all {B : Hp} {v : V} {e : PyData} (h : Dv B v e) : ∀ n : Nat, DvAll B (List.replicate n [v]).flatten (List.replicate n e)
  | 0 => .nil
  | n + 1 => by
    rw [List.replicate_succ, List.replicate_succ, List.flatten_cons]
    exact .cons h (rep_all h n)
theorem rep_tp {B0 H0 G : Hp} {v : V} {e : PyData} {m k n : Nat} {p : Addr} (e0 : Ex H0 G) (h : Dv (mix B0 H0 G) v e) (hp : PI m k e) (hf : G p = none) : TP m k n (mix B0 H0 (upd G p (.tup (List.replicate n [v]).flatten))) (.ref p) :=
  ⟨List.replicate n e, dm_tup e0 hf (rep_all h n), fun x hx => by rw [List.eq_of_mem_replicate hx]; exact hp, by simp⟩
theorem TP.item {m k c : Nat} {B : Hp} {v : V} (h : TP m k c B v) (hc : c < 64) (hm : c * (m + 2) + 3 ≤ 2000) (hk : k ≤ 3) : ∃ d, Dv B v d ∧ PI 2000 4 d := by
  obtain ⟨d, a, b, z, p⟩ := h.val
  exact ⟨d, a, ⟨b.s.mono hm (by omega), p, z hc⟩⟩
abbrev sRules : Stmt := topS 25
abbrev nRules : List Str := ["_law_can", "_law_rule_here", "_law_at", "_law_front", "_law_rest", "_law_near", "_law_plain", "_law_values", "_law_k"]
theorem scRules : FnScope nRules ["_law_can", "_law_rule_here"] (defScope sRules) :=
  ⟨rfl, rfl, rfl, by decide +kernel, rfl, by decide +kernel, by decide +kernel⟩
section
variable {P : Program} {w : World} {K : PySem.W.Frag} {mg : Str → Option Value} {base : Heap}
def spRules (P : Program) (w : World) : Sp := fun vs H Q _ => ∃ (c : Addr) (v : V) (n : Nat) (ps : List (List Int)), vs = [.ref c, v] ∧ Can P w H c ∧ Dv H v (ruleD ps) ∧ RuleOk n ps ∧ n ≤ 6 ∧
  ∀ (p : Addr) (ys : List V) H', Ex H H' → H' p = some (.lst ys) → (∀ y ∈ ys, IsVal 100000 6 H' y) → ys.length ≤ 200 → Q (.ref p) H'
theorem ok_rules {f : Addr} {fd : FuncData} (F : Fun K "_law_rules" "_law_rules" sRules f fd) (T : Blt mg) (c_law_roll : Cal P w K mg base 1 "_law_roll" ["_law_can", "_law_many"] (spRoll P w))
    (c_law_odd : Cal P w K mg base 3 "_law_odd" ["_law_can"] (spOdd P w)) (c_law_bent : Cal P w K mg base 4 "_law_bent" ["_law_can", "_law_value"] (spBent P w)) : FnOk P w K mg base CX0 5 f fd ["_law_can", "_law_rule_here"] (spRules P w) := by
  refine F.ok scRules (fun vs H Q E h => ?_) (fun cdv A outer s H vs Q E hr h => ?_)
  · obtain ⟨c, v, n, ps, rfl, _⟩ := h
    rfl
  obtain ⟨c, v, n, ps, rfl, C, hv, hR, hn, kk⟩ := h
  obtain ⟨a, xs, rfl, ha, lx, hx⟩ := rule_inv hv
  have lps := hR.2.1
  have hB : Ex H H := Evl.Ex.refl H
  refine ⟨_, (pss_cons (ps_set (i := 2) scRules.nd rfl (Or.inr rfl) (pe_cal c_law_roll (hr.mono (by decide)) rfl (pa_cons (pv 0) (pa_cons (pe_callB (k_len (K := K) rfl) rfl T.len bt_len (pa_cons (pv 1) pa_nil)) pa_nil))))
    (pss_cons (ps_asg (pe_tup (pa_cons (pe_slice (ks_tup (K := K) rfl) (pv 1) po_none (po_some (pv 2))) (pa_cons (pe_slice (ks_tup (K := K) rfl) (pv 1) (po_some (pe_op op_add (pv 2) pe_int)) po_none) pa_nil))) (pg_tup rfl (pgs_cons (pg_name (i := 3) scRules.nd rfl (Or.inr rfl)) (pgs_cons (pg_name (i := 4) scRules.nd rfl (Or.inr rfl)) pgs_nil))))
    (pss_cons (ps_setLc (i := 5) (own := [("_law_k", 8)]) (g := gName 8) (by rfl) scRules.nd rfl rfl (sw_true rfl rfl rfl (by decide +kernel)) (pi_range1 rfl T.range (pa_cons pe_int pa_nil)) (blkOk_by (own := [("_law_k", 8)]) (N := nRules) (sc := defScope sRules) (by decide +kernel)) (fun _ _ _ _ _ => (pg_name (i := 8) scRules.nd rfl (Or.inl rfl))) (fun _ _ _ _ _ => pts_nil) (fun _ _ _ _ _ => (pe_op (ko_catT (K := K) rfl) (pe_op (ko_catT (K := K) rfl) (pv 3) (pe_tup (pa_cons (pe_cal c_law_bent (hr.mono (by decide)) rfl (pa_cons (pv 0) (pa_cons (pe_ix (kx_tup (K := K) rfl) (pv 1) (pv 2) (fun _ _ => rfl)) pa_nil))) pa_nil))) (pv 4))))
    (pss_cons (ps_set (i := 6) scRules.nd rfl (Or.inl rfl) (pe_tupRg rfl rfl T.tuple (prg_1 rfl T.range pe_int)))
    (pss_cons (ps_set (i := 7) scRules.nd rfl (Or.inl rfl) (pe_lst (pa_cons (pv 1) (pa_cons (pe_callTy (k_list_of (K := K) rfl) rfl T.list bt_list (pa_cons (pv 1) pa_nil)) (pa_cons (pe_revT (pv 1)) (pa_cons (pe_op (ko_catT (K := K) rfl) (pv 1) (pv 1)) (pa_cons (pe_slice (ks_tup (K := K) rfl) (pv 1) po_none (po_some (pe_un un_neg pe_int))) (pa_cons (pe_op (ko_catT (K := K) rfl) (pv 1) (pe_slice (ks_tup (K := K) rfl) (pv 1) (po_some (pe_un un_neg pe_int)) po_none)) (pa_cons (pe_tup pa_nil) (pa_cons (pe_tup (pa_cons (pe_tup pa_nil) pa_nil)) (pa_cons (pe_tup (pa_cons (pe_tup pa_nil) (pa_cons (pe_tup pa_nil) pa_nil))) (pa_cons (pe_tup (pa_cons (pe_tup (pa_cons pe_int pa_nil)) pa_nil)) pa_nil))))))))))))
    (pss_cons (ps_set (i := 7) scRules.nd rfl (Or.inl rfl) (pe_op op_cat (pv 7) (pe_lst (pa_cons (pe_tup (pa_cons (pe_tup (pa_cons pe_int pa_nil)) (pa_cons (pe_tup (pa_cons pe_int pa_nil)) pa_nil))) (pa_cons (pe_tup (pa_cons (pe_tup (pa_cons pe_int pa_nil)) (pa_cons (pe_tup (pa_cons pe_bl pa_nil)) pa_nil))) (pa_cons (pe_op (ko_repT (K := K) rfl) (pe_tup (pa_cons (pv 6) pa_nil)) pe_int) (pa_cons (pe_op (ko_repT (K := K) rfl) (pe_tup (pa_cons (pe_slice (ks_tup (K := K) rfl) (pv 6) po_none (po_some pe_int)) pa_nil)) pe_int) (pa_cons (pe_op (ko_catT (K := K) rfl) (pe_op (ko_catT (K := K) rfl) (pv 3) (pe_tup (pa_cons (pe_callTy (k_list_of (K := K) rfl) rfl T.list bt_list (pa_cons (pe_ix (kx_tup (K := K) rfl) (pv 1) (pv 2) (fun _ _ => rfl)) pa_nil)) pa_nil))) (pv 4)) pa_nil))))))))
    (pss_cons (ps_set (i := 7) scRules.nd rfl (Or.inl rfl) (pe_op op_cat (pe_op op_cat (pe_op op_cat (pv 7) (pv 5)) (pe_lc (own := [("_law_k", 8)]) (g := gName 8)  (by rfl) scRules.nd (pi_range1 rfl T.range (pa_cons pe_int pa_nil)) (blkOk_by (own := [("_law_k", 8)]) (N := nRules) (sc := defScope sRules) (by decide +kernel)) (fun _ _ _ _ _ => (pg_name (i := 8) scRules.nd rfl (Or.inl rfl))) (fun _ _ _ _ _ => pts_nil) (fun _ _ _ _ _ => (pe_cal c_law_bent (hr.mono (by decide)) rfl (pa_cons (pv 0) (pa_cons (pv 1) pa_nil)))))) (pe_lst (pa_cons (pe_op (ko_catT (K := K) rfl) (pe_op (ko_catT (K := K) rfl) (pv 3) (pe_tup (pa_cons (pe_cal c_law_odd (hr.mono (by decide)) rfl (pa_cons (pv 0) pa_nil)) pa_nil))) (pv 4)) pa_nil))))
    (pss_one (ps_ret (pe_op op_cat (pv 7) (pe_lst (pa_cons (pe_op (ko_catT (K := K) rfl) (pe_op (ko_catT (K := K) rfl) (pe_op (ko_catT (K := K) rfl) (pv 3) (pe_tup (pa_cons pe_non pa_nil))) (pe_slice (ks_tup (K := K) rfl) (pv 4) po_none (po_some (pe_un un_neg pe_int)))) (pe_tup (pa_cons (pe_tup (pa_cons pe_int (pa_cons pe_int pa_nil))) pa_nil))) (pa_cons (pe_cal c_law_odd (hr.mono (by decide)) rfl (pa_cons (pv 0) pa_nil)) (pa_cons (pe_tup (pa_cons (pv 1) pa_nil)) (pa_cons (pe_tup (pa_cons (pe_tup (pa_cons (pe_un un_neg pe_int) pa_nil)) (pa_cons (pe_tup (pa_cons pe_int pa_nil)) pa_nil))) pa_nil))))))))))))))), ?_⟩
  have z0 : 0 ≤ sizeLine := by decide
  have z1 : 1 ≤ sizeLine := by decide
  have z2 : 2 ≤ sizeLine := by decide
  -- at
  refine ⟨_, rfl, _, rfl, a, xs, rfl, .inr (SqT.of ha), c, _, rfl, C, by omega, by omega, fun at1 H1 e1 r0 r1 => ?_⟩
  have t1 : TP 2000 4 7 (mix H H H1) (.ref a) := (rule_tp hv hR hn).mono (mix_base hB e1)
  -- front, rest
  refine ⟨_, rfl, _, rfl, at1, rfl, sl_tp hB e1 t1 fun fr H2 e2 tf => ?_⟩
  refine ⟨_, rfl, _, rfl, _, _, rfl, rfl, _, rfl, np (sl_tp hB (e1.trans e2) (t1.mono (mix_mono e2)) fun rs H3 e3 tr => ⟨z2, fun p3 hp3 => ⟨p3, _, rfl, SqT.of upd_same, rfl, _, _, rfl, _, _, rfl, rfl, ?_⟩⟩)⟩
  have N : Now H (upd H3 p3 (.tup [fr, rs])) (.ref a) fr rs [] := by
    have e4 := Evl.Ex.new hp3 (o := .tup [fr, rs])
    exact ⟨((e1.trans e2).trans e3).trans e4, t1.mono (mix_mono ((e2.trans e3).trans e4)), tf.mono (mix_mono (e3.trans e4)), tr.mono (mix_mono e4), fun _ z => (nomatch z)⟩
  generalize upd H3 p3 (.tup [fr, rs]) = G at N ⊢
  clear t1 tf tr e1 e2 e3 hp3 p3 H1 H2 H3
  obtain ⟨xa, hxa, hat, hxi⟩ := at_in (xs := xs) r0 (by omega)
  have pa : ∀ {B : Hp}, Ex H B → TP 60 2 6 B xa := fun e => by
    obtain ⟨d, hd, hdv⟩ := hx.get hxi
    rw [List.getElem?_map] at hd
    cases hps : ps[at1.toNat]? with
    | none => rw [hps] at hd; cases hd
    | some p =>
      rw [hps] at hd
      cases hd
      exact pref_tp (hdv.mono e) (hR.2.2 p (List.mem_of_getElem? hps)) hn
  -- near
  refine ⟨8, rfl, by decide, by decide, fun D hD => ?_⟩
  refine made_rangeB (n := 8) (B := mix H H G) (Val 100000 6) hD (mix_at hB N.ex) (by decide) (fun _ => rfl) (fun i hi B1 G1 b1 b2 b3 Q1 q1 => ?_) (fun near dn B1 G1 ln g1 hD1 hdn vn => ?_)
  · have rf : Ex G1 G1 := Evl.Ex.refl _
    have hHG : Ex H G1 := N.ex.trans b3
    refine ⟨_, rfl, _, rfl, _, rfl, _, rfl, a, xs, at1, xa, rfl, rfl, SqT.of (hHG _ _ ha), hat, c, xa, mix B1 G1 G1, 60, 2, 6, rfl, C.mono hHG, mix_at b2 rf, pa ((mix_base hB N.ex).trans (b1.trans (mix_base b2 rf))), by decide, by decide, by decide, fun v1 d1 B2 G2 g2 hv1 va sz1 => ⟨z1, fun p1 hp1 => ?_⟩⟩
    have f2 := g2.hh
    have hv2 := hv1.mono (mix_call rf g2)
    have vi : VI 2000 4 d1 := ⟨va.s.mono (by decide) (by decide), va.n, sz1 (by decide)⟩
    have a1 := Evl.Ex.new hp1 (o := .tup [v1])
    refine cat_pv b2 (f2.trans a1) (N.fr.mono (b1.trans (mix_base b2 (f2.trans a1)))) (tup1_v f2 hv2 vi hp1) (by decide) fun x1 G3 a2 u1 => ⟨_, rfl, ?_⟩
    have f3 := (f2.trans a1).trans a2
    refine cat_vp b2 f3 u1 (N.rs.mono (b1.trans (mix_base b2 f3))) (by decide) fun y G4 a3 u2 => ?_
    obtain ⟨d, q1', q2', _⟩ := u2.val
    exact q1 y d _ G4 (mix_grow b2 (f3.trans a3)) q1' (q2'.mono (by decide) (by decide))
  have near_ok : ∀ y ∈ near, IsVal 100000 6 (mix H H G1) y := fun y hy => by
    obtain ⟨i, hi⟩ := List.mem_iff_getElem?.mp hy
    obtain ⟨d, h1, h2⟩ := hdn.get hi
    exact ⟨d, h2.mono (mix_call N.ex g1), vn d (List.mem_of_getElem? h1)⟩
  have N := N.on g1.hh
  clear vn hdn g1 hD
  -- plain
  refine ⟨7, rfl, RgOk.of_le (by decide) (by decide) (by decide) (by decide), fun pl hpl => ?_⟩
  have b3 := Evl.Ex.new hpl (o := .tup (rgV 0 7))
  have tpl : TP 60 2 7 (mix H H (upd G1 pl (.tup (rgV 0 7)))) (.ref pl) := by
    refine ⟨(upto 7).map .int, dm_tup N.ex hpl (by rw [rgV_upto]; exact dv_ints _ _), fun e he => ?_, by decide⟩
    obtain ⟨x, hx2, rfl⟩ := List.mem_map.mp he
    have := mem_upto.mp hx2
    exact (int_pi (by omega)).mono (by decide) (by decide)
  have N := N.on b3
  have near_ok : ∀ y ∈ near, IsVal 100000 6 (mix H H (upd G1 pl (.tup (rgV 0 7)))) y := fun y hy => (near_ok y hy).mono (mix_mono b3)
  have hDn := b3 _ _ hD1
  generalize upd G1 pl (.tup (rgV 0 7)) = G2 at tpl N near_ok hDn ⊢
  clear b3 hpl hD1
  -- the first values
  have N1 : Now H G2 (.ref a) fr rs [.ref a] := N.add (Evl.Ex.refl _) (N.rl.is (by decide) (by decide))
  refine ⟨_, rfl, _, rfl, tn (lst_tp hB N1.ex N1.rl fun y2 J2 es k2 hy2 hes hel => ⟨_, rfl, ?_⟩)⟩
  have N2 := N1.add k2 ⟨_, hy2, (lst_val hes hel).1.mono (by decide) (by decide)⟩
  obtain ⟨a3, xs3, q3, ha3, rv⟩ := rev_tp hB N2.ex N2.rl
  refine ⟨a3, xs3, q3, ha3, fun f1 m1 p3 hm1 hp3 => ?_⟩
  have k3 := Evl.Ex.new hp3 (o := .tup ((List.range m1).filterMap fun j => xs3[f1 j]?))
  have N3 := N2.add k3 ((rv f1 m1 p3 hm1 hp3).is (by decide) (by decide))
  generalize upd J2 p3 (.tup ((List.range m1).filterMap fun j => xs3[f1 j]?)) = J3 at N3 k3 ⊢
  clear rv
  refine ⟨_, rfl, _, rfl, cat_pp hB N3.ex N3.rl N3.rl (by decide) fun y4 J4 k4 hy4 => ?_⟩
  have N4 := N3.add k4 (hy4.is (by decide) (by decide))
  refine ⟨_, rfl, _, rfl, _, rfl, sl_tp hB N4.ex N4.rl fun y5 J5 k5 hy5 => ?_⟩
  have N5 := N4.add k5 (hy5.is (by decide) (by decide))
  refine ⟨_, rfl, _, rfl, _, rfl, _, rfl, np (sl_tp hB N5.ex N5.rl fun y6 J6 k6 hy6 => ?_)⟩
  have N5b := N5.on k6
  refine cat_pp hB N5b.ex N5b.rl hy6 (by decide) fun y6 J7 k7 hy6 => ⟨z0, fun p7 hp7 => ?_⟩
  have N6 := N5b.add k7 (hy6.is (by decide) (by decide))
  have k8 := Evl.Ex.new hp7 (o := .tup [])
  have N7 := N6.add k8 ⟨_, dm_tup N6.ex hp7 .nil, val_of (by decide +kernel)⟩
  generalize upd J7 p7 (.tup []) = J8 at N7 k8 ⊢
  refine ⟨z0, fun p8 hp8 => ⟨z1, fun p9 hp9 => ?_⟩⟩
  have k9 := Evl.Ex.new hp8 (o := .tup [])
  have k10 := Evl.Ex.new hp9 (o := .tup [.ref p8])
  have N8 := N7.add (k9.trans k10) ⟨_, dm_tup (N7.ex.trans k9) hp9 (.cons (dm_tup N7.ex hp8 .nil) .nil), val_of (by decide +kernel)⟩
  have k11 := k9.trans k10
  generalize upd (upd J8 p8 (.tup [])) p9 (.tup [.ref p8]) = J9 at N8 k11 ⊢
  refine ⟨z0, fun p10 hp10 => ⟨z0, fun p11 hp11 => ⟨z2, fun p12 hp12 => ?_⟩⟩⟩
  have k12 := Evl.Ex.new hp10 (o := .tup [])
  have k13 := Evl.Ex.new hp11 (o := .tup [])
  have k14 := Evl.Ex.new hp12 (o := .tup [.ref p10, .ref p11])
  have N9 := N8.add ((k12.trans k13).trans k14) ⟨_, dm_tup ((N8.ex.trans k12).trans k13) hp12 (.cons ((dm_tup N8.ex hp10 .nil).mono (mix_mono k13)) (.cons (dm_tup (N8.ex.trans k12) hp11 .nil) .nil)), val_of (by decide +kernel)⟩
  have k15 := (k12.trans k13).trans k14
  generalize upd (upd (upd J9 p10 (.tup [])) p11 (.tup [])) p12 (.tup [.ref p10, .ref p11]) = J10 at N9 k15 ⊢
  refine ⟨z1, fun p13 hp13 => ⟨z1, fun p14 hp14 => ⟨(by show 10 ≤ sizeLine; decide), fun l1 hl1 => ?_⟩⟩⟩
  have k16 := Evl.Ex.new hp13 (o := .tup [.int 0])
  have k17 := Evl.Ex.new hp14 (o := .tup [.ref p13])
  have N10 := N9.add (k16.trans k17) ⟨_, dm_tup (N9.ex.trans k16) hp14 (.cons (dm_tup N9.ex hp13 (.cons (.int 0) .nil)) .nil), val_of (by decide +kernel)⟩
  have k18 := k16.trans k17
  generalize upd (upd J10 p13 (.tup [.int 0])) p14 (.tup [.ref p13]) = J11 at N10 k18 hl1 ⊢
  have N11 := N10.on (Evl.Ex.new hl1 (o := .lst [.ref a, y2, .ref p3, y4, y5, y6, .ref p7, .ref p9, .ref p12, .ref p14]))
  have k20 : Ex G2 (upd J11 l1 (.lst [.ref a, y2, .ref p3, y4, y5, y6, .ref p7, .ref p9, .ref p12, .ref p14])) := k2.trans (k3.trans (k4.trans (k5.trans (k6.trans (k7.trans (k8.trans (k11.trans (k15.trans (k18.trans (Evl.Ex.new hl1))))))))))
  have hl1v : upd J11 l1 (.lst [.ref a, y2, .ref p3, y4, y5, y6, .ref p7, .ref p9, .ref p12, .ref p14]) l1 = some (.lst [.ref a, y2, .ref p3, y4, y5, y6, .ref p7, .ref p9, .ref p12, .ref p14]) := upd_same
  have N12 : Now H (upd J11 l1 (.lst [.ref a, y2, .ref p3, y4, y5, y6, .ref p7, .ref p9, .ref p12, .ref p14])) (.ref a) fr rs [.ref a, y2, .ref p3, y4, y5, y6, .ref p7, .ref p9, .ref p12, .ref p14] := N11
  generalize upd J11 l1 (.lst [.ref a, y2, .ref p3, y4, y5, y6, .ref p7, .ref p9, .ref p12, .ref p14]) = G3 at k20 hl1v N12 ⊢
  have tpl := tpl.mono (mix_mono k20)
  have near_ok : ∀ y ∈ near, IsVal 100000 6 (mix H H G3) y := fun y hy => (near_ok y hy).mono (mix_mono k20)
  have hDn := k20 _ _ hDn
  clear N N1 N2 N3 N4 N5 N5b N6 N7 N8 N9 N10 N11 k2 k3 k4 k5 k6 k7 k8 k9 k10 k11 k12 k13 k14 k15 k16 k17 k18 k20 hes hel hy2 hy4 hy5 hy6
  generalize hL1 : [V.ref a, y2, .ref p3, y4, y5, y6, .ref p7, .ref p9, .ref p12, .ref p14] = L1 at hl1v N12
  have len1 : L1.length = 10 := by rw [← hL1]; rfl
  clear hL1
  -- more values
  refine ⟨_, rfl, z1, fun p1 hp1 => ⟨z1, fun p2 hp2 => ⟨z2, fun p3 hp3 => ?_⟩⟩⟩
  have k1 := Evl.Ex.new hp1 (o := .tup [.int 0])
  have k2 := Evl.Ex.new hp2 (o := .tup [.int 0])
  have k3 := Evl.Ex.new hp3 (o := .tup [.ref p1, .ref p2])
  have N1 := N12.add ((k1.trans k2).trans k3) ⟨_, dm_tup ((N12.ex.trans k1).trans k2) hp3 (.cons ((dm_tup N12.ex hp1 (.cons (.int 0) .nil)).mono (mix_mono k2)) (.cons (dm_tup (N12.ex.trans k1) hp2 (.cons (.int 0) .nil)) .nil)), val_of (by decide +kernel)⟩
  have k4 := (k1.trans k2).trans k3
  generalize upd (upd (upd G3 p1 (.tup [.int 0])) p2 (.tup [.int 0])) p3 (.tup [.ref p1, .ref p2]) = J1 at N1 k4 ⊢
  refine ⟨z1, fun p4 hp4 => ⟨z1, fun p5 hp5 => ⟨z2, fun p6 hp6 => ?_⟩⟩⟩
  have k5 := Evl.Ex.new hp4 (o := .tup [.int 0])
  have k6 := Evl.Ex.new hp5 (o := .tup [.bl false])
  have k7 := Evl.Ex.new hp6 (o := .tup [.ref p4, .ref p5])
  have N2 := N1.add ((k5.trans k6).trans k7) ⟨_, dm_tup ((N1.ex.trans k5).trans k6) hp6 (.cons ((dm_tup N1.ex hp4 (.cons (.int 0) .nil)).mono (mix_mono k6)) (.cons (dm_tup (N1.ex.trans k5) hp5 (.cons (.bl false) .nil)) .nil)), val_of (by decide +kernel)⟩
  have k8 := (k5.trans k6).trans k7
  generalize upd (upd (upd J1 p4 (.tup [.int 0])) p5 (.tup [.bl false])) p6 (.tup [.ref p4, .ref p5]) = J2 at N2 k8 ⊢
  have j2 := k4.trans k8
  clear k1 k2 k3 k4 k5 k6 k7 k8
  -- (plain,) * 8
  refine ⟨_, rfl, z1, fun p7 hp7 => ⟨p7, 8, _, rfl, rfl, SqT.of upd_same, by simp, by decide, by decide, by simp, fun p8 hp8 => ?_⟩⟩
  obtain ⟨dp, hdp, pip⟩ := (tpl.mono (mix_mono j2)).item (by decide) (by decide) (by decide)
  have k9 := Evl.Ex.new hp7 (o := .tup [.ref pl])
  have N3 := (N2.on k9).add (Evl.Ex.new hp8) ((rep_tp (n := 8) (N2.on k9).ex (hdp.mono (mix_mono k9)) pip hp8).is (by decide) (by decide))
  have j3 := j2.trans (k9.trans (Evl.Ex.new hp8 (o := .tup (List.replicate 8 [V.ref pl]).flatten)))
  have N3 : Now H (upd (upd J2 p7 (.tup [.ref pl])) p8 (.tup (List.replicate (8 : Int).toNat [V.ref pl]).flatten)) (.ref a) fr rs _ := N3
  have j3 : Ex G3 (upd (upd J2 p7 (.tup [.ref pl])) p8 (.tup (List.replicate (8 : Int).toNat [V.ref pl]).flatten)) := j3
  generalize upd (upd J2 p7 (.tup [.ref pl])) p8 (.tup (List.replicate (8 : Int).toNat [V.ref pl]).flatten) = J3 at N3 j3 ⊢
  clear hdp
  -- (plain[:6],) * 7
  refine ⟨_, rfl, 6, rfl, sl_tp hB N3.ex (tpl.mono (mix_mono j3)) fun x4 J4 k10 hx4 => ⟨z1, fun p9 hp9 => ⟨p9, 7, _, rfl, rfl, SqT.of upd_same, by simp, by decide, by decide, by simp, fun p10 hp10 => ?_⟩⟩⟩
  obtain ⟨dp2, hdp2, pip2⟩ := hx4.item (by decide) (by decide) (by decide)
  have k11 := Evl.Ex.new hp9 (o := .tup [x4])
  have N3b := N3.on (k10.trans k11)
  have N4 : Now H (upd (upd J4 p9 (.tup [x4])) p10 (.tup (List.replicate (7 : Int).toNat [x4]).flatten)) (.ref a) fr rs _ := N3b.add (Evl.Ex.new hp10) ((rep_tp (n := 7) N3b.ex (hdp2.mono (mix_mono k11)) pip2 hp10).is (by decide) (by decide))
  have j4 : Ex G3 (upd (upd J4 p9 (.tup [x4])) p10 (.tup (List.replicate (7 : Int).toNat [x4]).flatten)) := j3.trans ((k10.trans k11).trans (Evl.Ex.new hp10))
  generalize upd (upd J4 p9 (.tup [x4])) p10 (.tup (List.replicate (7 : Int).toNat [x4]).flatten) = J5 at N4 j4 ⊢
  clear hdp2 hx4 N3b k10 k11
  -- front + (list(rule[at]),) + rest
  refine ⟨_, rfl, _, rfl, _, rfl, a, xs, at1, xa, rfl, rfl, SqT.of (N4.ex _ _ ha), hat, tn (lst_tp hB N4.ex (pa (mix_base hB N4.ex)) fun y5 J6 es k12 hy5 hes hel => ⟨z1, fun p11 hp11 => ?_⟩)⟩
  have N4b := N4.on k12
  obtain ⟨lv, lz⟩ := lst_val hes hel
  have vi5 : VI 2000 4 (.list es) := ⟨lv.s.mono (by decide) (by decide), lv.n, lz⟩
  have k13 := Evl.Ex.new hp11 (o := .tup [y5])
  refine cat_pv hB (N4b.ex.trans k13) (N4b.on k13).fr (tup1_v N4b.ex hy5 vi5 hp11) (by decide) fun x5 J7 k14 hx5 => ⟨_, rfl, ?_⟩
  have N4c := N4b.on (k13.trans k14)
  refine cat_vp hB N4c.ex hx5 N4c.rs (by decide) fun y6 J8 k15 hy6 => ⟨(by show 5 ≤ sizeLine; decide), fun l2 hl2 => ?_⟩
  have N5 := N4c.add k15 (hy6.is (by decide) (by decide))
  have j5 := j4.trans (k12.trans ((k13.trans k14).trans k15))
  have N6 : Now H (upd J8 l2 (.lst [.ref p3, .ref p6, .ref p8, .ref p10, y6])) (.ref a) fr rs (L1 ++ [.ref p3, .ref p6, .ref p8, .ref p10, y6]) := by
    have q := N5.on (Evl.Ex.new hl2 (o := .lst [.ref p3, .ref p6, .ref p8, .ref p10, y6]))
    simp only [List.append_assoc, List.cons_append, List.nil_append] at q
    exact q
  have j6 := j5.trans (Evl.Ex.new hl2 (o := .lst [.ref p3, .ref p6, .ref p8, .ref p10, y6]))
  have hl2v : upd J8 l2 (.lst [.ref p3, .ref p6, .ref p8, .ref p10, y6]) l2 = some (.lst [.ref p3, .ref p6, .ref p8, .ref p10, y6]) := upd_same
  generalize upd J8 l2 (.lst [.ref p3, .ref p6, .ref p8, .ref p10, y6]) = J9 at N6 j6 hl2v ⊢
  clear N1 N2 N3 N4 N4b N4c N5 N12 hx5 hy6 hy5 hes hel lv lz vi5 k12 k13 k14 k15 j2 j3 j4 j5
  refine ⟨l1, l2, _, _, rfl, rfl, j6 _ _ hl1v, hl2v, by rw [len1]; exact (by decide : 10 + 5 ≤ sizeLine), fun l3 hl3 => ?_⟩
  have len2 : (L1 ++ [V.ref p3, .ref p6, .ref p8, .ref p10, y6]).length = 15 := by rw [List.length_append, len1]; rfl
  generalize L1 ++ [V.ref p3, .ref p6, .ref p8, .ref p10, y6] = L2 at len2 N6 ⊢
  have N7 := N6.on (Evl.Ex.new hl3 (o := .lst L2))
  have j7 := j6.trans (Evl.Ex.new hl3 (o := .lst L2))
  have hl3v : upd J9 l3 (.lst L2) l3 = some (.lst L2) := upd_same
  generalize upd J9 l3 (.lst L2) = G4 at N7 j7 hl3v ⊢
  clear N6 hl2v hl1v tpl
  have near_ok : ∀ y ∈ near, IsVal 100000 6 (mix H H G4) y := fun y hy => (near_ok y hy).mono (mix_mono j7)
  have hDn := j7 _ _ hDn
  clear j6 j7
  -- values + near
  have ln2 : near.length = 8 := ln
  refine ⟨_, rfl, _, rfl, l3, D, L2, near, rfl, rfl, hl3v, hDn, by rw [len2, ln2]; exact (by decide : 15 + 8 ≤ sizeLine), fun l4 hl4 => ?_⟩
  have N8 : Now H (upd G4 l4 (.lst (L2 ++ near))) (.ref a) fr rs (L2 ++ near) := by
    have q := N7.on (Evl.Ex.new hl4 (o := .lst (L2 ++ near)))
    refine ⟨q.ex, q.rl, q.fr, q.rs, fun y hy => ?_⟩
    rcases List.mem_append.mp hy with z | z
    · exact q.all y z
    · exact (near_ok y z).mono (mix_mono (Evl.Ex.new hl4))
  have hl4v : upd G4 l4 (.lst (L2 ++ near)) l4 = some (.lst (L2 ++ near)) := upd_same
  have len3 : (L2 ++ near).length = 23 := by rw [List.length_append, len2, ln2]
  generalize L2 ++ near = L3 at N8 hl4v len3 ⊢
  generalize upd G4 l4 (.lst L3) = G5 at N8 hl4v ⊢
  clear N7 near_ok hDn hl3v hl4 len2
  -- [bent(rule) ..]
  refine ⟨4, rfl, by decide, by decide, fun D2 hD2 => ?_⟩
  refine made_rangeB (n := 4) (B := mix H H G5) (Val 100000 6) hD2 (mix_at hB N8.ex) (by decide) (fun _ => rfl) (fun i hi B1 G1 b1 b2 b3 Q1 q1 => ?_) (fun bt dn B1 G6 lnb g1 hD3 hdn vn => ?_)
  · exact ⟨_, rfl, _, rfl, c, .ref a, B1, 2000, 4, 7, rfl, C.mono (N8.ex.trans b3), b2, N8.rl.mono b1, by decide, by decide, by decide, fun v1 d1 B2 G2 g2 hv1 va _ => q1 v1 d1 B2 G2 g2 hv1 (va.mono (by decide) (by decide))⟩
  have bt_ok : ∀ y ∈ bt, IsVal 100000 6 (mix H H G6) y := fun y hy => by
    obtain ⟨i, hi⟩ := List.mem_iff_getElem?.mp hy
    obtain ⟨d, h1, h2⟩ := hdn.get hi
    exact ⟨d, h2.mono (mix_call N8.ex g1), vn d (List.mem_of_getElem? h1)⟩
  have N9 := N8.on g1.hh
  have hl4v := g1.hh _ _ hl4v
  clear vn hdn g1 hD2 N8
  refine ⟨l4, D2, L3, bt, rfl, rfl, hl4v, hD3, by rw [len3, lnb]; exact (by decide : 23 + 4 ≤ sizeLine), fun l5 hl5 => ?_⟩
  have N10 : Now H (upd G6 l5 (.lst (L3 ++ bt))) (.ref a) fr rs (L3 ++ bt) := by
    have q := N9.on (Evl.Ex.new hl5 (o := .lst (L3 ++ bt)))
    refine ⟨q.ex, q.rl, q.fr, q.rs, fun y hy => ?_⟩
    rcases List.mem_append.mp hy with z | z
    · exact q.all y z
    · exact (bt_ok y z).mono (mix_mono (Evl.Ex.new hl5))
  have hl5v : upd G6 l5 (.lst (L3 ++ bt)) l5 = some (.lst (L3 ++ bt)) := upd_same
  have len4 : (L3 ++ bt).length = 27 := by rw [List.length_append, len3, lnb]
  generalize L3 ++ bt = L4 at N10 hl5v len4 ⊢
  generalize upd G6 l5 (.lst L4) = G7 at N10 hl5v ⊢
  clear N9 bt_ok hD3 hl4v hl5 len3
  -- [front + (odd,) + rest]
  refine ⟨_, rfl, _, rfl, c, mix H H G7, rfl, C.mono N10.ex, mix_at hB N10.ex, fun v1 d1 B1 J1 g1 hv1 hd1 => ⟨z1, fun p1 hp1 => ?_⟩⟩
  have hv2 := hv1.mono (mix_call N10.ex g1)
  have N11 := N10.on g1.hh
  have k1 := Evl.Ex.new hp1 (o := .tup [v1])
  refine cat_pv hB (N11.ex.trans k1) (N11.on k1).fr (tup1_v N11.ex hv2 ((odd_vi d1 hd1).mono (by decide) (by decide)) hp1) (by decide) fun x1 J2 k2 hx1 => ⟨_, rfl, ?_⟩
  have N12 := N11.on (k1.trans k2)
  refine cat_vp hB N12.ex hx1 N12.rs (by decide) fun y1 J3 k3 hy1 => ⟨z1, fun l6 hl6 => ?_⟩
  have N13 := (N12.add k3 (hy1.is (by decide) (by decide))).on (Evl.Ex.new hl6 (o := .lst [y1]))
  have j1 := (g1.hh.trans ((k1.trans k2).trans k3)).trans (Evl.Ex.new hl6 (o := .lst [y1]))
  have hl6v : upd J3 l6 (.lst [y1]) l6 = some (.lst [y1]) := upd_same
  generalize upd J3 l6 (.lst [y1]) = J4 at N13 j1 hl6v ⊢
  have hl5v := j1 _ _ hl5v
  clear N10 N11 N12 hx1 hy1 hv2 hv1 g1 k1 k2 k3 j1
  refine ⟨l5, l6, _, _, rfl, rfl, hl5v, hl6v, by rw [len4]; exact (by decide : 27 + 1 ≤ sizeLine), fun l7 hl7 => ?_⟩
  have len5 : (L4 ++ [y1]).length = 28 := by rw [List.length_append, len4]; rfl
  generalize L4 ++ [y1] = L5 at N13 len5 ⊢
  have N14 := N13.on (Evl.Ex.new hl7 (o := .lst L5))
  have hl7v : upd J4 l7 (.lst L5) l7 = some (.lst L5) := upd_same
  generalize upd J4 l7 (.lst L5) = G8 at N14 hl7v ⊢
  clear N13 hl7 hl5v hl6v len4
  -- the last four
  have pin : PI 2000 4 PyData.none := ⟨⟨by decide +kernel, by decide +kernel, by decide +kernel⟩, ⟨rfl, rfl⟩, fun _ q => (nomatch q)⟩
  have pi11 : PI 2000 4 (.tuple [.int 1, .int 1]) := ⟨⟨by decide +kernel, by decide +kernel, by decide +kernel⟩, ⟨by decide +kernel, by decide +kernel⟩, fun _ q => by injection q with q; subst q; decide⟩
  refine ⟨_, rfl, _, rfl, z1, fun p1 hp1 => ?_⟩
  have k1 := Evl.Ex.new hp1 (o := .tup [.non])
  refine cat_pp hB (N14.ex.trans k1) (N14.on k1).fr (tup1_p N14.ex .non pin hp1) (by decide) fun x1 J1 k2 hx1 => ⟨_, rfl, _, rfl, _, rfl, ?_⟩
  have N15 := N14.on (k1.trans k2)
  refine sl_tp hB N15.ex N15.rs fun x2 J2 k3 hx2 => ?_
  have N16 := N15.on k3
  refine cat_pp hB N16.ex (hx1.mono (mix_mono k3)) hx2 (by decide) fun x3 J3 k4 hx3 => ⟨z2, fun p2 hp2 => ⟨z1, fun p3 hp3 => ?_⟩⟩
  have N17 := N16.on k4
  have k5 := Evl.Ex.new hp2 (o := .tup [.int 1, .int 1])
  have k6 := Evl.Ex.new hp3 (o := .tup [.ref p2])
  refine cat_pp hB ((N17.on k5).on k6).ex (hx3.mono (mix_mono (k5.trans k6))) (tup1_p (N17.on k5).ex (dm_tup N17.ex hp2 (.cons (.int 1) (.cons (.int 1) .nil))) pi11 hp3) (by decide) fun y1 J4 k7 hy1 => ?_
  have N18 := ((N17.on k5).on k6).add k7 (hy1.is (by decide) (by decide))
  have j1 := (((k1.trans k2).trans k3).trans k4).trans ((k5.trans k6).trans k7)
  clear N15 N16 N17 hx1 hx2 hx3 hy1 k1 k2 k3 k4 k5 k6 k7
  refine ⟨_, rfl, c, mix H H J4, rfl, C.mono N18.ex, mix_at hB N18.ex, fun y2 d2 B2 J5 g2 hy2 hd2 => ⟨_, rfl, z1, fun p4 hp4 => ?_⟩⟩
  have N19 := N18.add g2.hh ⟨d2, hy2.mono (mix_call N18.ex g2), odd_val d2 hd2⟩
  have j2 := j1.trans g2.hh
  clear g2 hy2 j1 N18
  obtain ⟨dr, hdr, vr, zr, pr⟩ := N19.rl.val
  have k8 := Evl.Ex.new hp4 (o := .tup [.ref a])
  have pir : PI 100000 5 dr := ⟨vr.s.mono (by decide) (by decide), pr, zr (by decide)⟩
  obtain ⟨d4, h41, h42, _⟩ := (tup1_p (m := 14017) (k := 5) N19.ex hdr ⟨vr.s.mono (by decide) (by decide), pr, zr (by decide)⟩ hp4).val
  have N20 := N19.add k8 ⟨d4, h41, h42.mono (by decide) (by decide)⟩
  have j3 := j2.trans k8
  generalize upd J5 p4 (.tup [.ref a]) = J6 at N20 j3 ⊢
  clear N19 hdr vr zr pr pir h41 h42 k8 j2
  refine ⟨_, rfl, z1, fun p5 hp5 => ⟨z1, fun p6 hp6 => ⟨z2, fun p7 hp7 => ⟨(by show 4 ≤ sizeLine; decide), fun l8 hl8 => ?_⟩⟩⟩⟩
  have k9 := Evl.Ex.new hp5 (o := .tup [.int (-1)])
  have k10 := Evl.Ex.new hp6 (o := .tup [.int 0])
  have k11 := Evl.Ex.new hp7 (o := .tup [.ref p5, .ref p6])
  have N21 := N20.add ((k9.trans k10).trans k11) ⟨_, dm_tup ((N20.ex.trans k9).trans k10) hp7 (.cons ((dm_tup N20.ex hp5 (.cons (.int (-1)) .nil)).mono (mix_mono k10)) (.cons (dm_tup (N20.ex.trans k9) hp6 (.cons (.int 0) .nil)) .nil)), val_of (by decide +kernel)⟩
  have j4 := j3.trans ((k9.trans k10).trans k11)
  have N22 := N21.on (Evl.Ex.new hl8 (o := .lst [y1, y2, .ref p4, .ref p7]))
  have j5 := j4.trans (Evl.Ex.new hl8 (o := .lst [y1, y2, .ref p4, .ref p7]))
  refine ⟨l7, l8, _, _, rfl, rfl, j5 _ _ hl7v, upd_same, by rw [len5]; exact (by decide : 28 + 4 ≤ sizeLine), fun l9 hl9 => ?_⟩
  have N23 := N22.on (Evl.Ex.new hl9 (o := .lst (L5 ++ [y1, y2, .ref p4, .ref p7])))
  refine kk l9 _ _ N23.ex upd_same (fun y hy => ?_) (by rw [List.length_append, len5]; exact (by decide : 28 + 4 ≤ 200))
  refine (N23.all y ?_).mono (mix_at hB N23.ex)
  simp only [List.append_assoc, List.cons_append, List.nil_append]
  exact hy
end
end Lr

namespace Lr
open PySem L2
theorem Sh.fit {m k : Nat} {d : PyData} (h : Sh m k d) (hm : m ≤ 1000000) (hk : k ≤ 60) : Fit d := ⟨h.sh, Nat.le_trans h.len (Nat.le_trans hm (by decide)), Nat.le_trans h.dep hk⟩
/-- a fault's text is short -/
theorem tell_sh {k : Nat} {x : Str} (hk : k ≤ 100000) (hx : Sh 40 0 (.str x)) : Sh 1000 2 (tellI k x) ∧ Pu (tellI k x) := by
  have i : PI 20 0 (.int (k : Int)) := int_pi (by omega)
  have all : ∀ e ∈ [PyData.int (k : Int), .str x], Sh 40 0 e ∧ Pu e := fun e he => by
    simp only [List.mem_cons, List.not_mem_nil, or_false] at he
    rcases he with rfl | rfl
    · exact ⟨i.s.mono (by decide) (by decide), i.p⟩
    · exact ⟨hx, ⟨rfl, rfl⟩⟩
  exact ⟨(sh_tup (c := 2) (fun e he => (all e he).1) (Nat.le_refl 2)).mono (by decide) (by decide), pu_tup fun e he => (all e he).2⟩
theorem first_sh {p : PyData → Prop} {ds : List PyData} {x : Str} {r : PyData} (h : First p ds x r) (hl : ds.length ≤ 100) (hx : Sh 40 0 (.str x)) : Sh 1000 2 r ∧ Pu r := by
  rcases h with ⟨rfl, _⟩ | ⟨k, d, rfl, h1, _⟩
  · exact ⟨⟨by decide +kernel, by decide +kernel, by decide +kernel⟩, ⟨rfl, rfl⟩⟩
  · have := (List.getElem?_eq_some_iff.mp h1).1
    exact tell_sh (by omega) hx
theorem c_rule : Sh 1000 2 (.tuple [.none, .str "rule"]) ∧ Pu (.tuple [.none, .str "rule"]) := ⟨⟨by decide +kernel, by decide +kernel, by decide +kernel⟩, ⟨by decide +kernel, by decide +kernel⟩⟩
theorem c_row : Sh 1000 2 (.tuple [.none, .str "row"]) ∧ Pu (.tuple [.none, .str "row"]) := ⟨⟨by decide +kernel, by decide +kernel, by decide +kernel⟩, ⟨by decide +kernel, by decide +kernel⟩⟩
theorem rule_told {d r : PyData} (h : RuleRes d r) : Sh 1000 2 r ∧ Pu r := by
  cases d with
  | tuple ds =>
    unfold RuleRes at h
    simp only at h
    split at h
    · rename_i q
      exact first_sh h (by omega) ⟨by decide +kernel, by decide +kernel, by decide +kernel⟩
    · rw [h]; exact c_rule
  | _ => rw [show r = _ from h]; exact c_rule
theorem row_told {n : Nat} {d r : PyData} (h : RowRes n d r) : Sh 1000 2 r ∧ Pu r := by
  cases d with
  | tuple ds =>
    unfold RowRes at h
    simp only at h
    split at h
    · rename_i q
      exact first_sh h (by omega) ⟨by decide +kernel, by decide +kernel, by decide +kernel⟩
    · rw [h]; exact c_row
  | _ => rw [show r = _ from h]; exact c_row
theorem bool_sh (b : Bool) : Sh 1000 2 (.bool b) ∧ Pu (.bool b) := by
  cases b <;> exact ⟨⟨by decide +kernel, by decide +kernel, by decide +kernel⟩, ⟨rfl, rfl⟩⟩
theorem pair_fit {r : PyData} {b : Bool} (h : Sh 1000 2 r ∧ Pu r) : Fit (.list [r, .bool b]) :=
  (sh_lst (es := [r, .bool b]) (c := 2) (m := 1000) (k := 2) (fun e he => by
    simp only [List.mem_cons, List.not_mem_nil, or_false] at he
    rcases he with rfl | rfl
    · exact h.1
    · exact (bool_sh b).1) (Nat.le_refl 2)).fit (by decide) (by decide)
theorem pair_sys {r : PyData} {b : Bool} {p : V} (h : Sh 1000 2 r ∧ Pu r) (q : (PyData.list [r, .bool b]).hasDict = true) : NoSys p (.list [r, .bool b]) := by
  simp [PyData.hasDict, PyData.hasDictAll, h.2.nd] at q
theorem two_fit {a d : PyData} (ha : Sh 100000 6 a) (hd : Sh 100000 6 d) : Fit (.list [a, d]) :=
  (sh_lst (es := [a, d]) (c := 2) (m := 100000) (k := 6) (fun e he => by
    simp only [List.mem_cons, List.not_mem_nil, or_false] at he
    rcases he with rfl | rfl
    · exact ha
    · exact hd) (Nat.le_refl 2)).fit (by decide) (by decide)
theorem two_sys {a d : PyData} {p : Addr} (np : p ≠ sysModules) (ha : Pu a) (hd : Ni d) (q : (PyData.list [a, d]).hasDict = true) : NoSys (.ref p) (.list [a, d]) := by
  have hh : d.hasDict = true := by simpa [PyData.hasDict, PyData.hasDictAll, ha.nd] using q
  exact .inr ⟨p, _, rfl, rfl, np, by simp [hasListAll, ha.nl, hd hh]⟩
abbrev sLaw : Stmt := topS 26
abbrev nLaw : List Str := ["_law_script", "_law_can", "_law_turn", "_law_rule_here", "_law_value", "_law_shown", "_law_due", "_law_row", "_law_top", "_law_values", "_law_found", "_law_k"]
theorem scLaw : FnScope nLaw ["_law_script"] (defScope sLaw) :=
  ⟨rfl, rfl, rfl, by decide +kernel, rfl, by decide +kernel, by decide +kernel⟩
section
variable {P : Program} {w : World} {K : PySem.W.Frag} {mg : Str → Option Value} {base : Heap}
def spLaw (K : PySem.W.Frag) : Sp := fun vs H Q _ => ∃ (a : Addr) (ns : List Int), vs = [.ref a] ∧ SqL K H a (ns.map V.int) ∧ ns.length ≤ 63 ∧ ∀ H', Q (.bl true) H'
theorem ok_law {f : Addr} {fd : FuncData} (F : Fun K "law" "law" sLaw f fd) (T : Blt mg) (c_law_opened : Cal P w K mg base 1 "_law_opened" ["_law_script"] (spOpened P w K))
    (c_law_rule : Cal P w K mg base 3 "_law_rule" ["_law_can", "_law_upto"] (spRule P w))
    (c_law_cars : Cal P w K mg base 3 "_law_cars" ["_law_can", "_law_rule_here", "_law_upto"] (spCars P w))
    (c_law_odd : Cal P w K mg base 3 "_law_odd" ["_law_can"] (spOdd P w)) (c_law_bent : Cal P w K mg base 4 "_law_bent" ["_law_can", "_law_value"] (spBent P w))
    (c_law_rules : Cal P w K mg base 5 "_law_rules" ["_law_can", "_law_rule_here"] (spRules P w))
    (c_law_rule_fault : Cal P w K mg base 3 "_law_rule_fault" ["_law_value"] spRuleF) (c_law_row_fault : Cal P w K mg base 2 "_law_row_fault" ["_law_rule_here", "_law_value"] spRowE)
    (crule_error : Cal P w K mg base 4 "rule_error" ["value"] spRuleE) (cis_rule : Cal P w K mg base 5 "is_rule" ["value"] spIsRule)
    (crow_error : Cal P w K mg base 4 "row_error" ["rule", "value"] spRowE) (cis_row : Cal P w K mg base 5 "is_row" ["rule", "value"] spIsRow) :
    FnG P w K mg base 6 f fd ["_law_script"] (spLaw K) := by
  refine fnG F scLaw (fun vs H Q E h => ?_) (fun cdv A outer s H vs Q E hr hg h => ?_)
  · obtain ⟨a, ns, rfl, _⟩ := h
    rfl
  obtain ⟨a, ns, rfl, hS, hlen, kQ⟩ := h
  refine ⟨_, (pss_cons (ps_set (i := 1) scLaw.nd rfl (Or.inr rfl) (pe_cal c_law_opened (hr.mono (by decide)) rfl (pa_cons (pv 0) pa_nil)))
    (pss_cons (ps_for PassesOwn.never rfl (pi_range1 rfl T.range (pa_cons pe_int pa_nil)) (pg_name (i := 2) scLaw.nd rfl (Or.inl rfl)) (pss_cons (ps_set (i := 3) scLaw.nd rfl (Or.inl rfl) (pe_cal c_law_rule (hr.mono (by decide)) rfl (pa_cons (pv 1) (pa_cons pe_int pa_nil))))
      (pss_cons (ps_for PassesOwn.never rfl (ki_list (K := K) rfl (pe_cal c_law_rules (hr.mono (by decide)) rfl (pa_cons (pv 1) (pa_cons (pv 3) pa_nil)))) (pg_name (i := 4) scLaw.nd rfl (Or.inl rfl)) (pss_cons (ps_par (i := 5) (j := 6) rfl scLaw.nd rfl rfl (by decide) rfl rfl (pa_cons (pe_callB (call_repr hg hr.units) rfl T.repr bt_repr (pa_cons (pv 4) pa_nil)) (pa_cons (pe_cal c_law_rule_fault (hr.mono (by decide)) rfl (pa_cons (pv 4) pa_nil)) pa_nil)) rfl)
        (pss_one (ps_if (PW.pt (pw_or (pt_cmpR op_ne (pe_callB (call_repr hg hr.units) rfl T.repr bt_repr (pa_cons (pe_lst (pa_cons (pe_cal crule_error (hr.mono (by decide)) rfl (pa_cons (pv 4) pa_nil)) (pa_cons (pe_cal cis_rule (hr.mono (by decide)) rfl (pa_cons (pv 4) pa_nil)) pa_nil))) pa_nil)) (pe_callB (call_repr hg hr.units) rfl T.repr bt_repr (pa_cons (pe_lst (pa_cons (pv 6) (pa_cons (pe_cmpR op_isN (pv 6) pe_non (nomark _)) pa_nil))) pa_nil)) (nomark _)) (pw_or1 (pt_cmpR op_ne (pe_callB (call_repr hg hr.units) rfl T.repr bt_repr (pa_cons (pv 4) pa_nil)) (pv 5) (nomark _))))) (pss_one (ps_ret pe_bl)) pss_nil))))
      (pss_cons (ps_asg (pe_tup (pa_cons (pe_cal c_law_cars (hr.mono (by decide)) rfl (pa_cons (pv 1) (pa_cons (pv 3) (pa_cons pe_int pa_nil)))) (pa_cons (pe_op op_sub (pe_callB (k_len (K := K) rfl) rfl T.len bt_len (pa_cons (pv 3) pa_nil)) pe_int) pa_nil))) (pg_tup rfl (pgs_cons (pg_name (i := 7) scLaw.nd rfl (Or.inr rfl)) (pgs_cons (pg_name (i := 8) scLaw.nd rfl (Or.inl rfl)) pgs_nil))))
      (pss_cons (ps_set (i := 9) scLaw.nd rfl (Or.inl rfl) (pe_lst (pa_cons (pv 7) (pa_cons (pe_callTy (k_list_of (K := K) rfl) rfl T.list bt_list (pa_cons (pv 7) pa_nil)) (pa_cons (pe_tup pa_nil) (pa_cons (pe_op (ko_repT (K := K) rfl) (pe_tup (pa_cons (pv 8) pa_nil)) pe_int) (pa_cons (pe_op (ko_repT (K := K) rfl) (pe_tup (pa_cons (pv 8) pa_nil)) pe_int) (pa_cons (pe_tup (pa_cons (pe_op op_add (pv 8) pe_int) pa_nil)) (pa_cons (pe_op (ko_catT (K := K) rfl) (pv 7) (pe_tup (pa_cons (pe_un un_neg pe_int) (pa_cons pe_non pa_nil)))) (pa_cons (pe_op (ko_catT (K := K) rfl) (pv 7) (pe_tup (pa_cons pe_bl pa_nil))) pa_nil))))))))))
      (pss_cons (ps_expr (pe_bm PySem.F.plainAttrs_list PySem.F.slot_list_append PySem.F.type_list_append mt_append (pv 9) (pa_cons (pe_cal c_law_odd (hr.mono (by decide)) rfl (pa_cons (pv 1) pa_nil)) pa_nil)))
      (pss_one (ps_for PassesOwn.never rfl (ki_list (K := K) rfl (pe_op op_cat (pe_op op_cat (pv 9) (pe_lc (own := [("_law_k", 11)]) (g := gName 11)  (by rfl) scLaw.nd (pi_range1 rfl T.range (pa_cons pe_int pa_nil)) (blkOk_by (own := [("_law_k", 11)]) (N := nLaw) (sc := defScope sLaw) (by decide +kernel)) (fun _ _ _ _ _ => (pg_name (i := 11) scLaw.nd rfl (Or.inl rfl))) (fun _ _ _ _ _ => pts_nil) (fun _ _ _ _ _ => (pe_cal c_law_bent (hr.mono (by decide)) rfl (pa_cons (pv 1) (pa_cons (pv 7) pa_nil)))))) (pe_lst (pa_cons (pe_tup (pa_cons (pe_cal c_law_odd (hr.mono (by decide)) rfl (pa_cons (pv 1) pa_nil)) pa_nil)) (pa_cons (pe_op (ko_catT (K := K) rfl) (pe_slice (ks_tup (K := K) rfl) (pv 7) po_none (po_some pe_int)) (pe_tup (pa_cons pe_str (pa_cons pe_int pa_nil)))) pa_nil))))) (pg_name (i := 4) scLaw.nd rfl (Or.inl rfl)) (pss_cons (ps_par (i := 5) (j := 6) rfl scLaw.nd rfl rfl (by decide) rfl rfl (pa_cons (pe_callB (call_repr hg hr.units) rfl T.repr bt_repr (pa_cons (pe_lstN (pa_cons (pv 3) (pa_cons (pv 4) pa_nil))) pa_nil)) (pa_cons (pe_cal c_law_row_fault (hr.mono (by decide)) rfl (pa_cons (pv 3) (pa_cons (pv 4) pa_nil))) pa_nil)) rfl)
        (pss_cons (ps_set (i := 10) scLaw.nd rfl (Or.inl rfl) (pe_lst (pa_cons (pe_cal crow_error (hr.mono (by decide)) rfl (pa_cons (pv 3) (pa_cons (pv 4) pa_nil))) (pa_cons (pe_cal cis_row (hr.mono (by decide)) rfl (pa_cons (pv 3) (pa_cons (pv 4) pa_nil))) pa_nil))))
        (pss_one (ps_if (PW.pt (pw_or (pt_cmpR op_ne (pe_callB (call_repr hg hr.units) rfl T.repr bt_repr (pa_cons (pv 10) pa_nil)) (pe_callB (call_repr hg hr.units) rfl T.repr bt_repr (pa_cons (pe_lst (pa_cons (pv 6) (pa_cons (pe_cmpR op_isN (pv 6) pe_non (nomark _)) pa_nil))) pa_nil)) (nomark _)) (pw_or1 (pt_cmpR op_ne (pe_callB (call_repr hg hr.units) rfl T.repr bt_repr (pa_cons (pe_lstN (pa_cons (pv 3) (pa_cons (pv 4) pa_nil))) pa_nil)) (pv 5) (nomark _))))) (pss_one (ps_ret pe_bl)) pss_nil))))))))))))
    (pss_one (ps_ret pe_bl)))), ?_⟩
  have z0 : 0 ≤ sizeLine := by decide
  have z1 : 1 ≤ sizeLine := by decide
  have z2 : 2 ≤ sizeLine := by decide
  -- can = opened(script)
  refine ⟨_, rfl, a, ns, rfl, hS, hlen, fun c H0 e0 C => ?_⟩
  refine ⟨5, rfl, by decide, by decide, for_range (fun i σ H' => (∃ x2 x3 x4 x5 x6 x7 x8 x9 x10 x11 : Option V, σ = [some (.ref a), some (.ref c), x2, x3, x4, x5, x6, x7, x8, x9, x10, x11]) ∧ Can P w H' c) ⟨⟨_, _, _, _, _, _, _, _, _, _, rfl⟩, C⟩ ?_ (fun σ H' _ => kQ H')⟩
  rintro i σ H1 hi ⟨⟨x2, x3, x4, x5, x6, x7, x8, x9, x10, x11, rfl⟩, C1⟩
  -- rule_here
  refine ⟨_, rfl, c, 6, rfl, C1, by decide, by decide, fun rv n ps H2 e2 hn hR hrv => ?_⟩
  have C2 := C1.mono e2
  obtain ⟨ra, rxs, rfl, hra, lrx, _⟩ := rule_inv hrv
  have hxl : rxs.length = n + 1 := lrx.trans hR.2.1
  have rsh : Sh 100000 6 (ruleD ps) ∧ Pu (ruleD ps) := by
    have all : ∀ e ∈ ps.map prefD, PI 2000 4 e := fun e he => by
      obtain ⟨p, hp, rfl⟩ := List.mem_map.mp he
      exact pref_pi (hR.2.2 p hp) hn
    exact ⟨(sh_tup (c := 7) (fun e he => (all e he).s) (by rw [List.length_map, hR.2.1]; omega)).mono (by decide) (by decide), pu_tup fun e he => (all e he).p⟩
  -- for value in rules(can, rule_here)
  refine ⟨_, rfl, _, rfl, c, .ref ra, n, ps, rfl, C2, hrv, hR, hn, fun l ys H3 e3 hl hy _ => ⟨l, rfl, ⟨_, SqL.of hl⟩, ?_⟩⟩
  refine for_list (K := K) (a := l) (xs := ys) (fun j σ H' => (∃ y4 y5 y6 : Option V, σ = [some (.ref a), some (.ref c), some (.int (0 + (i : Int))), some (.ref ra), y4, y5, y6, x7, x8, x9, x10, x11]) ∧ Ex H3 H')
    ⟨⟨_, _, _, rfl⟩, Evl.Ex.refl _⟩ (fun j σ H' _ h => SqL.of (h.2 _ _ hl)) ?turn ?after
  case turn =>
    rintro j v σ J hv ⟨⟨y4, y5, y6, rfl⟩, eJ⟩
    obtain ⟨d, hd0, hval⟩ := hy v (List.mem_of_getElem? hv)
    have hd : Dv J v d := hd0.mono eJ
    have hfit := hval.s.fit (by decide) (by decide)
    refine ⟨_, rfl, v, d, rfl, hd, hfit, fun q => .inl (hval.n q), _, rfl, v, d, rfl, hd, hval.z, fun du r K2 g2 hdu hres => ⟨_, _, rfl, ?_⟩⟩
    have told := rule_told hres
    -- if repr([rule_error(value), is_rule(value)]) != ..
    refine ⟨_, rfl, v, d, rfl, hd.mono g2, fun u2 r2 K3 g3 hu2 hres2 => ⟨_, rfl, v, d, rfl, (hd.mono g2).mono g3, fun r3 K4 g4 hres3 => ⟨z2, fun p2 hp2 => ?_⟩⟩⟩
    rw [hres2.uniq hres] at hu2
    rw [hres3.uniq hres] at *
    refine ⟨.ref p2, .list [r, .bool (isNone r)], rfl, .lst upd_same (.cons ((hu2.mono g4).mono (Evl.Ex.new hp2)) (.cons (.bl _) .nil)), pair_fit told, pair_sys told, ?_⟩
    have g5 : Ex K2 (upd K4 p2 (.lst [u2, .bl (isNone r)])) := (g3.trans g4).trans (Evl.Ex.new hp2)
    generalize upd K4 p2 (.lst [u2, .bl (isNone r)]) = K5 at g5 ⊢
    refine ⟨_, rfl, _, rfl, rfl, z2, fun p3 hp3 => ?_⟩
    rw [is_none hdu] at *
    refine ⟨.ref p3, .list [r, .bool (isNone r)], rfl, .lst upd_same (.cons ((hdu.mono g5).mono (Evl.Ex.new hp3)) (.cons (.bl _) .nil)), pair_fit told, pair_sys told, rfl, _, rfl, ?_⟩
    refine iteNS rfl ?_
    have g6 : Ex K2 (upd K5 p3 (.lst [du, .bl (isNone r)])) := g5.trans (Evl.Ex.new hp3)
    generalize upd K5 p3 (.lst [du, .bl (isNone r)]) = K6 at g6 ⊢
    -- repr(value) != shown
    refine ⟨_, rfl, v, d, rfl, (hd.mono g2).mono g6, hfit, fun q => .inl (hval.n q), _, rfl, rfl, _, rfl, ?_⟩
    refine iteNS rfl ?_
    exact ⟨⟨_, _, _, rfl⟩, (eJ.trans g2).trans g6⟩
  case after =>
    rintro σ H4 ⟨⟨y4, y5, y6, rfl⟩, e4⟩
    have E4 : Ex H2 H4 := e3.trans e4
    have C4 := C2.mono E4
    have hn1 := hR.1
    -- row, top
    refine ⟨_, rfl, _, rfl, c, .ref ra, 40, n, ps, rfl, C4, hrv.mono E4, hR, by omega, by decide, by decide, fun pr rs H5 e5 hrow hr1 hr2 hin => ⟨_, rfl, ra, rxs, rfl, .inr (SqT.of (e5 _ _ (E4 _ _ hra))), _, _, rfl, rfl, z2, fun p5 hp5 => ⟨p5, _, rfl, SqT.of upd_same, rfl, _, _, rfl, _, _, rfl, rfl, ?_⟩⟩⟩
    have top : (rxs.length : Int) - 2 = ((n - 1 : Nat) : Int) := by omega
    have topV : (fun i j : Int => V.int (i - j)) (rxs.length : Int) 2 = V.int ((n - 1 : Nat) : Int) := congrArg V.int top
    rw [topV]
    have E6 : Ex H4 (upd H5 p5 (.tup [.ref pr, .int ((n - 1 : Nat) : Int)])) := e5.trans (Evl.Ex.new hp5)
    have hrow6 : upd H5 p5 (.tup [.ref pr, .int ((n - 1 : Nat) : Int)]) pr = some (.tup (rs.map V.int)) := Evl.Ex.new hp5 _ _ hrow
    generalize upd H5 p5 (.tup [.ref pr, .int ((n - 1 : Nat) : Int)]) = G at E6 hrow6 ⊢
    have E7 : Ex H2 G := E4.trans E6
    clear hp5 hrow e5
    have hB : Ex G G := Evl.Ex.refl G
    have rowtp : ∀ {B : Hp}, B pr = some (.tup (rs.map V.int)) → TP 60 2 40 B (.ref pr) := fun h => by
      refine ⟨rs.map .int, .tup h (dv_ints _ rs), fun e he => ?_, by rw [List.length_map]; omega⟩
      obtain ⟨x, hx, rfl⟩ := List.mem_map.mp he
      have := hin x hx
      exact (int_pi (by omega)).mono (by decide) (by decide)
    have pin : ∀ i : Int, i.natAbs < 10 ^ 12 → PI 60 2 (.int i) := fun i h => (int_pi h).mono (by decide) (by decide)
    have piN : PI 60 2 PyData.none := ⟨⟨by decide +kernel, by decide +kernel, by decide +kernel⟩, ⟨rfl, rfl⟩, fun _ q => (nomatch q)⟩
    have piB : PI 60 2 (.bool true) := ⟨⟨by decide +kernel, by decide +kernel, by decide +kernel⟩, ⟨rfl, rfl⟩, fun _ q => (nomatch q)⟩
    have piS : PI 60 2 (.str "0") := ⟨⟨by decide +kernel, by decide +kernel, by decide +kernel⟩, ⟨rfl, rfl⟩, fun _ q => (nomatch q)⟩
    have mb : ∀ {J : Hp}, Ex G J → mix G G J pr = some (.tup (rs.map V.int)) := fun e => mix_base hB e _ _ hrow6
    -- values
    refine ⟨_, rfl, _, rfl, tn (lst_tp hB hB (rowtp (mb hB)) fun v2 J2 es k2 hv2 hes hel => ⟨z0, fun p3 hp3 => ?_⟩)⟩
    have k3 := k2.trans (Evl.Ex.new hp3 (o := .tup []))
    have i2 : IsVal 100000 6 (mix G G (upd J2 p3 (.tup []))) v2 := ⟨_, hv2.mono (mix_mono (Evl.Ex.new hp3)), (lst_val hes hel).1.mono (by decide) (by decide)⟩
    have i3 : IsVal 100000 6 (mix G G (upd J2 p3 (.tup []))) (.ref p3) := ⟨_, dm_tup k2 hp3 .nil, val_of (by decide +kernel)⟩
    generalize upd J2 p3 (.tup []) = J3 at k3 i2 i3 ⊢
    refine ⟨_, rfl, z1, fun p4 hp4 => ⟨p4, 40, _, rfl, rfl, SqT.of upd_same, by simp, by decide, by decide, by simp, fun p5 hp5 => ?_⟩⟩
    have k4 := k3.trans (Evl.Ex.new hp4 (o := .tup [.int ((n - 1 : Nat) : Int)]))
    have i5 : IsVal 100000 6 (mix G G (upd (upd J3 p4 (.tup [.int ((n - 1 : Nat) : Int)])) p5 (.tup (List.replicate (40 : Int).toNat [V.int ((n - 1 : Nat) : Int)]).flatten))) (.ref p5) := (rep_tp (n := 40) k4 (.int _) (pin _ (by omega)) hp5).is (by decide) (by decide)
    have k5 : Ex J3 (upd (upd J3 p4 (.tup [.int ((n - 1 : Nat) : Int)])) p5 (.tup (List.replicate (40 : Int).toNat [V.int ((n - 1 : Nat) : Int)]).flatten)) := (Evl.Ex.new hp4).trans (Evl.Ex.new hp5)
    generalize upd (upd J3 p4 (.tup [.int ((n - 1 : Nat) : Int)])) p5 (.tup (List.replicate (40 : Int).toNat [V.int ((n - 1 : Nat) : Int)]).flatten) = J5 at i5 k5 ⊢
    have k6 := k3.trans k5
    refine ⟨_, rfl, z1, fun p6 hp6 => ⟨p6, 41, _, rfl, rfl, SqT.of upd_same, by simp, by decide, by decide, by simp, fun p7 hp7 => ?_⟩⟩
    have k7 := k6.trans (Evl.Ex.new hp6 (o := .tup [.int ((n - 1 : Nat) : Int)]))
    have i7 : IsVal 100000 6 (mix G G (upd (upd J5 p6 (.tup [.int ((n - 1 : Nat) : Int)])) p7 (.tup (List.replicate (41 : Int).toNat [V.int ((n - 1 : Nat) : Int)]).flatten))) (.ref p7) := (rep_tp (n := 41) k7 (.int _) (pin _ (by omega)) hp7).is (by decide) (by decide)
    have k8 : Ex J5 (upd (upd J5 p6 (.tup [.int ((n - 1 : Nat) : Int)])) p7 (.tup (List.replicate (41 : Int).toNat [V.int ((n - 1 : Nat) : Int)]).flatten)) := (Evl.Ex.new hp6).trans (Evl.Ex.new hp7)
    generalize upd (upd J5 p6 (.tup [.int ((n - 1 : Nat) : Int)])) p7 (.tup (List.replicate (41 : Int).toNat [V.int ((n - 1 : Nat) : Int)]).flatten) = J7 at i7 k8 ⊢
    have k9 := k6.trans k8
    refine ⟨_, rfl, _, _, rfl, rfl, z1, fun p8 hp8 => ?_⟩
    have i8 : IsVal 100000 6 (mix G G (upd J7 p8 (.tup [.int (((n - 1 : Nat) : Int) + 1)]))) (.ref p8) := (tup1_p (m := 60) (k := 2) k9 (.int _) (pin _ (by omega)) hp8).is (by decide) (by decide)
    have k10 := Evl.Ex.new hp8 (o := .tup [.int (((n - 1 : Nat) : Int) + 1)])
    have k11 := k9.trans k10
    -- row + (-1, None)
    refine ⟨_, rfl, _, rfl, z2, fun p9 hp9 => ?_⟩
    have k12 := Evl.Ex.new hp9 (o := .tup [.int (-1), .non])
    have t9 : TP 60 2 2 (mix G G (upd (upd J7 p8 (.tup [.int (((n - 1 : Nat) : Int) + 1)])) p9 (.tup [.int (-1), .non]))) (.ref p9) :=
      ⟨[.int (-1), .none], dm_tup k11 hp9 (.cons (.int _) (.cons .non .nil)), fun e he => by
        simp only [List.mem_cons, List.not_mem_nil, or_false] at he
        rcases he with rfl | rfl
        · exact pin _ (by decide)
        · exact piN, Nat.le_refl 2⟩
    refine cat_pp hB (k11.trans k12) (rowtp (mb (k11.trans k12))) t9 (by decide) fun v9 J9 k13 hv9 => ?_
    have k14 := (k11.trans k12).trans k13
    refine ⟨_, rfl, z1, fun p10 hp10 => ?_⟩
    have k15 := Evl.Ex.new hp10 (o := .tup [.bl true])
    refine cat_pp hB (k14.trans k15) (rowtp (mb (k14.trans k15))) (tup1_p k14 (.bl true) piB hp10) (by decide) fun v10 J10 k16 hv10 => ⟨(by show 8 ≤ sizeLine; decide), fun l3 hl3 => ?_⟩
    have k17 := (k14.trans k15).trans k16
    have k18 := k15.trans k16
    have IL : ∀ y ∈ [V.ref pr, v2, .ref p3, .ref p5, .ref p7, .ref p8, v9, v10], IsVal 100000 6 (mix G G J10) y := fun y hy => by
      simp only [List.mem_cons, List.not_mem_nil, or_false] at hy
      have m14 : Ex (upd J7 p8 (.tup [.int (((n - 1 : Nat) : Int) + 1)])) J10 := (k12.trans k13).trans k18
      rcases hy with rfl | rfl | rfl | rfl | rfl | rfl | rfl | rfl
      · exact (rowtp (mb k17)).is (by decide) (by decide)
      · exact i2.mono (mix_mono ((k5.trans k8).trans (k10.trans m14)))
      · exact i3.mono (mix_mono ((k5.trans k8).trans (k10.trans m14)))
      · exact i5.mono (mix_mono (k8.trans (k10.trans m14)))
      · exact i7.mono (mix_mono (k10.trans m14))
      · exact i8.mono (mix_mono m14)
      · exact (hv9.is (by decide) (by decide)).mono (mix_mono k18)
      · exact hv10.is (by decide) (by decide)
    have IL : ∀ y ∈ [V.ref pr, v2, .ref p3, .ref p5, .ref p7, .ref p8, v9, v10], IsVal 100000 6 J10 y := fun y hy => (IL y hy).mono (mix_at hB k17)
    clear k3 k4 k5 k6 k7 k8 k9 k10 k11 k12 k13 k14 k15 k16 k18 i2 i3 i5 i7 i8 hv9 hv10 t9
    have lenL : [V.ref pr, v2, .ref p3, .ref p5, .ref p7, .ref p8, v9, v10].length = 8 := rfl
    generalize [V.ref pr, v2, .ref p3, .ref p5, .ref p7, .ref p8, v9, v10] = L at IL lenL ⊢
    have E8 : Ex H2 J10 := E7.trans k17
    have hrow7 := k17 _ _ hrow6
    have X4 : Ex J10 (upd J10 l3 (.lst L)) := Evl.Ex.new hl3
    have al3 : upd J10 l3 (.lst L) l3 = some (.lst L) := upd_same
    generalize upd J10 l3 (.lst L) = G4 at X4 al3 ⊢
    -- values.append(odd(can))
    refine ⟨_, rfl, .inl ⟨rfl, _, SqL.of al3⟩, _, rfl, c, J10, rfl, C2.mono (E8.trans X4), X4, fun ov od B5 H8 g hov hod => ⟨l3, L, ov, rfl, rfl, g.hh _ _ al3, by rw [lenL]; decide, ?_⟩⟩
    have bl : B5 l3 = none := g.free hl3 al3
    have E5 : Ex B5 (upd H8 l3 (.lst (L ++ [ov]))) := Evl.Ex.mut g.bh bl
    have IL5 : ∀ y ∈ L ++ [ov], IsVal 100000 6 (upd H8 l3 (.lst (L ++ [ov]))) y := fun y hy => by
      rcases List.mem_append.mp hy with q | q
      · exact ((IL y q).mono g.bb).mono E5
      · rcases List.mem_singleton.mp q with rfl
        exact ⟨od, hov.mono E5, odd_val od hod⟩
    have EE : Ex J10 (upd H8 l3 (.lst (L ++ [ov]))) := g.bb.trans E5
    have al5 : upd H8 l3 (.lst (L ++ [ov])) l3 = some (.lst (L ++ [ov])) := upd_same
    have lenL5 : (L ++ [ov]).length = 9 := by simp [lenL]
    generalize upd H8 l3 (.lst (L ++ [ov])) = G5 at IL5 EE al5 E5 ⊢
    generalize L ++ [ov] = L5 at IL5 al5 lenL5
    have hrow8 := EE _ _ hrow7
    have E9 : Ex H2 G5 := E8.trans EE
    clear IL E5 bl g hov X4 al3 k17 E8 mb
    have hB5 : Ex G5 G5 := Evl.Ex.refl G5
    have mb : ∀ {J : Hp}, Ex G5 J → mix G5 G5 J pr = some (.tup (rs.map V.int)) := fun e => mix_base hB5 e _ _ hrow8
    -- values + [bent ..] + [..]
    refine ⟨_, rfl, 8, rfl, by decide, by decide, fun D hD => ?_⟩
    refine made_rangeB (n := 8) (B := G5) (Val 100000 6) hD hB5 (by decide) (fun _ => rfl) (fun i hi B1 G1 b1 b2 b3 Q1 q1 => ?_) (fun bt dn B1 G6 lnb g1 hD3 hdn vn => ?_)
    · exact ⟨_, rfl, _, rfl, c, .ref pr, B1, 60, 2, 40, rfl, C2.mono (E9.trans b3), b2, rowtp (b1 _ _ hrow8), by decide, by decide, by decide, fun v1 d1 B2 G2 g2 hv1 va _ => q1 v1 d1 B2 G2 g2 hv1 (va.mono (by decide) (by decide))⟩
    have f6 := g1.hh
    have al6 := f6 _ _ al5
    have I6 : ∀ y ∈ L5 ++ bt, IsVal 100000 6 G6 y := fun y hy => by
      rcases List.mem_append.mp hy with q | q
      · exact (IL5 y q).mono f6
      · obtain ⟨i, hi⟩ := List.mem_iff_getElem?.mp q
        obtain ⟨d, h1, h2⟩ := hdn.get hi
        exact ⟨d, h2.mono g1.bh, vn d (List.mem_of_getElem? h1)⟩
    clear vn hdn g1 hD IL5
    refine ⟨l3, D, L5, bt, rfl, rfl, al6, hD3, by rw [lenL5, lnb]; decide, fun l6 hl6 => ?_⟩
    have len6 : (L5 ++ bt).length = 17 := by rw [List.length_append, lenL5, lnb]
    generalize L5 ++ bt = L6 at I6 len6 ⊢
    have f7 := f6.trans (Evl.Ex.new hl6 (o := .lst L6))
    have I7 : ∀ y ∈ L6, IsVal 100000 6 (upd G6 l6 (.lst L6)) y := fun y hy => (I6 y hy).mono (Evl.Ex.new hl6)
    have al7 : upd G6 l6 (.lst L6) l6 = some (.lst L6) := upd_same
    generalize upd G6 l6 (.lst L6) = G7 at f7 I7 al7 ⊢
    clear I6 hl6 al6 hD3 al5 f6
    refine ⟨_, rfl, c, G7, rfl, C2.mono (E9.trans f7), Evl.Ex.refl _, fun v1 d1 B1 J1 g1 hv1 hd1 => ⟨z1, fun p1 hp1 => ?_⟩⟩
    have f8 := f7.trans g1.hh
    have i1 : IsVal 100000 6 (upd J1 p1 (.tup [v1])) (.ref p1) := by
      have hvi := (odd_vi d1 hd1)
      exact (TV.is (m := 60) (k := 2) (c := 1) ⟨[], d1, [], .tup upd_same (.cons ((hv1.mono g1.bh).mono (Evl.Ex.new hp1)) .nil), fun _ z => (nomatch z), hvi, fun _ z => (nomatch z), Nat.le_refl _⟩ (by decide) (by decide))
    have f9 := f8.trans (Evl.Ex.new hp1 (o := .tup [v1]))
    have h9 := g1.hh.trans (Evl.Ex.new hp1 (o := .tup [v1]))
    generalize upd J1 p1 (.tup [v1]) = J2 at i1 f9 h9 ⊢
    refine ⟨_, rfl, 3, rfl, sl_tp hB5 f9 (rowtp (mb f9)) fun x1 J3 k1 hx1 => ⟨z2, fun p2 hp2 => ?_⟩⟩
    have f10 := f9.trans k1
    have k2 := Evl.Ex.new hp2 (o := .tup [.str "0", .int 9])
    have t2 : TP 60 2 2 (mix G5 G5 (upd J3 p2 (.tup [.str "0", .int 9]))) (.ref p2) :=
      ⟨[.str "0", .int 9], dm_tup f10 hp2 (.cons (.str _) (.cons (.int 9) .nil)), fun e he => by
        simp only [List.mem_cons, List.not_mem_nil, or_false] at he
        rcases he with rfl | rfl
        · exact piS
        · exact pin _ (by decide), Nat.le_refl 2⟩
    refine cat_pp hB5 (f10.trans k2) (hx1.mono (mix_mono k2)) t2 (by decide) fun v2 J4 k3 hv2 => ⟨z2, fun l7 hl7 => ?_⟩
    have f11 := (f10.trans k2).trans k3
    have h11 := (h9.trans k1).trans (k2.trans k3)
    have k4 := Evl.Ex.new hl7 (o := .lst [.ref p1, v2])
    refine ⟨l6, l7, L6, _, rfl, rfl, k4 _ _ (h11 _ _ al7), upd_same, by rw [len6]; exact (by decide : 17 + 2 ≤ sizeLine), fun l8 hl8 => ?_⟩
    have k5 := k4.trans (Evl.Ex.new hl8 (o := .lst (L6 ++ [.ref p1, v2])))
    have I8 : ∀ y ∈ L6 ++ [.ref p1, v2], IsVal 100000 6 (upd (upd J4 l7 (.lst [.ref p1, v2])) l8 (.lst (L6 ++ [.ref p1, v2]))) y := fun y hy => by
      rcases List.mem_append.mp hy with q | q
      · exact (I7 y q).mono (h11.trans k5)
      · simp only [List.mem_cons, List.not_mem_nil, or_false] at q
        rcases q with rfl | rfl
        · exact i1.mono ((k1.trans (k2.trans k3)).trans k5)
        · exact ((hv2.is (by decide) (by decide)).mono (mix_at hB5 f11)).mono k5
    have al8 : upd (upd J4 l7 (.lst [.ref p1, v2])) l8 (.lst (L6 ++ [.ref p1, v2])) l8 = some (.lst (L6 ++ [.ref p1, v2])) := upd_same
    have E10 := E9.trans (f11.trans k5)
    generalize L6 ++ [V.ref p1, v2] = L8 at I8 al8 E10 ⊢
    generalize upd (upd J4 l7 (.lst [.ref p1, v2])) l8 (.lst L8) = G8 at I8 al8 E10 ⊢
    refine ⟨l8, rfl, ⟨_, SqL.of al8⟩, ?_⟩
    refine for_list (K := K) (a := l8) (xs := L8) (fun j σ H' => (∃ w4 w5 w6 w10 : Option V, σ = [some (.ref a), some (.ref c), some (.int (0 + (i : Int))), some (.ref ra), w4, w5, w6, some (.ref pr), some (.int ((n - 1 : Nat) : Int)), some (.ref l3), w10, x11]) ∧ Ex G8 H')
      ⟨⟨_, _, _, _, rfl⟩, Evl.Ex.refl _⟩ (fun j σ H' _ h => SqL.of (h.2 _ _ al8)) ?turn ?after
    case after =>
      rintro σ H' ⟨⟨w4, w5, w6, w10, rfl⟩, e⟩
      exact ⟨⟨_, _, _, _, _, _, _, _, _, _, rfl⟩, C2.mono (E10.trans e)⟩
    case turn =>
      rintro j v σ J hv ⟨⟨w4, w5, w6, w10, rfl⟩, eJ⟩
      obtain ⟨d, hd0, hval⟩ := I8 v (List.mem_of_getElem? hv)
      have hd : Dv J v d := hd0.mono eJ
      have EJ : Ex H2 J := E10.trans eJ
      have hfit := two_fit rsh.1 hval.s
      -- shown, due = repr([rule_here, value]), row_fault(rule_here, value)
      refine ⟨_, rfl, _, rfl, z2, fun q1 hq1 nq1 => ⟨.ref q1, .list [ruleD ps, d], rfl, .lst upd_same (.cons ((hrv.mono EJ).mono (Evl.Ex.new hq1)) (.cons (hd.mono (Evl.Ex.new hq1)) .nil)), hfit, two_sys nq1 rsh.2 hval.n, ?_⟩⟩
      have g1 : Ex J (upd J q1 (.lst [.ref ra, v])) := Evl.Ex.new hq1
      generalize upd J q1 (.lst [.ref ra, v]) = K1 at g1 ⊢
      refine ⟨_, rfl, _, rfl, ra, rxs, v, d, n, rfl, g1 _ _ (EJ _ _ hra), hxl, hd.mono g1, fun du r K2 g2 hdu hres => ⟨_, _, rfl, ?_⟩⟩
      have told := row_told hres
      have G2 := g1.trans g2
      -- found
      refine ⟨_, rfl, _, rfl, ra, rxs, v, d, n, rfl, G2 _ _ (EJ _ _ hra), hxl, hd.mono G2, fun u2 r2 K3 g3 hu2 hres2 => ⟨_, rfl, _, rfl, ra, rxs, v, d, n, rfl, g3 _ _ (G2 _ _ (EJ _ _ hra)), hxl, (hd.mono G2).mono g3, fun r3 K4 g4 hres3 => ⟨z2, fun p2 hp2 => ?_⟩⟩⟩
      rw [hres2.uniq hres] at hu2
      rw [hres3.uniq hres] at *
      have g5 : Ex K2 (upd K4 p2 (.lst [u2, .bl (isNone r)])) := (g3.trans g4).trans (Evl.Ex.new hp2)
      have dv5 : Dv (upd K4 p2 (.lst [u2, .bl (isNone r)])) (.ref p2) (.list [r, .bool (isNone r)]) := .lst upd_same (.cons ((hu2.mono g4).mono (Evl.Ex.new hp2)) (.cons (.bl _) .nil))
      generalize upd K4 p2 (.lst [u2, .bl (isNone r)]) = K5 at g5 dv5 ⊢
      refine ⟨_, rfl, .ref p2, .list [r, .bool (isNone r)], rfl, dv5, pair_fit told, pair_sys told, ?_⟩
      refine ⟨_, rfl, _, rfl, rfl, z2, fun p3 hp3 => ?_⟩
      rw [is_none hdu] at *
      refine ⟨.ref p3, .list [r, .bool (isNone r)], rfl, .lst upd_same (.cons ((hdu.mono g5).mono (Evl.Ex.new hp3)) (.cons (.bl _) .nil)), pair_fit told, pair_sys told, rfl, _, rfl, ?_⟩
      refine iteNS rfl ?_
      have g6 : Ex K2 (upd K5 p3 (.lst [du, .bl (isNone r)])) := g5.trans (Evl.Ex.new hp3)
      generalize upd K5 p3 (.lst [du, .bl (isNone r)]) = K6 at g6 ⊢
      -- repr([rule_here, value]) != shown
      refine ⟨_, rfl, _, rfl, z2, fun q2 hq2 nq2 => ⟨.ref q2, .list [ruleD ps, d], rfl, .lst upd_same (.cons ((((hrv.mono EJ).mono G2).mono g6).mono (Evl.Ex.new hq2)) (.cons (((hd.mono G2).mono g6).mono (Evl.Ex.new hq2)) .nil)), hfit, two_sys nq2 rsh.2 hval.n, _, rfl, rfl, _, rfl, ?_⟩⟩
      refine iteNS rfl ?_
      exact ⟨⟨_, _, _, _, rfl⟩, (eJ.trans G2).trans (g6.trans (Evl.Ex.new hq2))⟩
end
end Lr

namespace Lr
open PySem L2
theorem all_mk {l : PySem.W.OpenLaw} {w : World} {K : PySem.W.Frag} {h : Heap} {mg : Str → Option Value} {fa f1 f2 f3 f4 f5 f6 f7 f8 f9 f10 f11 f12 f13 f14 f15 f16 f17 f18 f19 f20 f21 f22 : Addr} (X : K.In h) (G : h.Ns mainGlobals mg) (hfa : mg "law" = some (.ref fa))
    {od1 od2 od3 od4 od5 od6 od7 od8 od9 od10 od11 od12 od13 od14 od15 od16 od17 od18 od19 od20 od21 od22 an1 an2 an3 an4 an5 an6 an7 an8 an9 an10 an11 an12 an13 an14 an15 an16 an17 an18 an19 an20 an21 an22 : Option Addr}
    {sl1 sl2 sl3 sl4 sl5 sl6 sl7 sl8 sl9 sl10 sl11 sl12 sl13 sl14 sl15 sl16 sl17 sl18 sl19 sl20 sl21 sl22 : Array (Option Value)}
    {oc1 kV1 dc1 pm1 cd1 ct1 oc2 kV2 dc2 pm2 cd2 ct2 oc3 kV3 dc3 pm3 cd3 ct3 oc4 kV4 dc4 pm4 cd4 ct4 oc5 kV5 dc5 pm5 cd5 ct5 oc6 kV6 dc6 pm6 cd6 ct6 oc7 kV7 dc7 pm7 cd7 ct7 oc8 kV8 dc8 pm8 cd8 ct8 oc9 kV9 dc9 pm9 cd9 ct9 oc10 kV10 dc10 pm10 cd10 ct10 oc11 kV11 dc11 pm11 cd11 ct11 oc12 kV12 dc12 pm12 cd12 ct12 oc13 kV13 dc13 pm13 cd13 ct13 oc14 kV14 dc14 pm14 cd14 ct14 oc15 kV15 dc15 pm15 cd15 ct15 oc16 kV16 dc16 pm16 cd16 ct16 oc17 kV17 dc17 pm17 cd17 ct17 oc18 kV18 dc18 pm18 cd18 ct18 oc19 kV19 dc19 pm19 cd19 ct19 oc20 kV20 dc20 pm20 cd20 ct20 oc21 kV21 dc21 pm21 cd21 ct21 oc22 kV22 dc22 pm22 cd22 ct22 : Value}
    {tMAX_LANES tMAX_CARS : Tok}
    (a1 : PySem.W.nsIn K mainGlobals "is_number" = some (some (.ref f1)))
    (l1 : K.lookup f1 = some ⟨oc1, od1, .func (PySem.W.fnOf "is_number" "is_number" (defArgs sIsNum) (defBody sIsNum) (defScope sIsNum) .none kV1 dc1 pm1 an1 cd1 ct1), sl1⟩)
    (c1 : PySem.W.codeIn K cd1 "is_number" = true)
    (k1 : PySem.W.keepIn K (.ref f1) = true)
    (a2 : PySem.W.nsIn K mainGlobals "is_within" = some (some (.ref f2)))
    (l2 : K.lookup f2 = some ⟨oc2, od2, .func (PySem.W.fnOf "is_within" "is_within" (defArgs sWithin) (defBody sWithin) (defScope sWithin) .none kV2 dc2 pm2 an2 cd2 ct2), sl2⟩)
    (c2 : PySem.W.codeIn K cd2 "is_within" = true)
    (k2 : PySem.W.keepIn K (.ref f2) = true)
    (a3 : PySem.W.nsIn K mainGlobals "is_arrangement" = some (some (.ref f3)))
    (l3 : K.lookup f3 = some ⟨oc3, od3, .func (PySem.W.fnOf "is_arrangement" "is_arrangement" (defArgs sArr) (defBody sArr) (defScope sArr) .none kV3 dc3 pm3 an3 cd3 ct3), sl3⟩)
    (c3 : PySem.W.codeIn K cd3 "is_arrangement" = true)
    (k3 : PySem.W.keepIn K (.ref f3) = true)
    (a4 : PySem.W.nsIn K mainGlobals "rule_error" = some (some (.ref f4)))
    (l4 : K.lookup f4 = some ⟨oc4, od4, .func (PySem.W.fnOf "rule_error" "rule_error" (defArgs sRuleE) (defBody sRuleE) (defScope sRuleE) .none kV4 dc4 pm4 an4 cd4 ct4), sl4⟩)
    (c4 : PySem.W.codeIn K cd4 "rule_error" = true)
    (k4 : PySem.W.keepIn K (.ref f4) = true)
    (a5 : PySem.W.nsIn K mainGlobals "is_rule" = some (some (.ref f5)))
    (l5 : K.lookup f5 = some ⟨oc5, od5, .func (PySem.W.fnOf "is_rule" "is_rule" (defArgs sIsRule) (defBody sIsRule) (defScope sIsRule) .none kV5 dc5 pm5 an5 cd5 ct5), sl5⟩)
    (c5 : PySem.W.codeIn K cd5 "is_rule" = true)
    (k5 : PySem.W.keepIn K (.ref f5) = true)
    (a6 : PySem.W.nsIn K mainGlobals "is_lane" = some (some (.ref f6)))
    (l6 : K.lookup f6 = some ⟨oc6, od6, .func (PySem.W.fnOf "is_lane" "is_lane" (defArgs sIsLane) (defBody sIsLane) (defScope sIsLane) .none kV6 dc6 pm6 an6 cd6 ct6), sl6⟩)
    (c6 : PySem.W.codeIn K cd6 "is_lane" = true)
    (k6 : PySem.W.keepIn K (.ref f6) = true)
    (a7 : PySem.W.nsIn K mainGlobals "row_error" = some (some (.ref f7)))
    (l7 : K.lookup f7 = some ⟨oc7, od7, .func (PySem.W.fnOf "row_error" "row_error" (defArgs sRowE) (defBody sRowE) (defScope sRowE) .none kV7 dc7 pm7 an7 cd7 ct7), sl7⟩)
    (c7 : PySem.W.codeIn K cd7 "row_error" = true)
    (k7 : PySem.W.keepIn K (.ref f7) = true)
    (a8 : PySem.W.nsIn K mainGlobals "is_row" = some (some (.ref f8)))
    (l8 : K.lookup f8 = some ⟨oc8, od8, .func (PySem.W.fnOf "is_row" "is_row" (defArgs sIsRow) (defBody sIsRow) (defScope sIsRow) .none kV8 dc8 pm8 an8 cd8 ct8), sl8⟩)
    (c8 : PySem.W.codeIn K cd8 "is_row" = true)
    (k8 : PySem.W.keepIn K (.ref f8) = true)
    (a9 : PySem.W.nsIn K mainGlobals "_law_opened" = some (some (.ref f9)))
    (l9 : K.lookup f9 = some ⟨oc9, od9, .func (PySem.W.fnOf "_law_opened" "_law_opened" (defArgs sOpened) (defBody sOpened) (defScope sOpened) .none kV9 dc9 pm9 an9 cd9 ct9), sl9⟩)
    (c9 : PySem.W.codeIn K cd9 "_law_opened" = true)
    (k9 : PySem.W.keepIn K (.ref f9) = true)
    (a10 : PySem.W.nsIn K mainGlobals "_law_roll" = some (some (.ref f10)))
    (l10 : K.lookup f10 = some ⟨oc10, od10, .func (PySem.W.fnOf "_law_roll" "_law_roll" (defArgs sRoll) (defBody sRoll) (defScope sRoll) .none kV10 dc10 pm10 an10 cd10 ct10), sl10⟩)
    (c10 : PySem.W.codeIn K cd10 "_law_roll" = true)
    (k10 : PySem.W.keepIn K (.ref f10) = true)
    (a11 : PySem.W.nsIn K mainGlobals "_law_one" = some (some (.ref f11)))
    (l11 : K.lookup f11 = some ⟨oc11, od11, .func (PySem.W.fnOf "_law_one" "_law_one" (defArgs sOne) (defBody sOne) (defScope sOne) .none kV11 dc11 pm11 an11 cd11 ct11), sl11⟩)
    (c11 : PySem.W.codeIn K cd11 "_law_one" = true)
    (k11 : PySem.W.keepIn K (.ref f11) = true)
    (a12 : PySem.W.nsIn K mainGlobals "_law_mixed" = some (some (.ref f12)))
    (l12 : K.lookup f12 = some ⟨oc12, od12, .func (PySem.W.fnOf "_law_mixed" "_law_mixed" (defArgs sMixed) (defBody sMixed) (defScope sMixed) .none kV12 dc12 pm12 an12 cd12 ct12), sl12⟩)
    (c12 : PySem.W.codeIn K cd12 "_law_mixed" = true)
    (k12 : PySem.W.keepIn K (.ref f12) = true)
    (a13 : PySem.W.nsIn K mainGlobals "_law_rule" = some (some (.ref f13)))
    (l13 : K.lookup f13 = some ⟨oc13, od13, .func (PySem.W.fnOf "_law_rule" "_law_rule" (defArgs sRule) (defBody sRule) (defScope sRule) .none kV13 dc13 pm13 an13 cd13 ct13), sl13⟩)
    (c13 : PySem.W.codeIn K cd13 "_law_rule" = true)
    (k13 : PySem.W.keepIn K (.ref f13) = true)
    (a14 : PySem.W.nsIn K mainGlobals "_law_cars" = some (some (.ref f14)))
    (l14 : K.lookup f14 = some ⟨oc14, od14, .func (PySem.W.fnOf "_law_cars" "_law_cars" (defArgs sCars) (defBody sCars) (defScope sCars) .none kV14 dc14 pm14 an14 cd14 ct14), sl14⟩)
    (c14 : PySem.W.codeIn K cd14 "_law_cars" = true)
    (k14 : PySem.W.keepIn K (.ref f14) = true)
    (a15 : PySem.W.nsIn K mainGlobals "_law_odd" = some (some (.ref f15)))
    (l15 : K.lookup f15 = some ⟨oc15, od15, .func (PySem.W.fnOf "_law_odd" "_law_odd" (defArgs sOdd) (defBody sOdd) (defScope sOdd) .none kV15 dc15 pm15 an15 cd15 ct15), sl15⟩)
    (c15 : PySem.W.codeIn K cd15 "_law_odd" = true)
    (k15 : PySem.W.keepIn K (.ref f15) = true)
    (a16 : PySem.W.nsIn K mainGlobals "_law_bent" = some (some (.ref f16)))
    (l16 : K.lookup f16 = some ⟨oc16, od16, .func (PySem.W.fnOf "_law_bent" "_law_bent" (defArgs sBent) (defBody sBent) (defScope sBent) .none kV16 dc16 pm16 an16 cd16 ct16), sl16⟩)
    (c16 : PySem.W.codeIn K cd16 "_law_bent" = true)
    (k16 : PySem.W.keepIn K (.ref f16) = true)
    (a17 : PySem.W.nsIn K mainGlobals "_law_whole" = some (some (.ref f17)))
    (l17 : K.lookup f17 = some ⟨oc17, od17, .func (PySem.W.fnOf "_law_whole" "_law_whole" (defArgs sWhole) (defBody sWhole) (defScope sWhole) .none kV17 dc17 pm17 an17 cd17 ct17), sl17⟩)
    (c17 : PySem.W.codeIn K cd17 "_law_whole" = true)
    (k17 : PySem.W.keepIn K (.ref f17) = true)
    (a18 : PySem.W.nsIn K mainGlobals "_law_is_mixed" = some (some (.ref f18)))
    (l18 : K.lookup f18 = some ⟨oc18, od18, .func (PySem.W.fnOf "_law_is_mixed" "_law_is_mixed" (defArgs sIsMixed) (defBody sIsMixed) (defScope sIsMixed) .none kV18 dc18 pm18 an18 cd18 ct18), sl18⟩)
    (c18 : PySem.W.codeIn K cd18 "_law_is_mixed" = true)
    (k18 : PySem.W.keepIn K (.ref f18) = true)
    (a19 : PySem.W.nsIn K mainGlobals "_law_rule_fault" = some (some (.ref f19)))
    (l19 : K.lookup f19 = some ⟨oc19, od19, .func (PySem.W.fnOf "_law_rule_fault" "_law_rule_fault" (defArgs sRuleF) (defBody sRuleF) (defScope sRuleF) .none kV19 dc19 pm19 an19 cd19 ct19), sl19⟩)
    (c19 : PySem.W.codeIn K cd19 "_law_rule_fault" = true)
    (k19 : PySem.W.keepIn K (.ref f19) = true)
    (a20 : PySem.W.nsIn K mainGlobals "_law_row_fault" = some (some (.ref f20)))
    (l20 : K.lookup f20 = some ⟨oc20, od20, .func (PySem.W.fnOf "_law_row_fault" "_law_row_fault" (defArgs sRowF) (defBody sRowF) (defScope sRowF) .none kV20 dc20 pm20 an20 cd20 ct20), sl20⟩)
    (c20 : PySem.W.codeIn K cd20 "_law_row_fault" = true)
    (k20 : PySem.W.keepIn K (.ref f20) = true)
    (a21 : PySem.W.nsIn K mainGlobals "_law_rules" = some (some (.ref f21)))
    (l21 : K.lookup f21 = some ⟨oc21, od21, .func (PySem.W.fnOf "_law_rules" "_law_rules" (defArgs sRules) (defBody sRules) (defScope sRules) .none kV21 dc21 pm21 an21 cd21 ct21), sl21⟩)
    (c21 : PySem.W.codeIn K cd21 "_law_rules" = true)
    (k21 : PySem.W.keepIn K (.ref f21) = true)
    (a22 : PySem.W.nsIn K mainGlobals "law" = some (some (.ref f22)))
    (l22 : K.lookup f22 = some ⟨oc22, od22, .func (PySem.W.fnOf "law" "law" (defArgs sLaw) (defBody sLaw) (defScope sLaw) .none kV22 dc22 pm22 an22 cd22 ct22), sl22⟩)
    (c22 : PySem.W.codeIn K cd22 "law" = true)
    (k22 : PySem.W.keepIn K (.ref f22) = true)
    (zlen : PySem.W.nsIn K mainGlobals "len" = some none)
    (zrange : PySem.W.nsIn K mainGlobals "range" = some none)
    (ztuple : PySem.W.nsIn K mainGlobals "tuple" = some none)
    (zlist : PySem.W.nsIn K mainGlobals "list" = some none)
    (zabs : PySem.W.nsIn K mainGlobals "abs" = some none)
    (zint : PySem.W.nsIn K mainGlobals "int" = some none)
    (zstr : PySem.W.nsIn K mainGlobals "str" = some none)
    (zbool : PySem.W.nsIn K mainGlobals "bool" = some none)
    (zrepr : PySem.W.nsIn K mainGlobals "repr" = some none)
    (zisinstance : PySem.W.nsIn K mainGlobals "isinstance" = some none)
    (zenumerate : PySem.W.nsIn K mainGlobals "enumerate" = some none)
    (zsorted : PySem.W.nsIn K mainGlobals "sorted" = some none)
    (zset : PySem.W.nsIn K mainGlobals "set" = some none)
    (zall : PySem.W.nsIn K mainGlobals "all" = some none)
    (zmin : PySem.W.nsIn K mainGlobals "min" = some none)
    (zmax : PySem.W.nsIn K mainGlobals "max" = some none)
    (zany : PySem.W.nsIn K mainGlobals "any" = some none)
    (zzip : PySem.W.nsIn K mainGlobals "zip" = some none)
    (zsum : PySem.W.nsIn K mainGlobals "sum" = some none)
    (zreversed : PySem.W.nsIn K mainGlobals "reversed" = some none)
    (qMAX_LANES : PySem.W.nsIn K mainGlobals "MAX_LANES" = some (some (.int 6 tMAX_LANES)))
    (qMAX_CARS : PySem.W.nsIn K mainGlobals "MAX_CARS" = some (some (.int 40 tMAX_CARS))) :
    ∃ fd : FuncData, (∀ (s : Shared) (v : Value), BindsTo s fd ⟨[v], []⟩ [("_law_script", v)]) ∧ ∀ base : Heap, K.In base → base.Ns mainGlobals mg → FnG l.prog w K mg base 6 fa fd ["_law_script"] (spLaw K) := by
  have e := hfa.symm.trans (PySem.W.mg_of X G a22)
  cases e
  have T : Blt mg := ⟨PySem.W.mg_none_of X G zlen, PySem.W.mg_none_of X G zrange, PySem.W.mg_none_of X G ztuple, PySem.W.mg_none_of X G zlist, PySem.W.mg_none_of X G zabs, PySem.W.mg_none_of X G zint, PySem.W.mg_none_of X G zstr, PySem.W.mg_none_of X G zbool, PySem.W.mg_none_of X G zrepr, PySem.W.mg_none_of X G zisinstance, PySem.W.mg_none_of X G zenumerate, PySem.W.mg_none_of X G zsorted, PySem.W.mg_none_of X G zset, PySem.W.mg_none_of X G zall, PySem.W.mg_none_of X G zmin, PySem.W.mg_none_of X G zmax, PySem.W.mg_none_of X G zany, PySem.W.mg_none_of X G zzip, PySem.W.mg_none_of X G zsum, PySem.W.mg_none_of X G zreversed⟩
  have hMAX_LANES := PySem.W.mg_of X G qMAX_LANES
  have hMAX_CARS := PySem.W.mg_of X G qMAX_CARS
  have F1 := fun_mk (st := sIsNum) l1 c1 k1
  have b1 := F1.binds (ps := ["value"]) fun _ _ _ _ _ _ us hl => match us, hl with | [_], _ => rfl
  have F2 := fun_mk (st := sWithin) l2 c2 k2
  have b2 := F2.binds (ps := ["value", "low", "high"]) fun _ _ _ _ _ _ us hl => match us, hl with | [_, _, _], _ => rfl
  have F3 := fun_mk (st := sArr) l3 c3 k3
  have b3 := F3.binds (ps := ["value", "count"]) fun _ _ _ _ _ _ us hl => match us, hl with | [_, _], _ => rfl
  have F4 := fun_mk (st := sRuleE) l4 c4 k4
  have b4 := F4.binds (ps := ["value"]) fun _ _ _ _ _ _ us hl => match us, hl with | [_], _ => rfl
  have F5 := fun_mk (st := sIsRule) l5 c5 k5
  have b5 := F5.binds (ps := ["value"]) fun _ _ _ _ _ _ us hl => match us, hl with | [_], _ => rfl
  have F6 := fun_mk (st := sIsLane) l6 c6 k6
  have b6 := F6.binds (ps := ["rule", "value"]) fun _ _ _ _ _ _ us hl => match us, hl with | [_, _], _ => rfl
  have F7 := fun_mk (st := sRowE) l7 c7 k7
  have b7 := F7.binds (ps := ["rule", "value"]) fun _ _ _ _ _ _ us hl => match us, hl with | [_, _], _ => rfl
  have F8 := fun_mk (st := sIsRow) l8 c8 k8
  have b8 := F8.binds (ps := ["rule", "value"]) fun _ _ _ _ _ _ us hl => match us, hl with | [_, _], _ => rfl
  have F9 := fun_mk (st := sOpened) l9 c9 k9
  have b9 := F9.binds (ps := ["_law_script"]) fun _ _ _ _ _ _ us hl => match us, hl with | [_], _ => rfl
  have F10 := fun_mk (st := sRoll) l10 c10 k10
  have b10 := F10.binds (ps := ["_law_can", "_law_many"]) fun _ _ _ _ _ _ us hl => match us, hl with | [_, _], _ => rfl
  have F11 := fun_mk (st := sOne) l11 c11 k11
  have b11 := F11.binds (ps := ["_law_can", "_law_items"]) fun _ _ _ _ _ _ us hl => match us, hl with | [_, _], _ => rfl
  have F12 := fun_mk (st := sMixed) l12 c12 k12
  have b12 := F12.binds (ps := ["_law_can", "_law_many"]) fun _ _ _ _ _ _ us hl => match us, hl with | [_, _], _ => rfl
  have F13 := fun_mk (st := sRule) l13 c13 k13
  have b13 := F13.binds (ps := ["_law_can", "_law_upto"]) fun _ _ _ _ _ _ us hl => match us, hl with | [_, _], _ => rfl
  have F14 := fun_mk (st := sCars) l14 c14 k14
  have b14 := F14.binds (ps := ["_law_can", "_law_rule_here", "_law_upto"]) fun _ _ _ _ _ _ us hl => match us, hl with | [_, _, _], _ => rfl
  have F15 := fun_mk (st := sOdd) l15 c15 k15
  have b15 := F15.binds (ps := ["_law_can"]) fun _ _ _ _ _ _ us hl => match us, hl with | [_], _ => rfl
  have F16 := fun_mk (st := sBent) l16 c16 k16
  have b16 := F16.binds (ps := ["_law_can", "_law_value"]) fun _ _ _ _ _ _ us hl => match us, hl with | [_, _], _ => rfl
  have F17 := fun_mk (st := sWhole) l17 c17 k17
  have b17 := F17.binds (ps := ["_law_value", "_law_low", "_law_high"]) fun _ _ _ _ _ _ us hl => match us, hl with | [_, _, _], _ => rfl
  have F18 := fun_mk (st := sIsMixed) l18 c18 k18
  have b18 := F18.binds (ps := ["_law_value", "_law_many"]) fun _ _ _ _ _ _ us hl => match us, hl with | [_, _], _ => rfl
  have F19 := fun_mk (st := sRuleF) l19 c19 k19
  have b19 := F19.binds (ps := ["_law_value"]) fun _ _ _ _ _ _ us hl => match us, hl with | [_], _ => rfl
  have F20 := fun_mk (st := sRowF) l20 c20 k20
  have b20 := F20.binds (ps := ["_law_rule_here", "_law_value"]) fun _ _ _ _ _ _ us hl => match us, hl with | [_, _], _ => rfl
  have F21 := fun_mk (st := sRules) l21 c21 k21
  have b21 := F21.binds (ps := ["_law_can", "_law_rule_here"]) fun _ _ _ _ _ _ us hl => match us, hl with | [_, _], _ => rfl
  have F22 := fun_mk (st := sLaw) l22 c22 k22
  refine ⟨PySem.W.fnOf "law" "law" (defArgs sLaw) (defBody sLaw) (defScope sLaw) .none kV22 dc22 pm22 an22 cd22 ct22, fun s v => .of_eq rfl, fun base _ _ => ?_⟩
  have h__law_roll : Cal l.prog w K mg base 1 "_law_roll" ["_law_can", "_law_many"] (spRoll l.prog w) := ⟨f10, _, ok_roll F10 T.len, PySem.W.mg_of X G a10, k10, b10⟩
  have h__law_one : Cal l.prog w K mg base 2 "_law_one" ["_law_can", "_law_items"] (spOne l.prog w) := ⟨f11, _, ok_one F11 T h__law_roll, PySem.W.mg_of X G a11, k11, b11⟩
  have h__law_opened : Cal l.prog w K mg base 1 "_law_opened" ["_law_script"] (spOpened l.prog w K) := ⟨f9, _, ok_opened F9 T, PySem.W.mg_of X G a9, k9, b9⟩
  have h__law_mixed : Cal l.prog w K mg base 2 "_law_mixed" ["_law_can", "_law_many"] (spMixed l.prog w) := ⟨f12, _, ok_mixed F12 T h__law_roll, PySem.W.mg_of X G a12, k12, b12⟩
  have h__law_rule : Cal l.prog w K mg base 3 "_law_rule" ["_law_can", "_law_upto"] (spRule l.prog w) := ⟨f13, _, ok_rule F13 T h__law_roll h__law_mixed, PySem.W.mg_of X G a13, k13, b13⟩
  have h__law_cars : Cal l.prog w K mg base 3 "_law_cars" ["_law_can", "_law_rule_here", "_law_upto"] (spCars l.prog w) := ⟨f14, _, ok_cars F14 T h__law_roll h__law_one, PySem.W.mg_of X G a14, k14, b14⟩
  have h__law_odd : Cal l.prog w K mg base 3 "_law_odd" ["_law_can"] (spOdd l.prog w) := ⟨f15, _, ok_odd F15 T h__law_one, PySem.W.mg_of X G a15, k15, b15⟩
  have h__law_bent : Cal l.prog w K mg base 4 "_law_bent" ["_law_can", "_law_value"] (spBent l.prog w) := ⟨f16, _, ok_bent F16 T h__law_roll h__law_one h__law_odd, PySem.W.mg_of X G a16, k16, b16⟩
  have h__law_rules : Cal l.prog w K mg base 5 "_law_rules" ["_law_can", "_law_rule_here"] (spRules l.prog w) := ⟨f21, _, ok_rules F21 T h__law_roll h__law_odd h__law_bent, PySem.W.mg_of X G a21, k21, b21⟩
  have h__law_whole : Cal l.prog w K mg base 1 "_law_whole" ["_law_value", "_law_low", "_law_high"] spWhole := ⟨f17, _, ok_whole F17 T, PySem.W.mg_of X G a17, k17, b17⟩
  have h__law_is_mixed : Cal l.prog w K mg base 2 "_law_is_mixed" ["_law_value", "_law_many"] spIsMix := ⟨f18, _, ok_is_mixed F18 T h__law_whole, PySem.W.mg_of X G a18, k18, b18⟩
  have h__law_rule_fault : Cal l.prog w K mg base 3 "_law_rule_fault" ["_law_value"] spRuleF := ⟨f19, _, ok_rule_fault F19 T h__law_is_mixed, PySem.W.mg_of X G a19, k19, b19⟩
  have h__law_row_fault : Cal l.prog w K mg base 2 "_law_row_fault" ["_law_rule_here", "_law_value"] spRowE := ⟨f20, _, ok_row_fault F20 T h__law_whole, PySem.W.mg_of X G a20, k20, b20⟩
  have h_is_number : Cal l.prog w K mg base 1 "is_number" ["value"] spNum := ⟨f1, _, ok_num F1 T, PySem.W.mg_of X G a1, k1, b1⟩
  have h_is_within : Cal l.prog w K mg base 2 "is_within" ["value", "low", "high"] spWithin := ⟨f2, _, ok_within F2 T h_is_number, PySem.W.mg_of X G a2, k2, b2⟩
  have h_is_arrangement : Cal l.prog w K mg base 3 "is_arrangement" ["value", "count"] spArr := ⟨f3, _, ok_arr F3 T h_is_within, PySem.W.mg_of X G a3, k3, b3⟩
  have h_rule_error : Cal l.prog w K mg base 4 "rule_error" ["value"] spRuleE := ⟨f4, _, ok_rule_error F4 T hMAX_LANES h_is_arrangement, PySem.W.mg_of X G a4, k4, b4⟩
  have h_is_rule : Cal l.prog w K mg base 5 "is_rule" ["value"] spIsRule := ⟨f5, _, ok_is_rule F5 T h_rule_error, PySem.W.mg_of X G a5, k5, b5⟩
  have h_is_lane : Cal l.prog w K mg base 3 "is_lane" ["rule", "value"] spIsLane := ⟨f6, _, ok_is_lane F6 T h_is_within, PySem.W.mg_of X G a6, k6, b6⟩
  have h_row_error : Cal l.prog w K mg base 4 "row_error" ["rule", "value"] spRowE := ⟨f7, _, ok_row_error F7 T hMAX_CARS h_is_lane, PySem.W.mg_of X G a7, k7, b7⟩
  have h_is_row : Cal l.prog w K mg base 5 "is_row" ["rule", "value"] spIsRow := ⟨f8, _, ok_is_row F8 T h_row_error, PySem.W.mg_of X G a8, k8, b8⟩
  exact ok_law F22 T h__law_opened h__law_rule h__law_cars h__law_odd h__law_bent h__law_rules h__law_rule_fault h__law_row_fault h_rule_error h_is_rule h_row_error h_is_row
end Lr
open PySem PySem.W PyProof.Rows
set_option maxRecDepth 100000 in
set_option maxHeartbeats 0 in
theorem PySem.Challenge.cw_lanerules_k02_rules_and_rows_judged_holds : PySem.Challenge.rw_lanerules_k02_rules_and_rows_judged.Holds := by
  w_on; o_law; k_head; (case hw => w_witness2)
  k_fill
  refine Lr.walkG (l := PySem.Challenge.rw_lanerules_k02_rules_and_rows_judged) (n := 63) (k := 6) (x := "_law_script") (sp := fun w => Lr.spLaw _) rfl (by decide) rfl ⟨rfl, by decide, by decide⟩ (fun w h Y => PySem.W.kIn_of Y) ?F (fun w H a ns hl hS => ⟨a, ns, rfl, hS, hl, fun _ => rfl⟩)
  case F =>
    intro w mg fa h KX G hmg
    refine' Lr.all_mk KX G hmg ?a1 ?l1 ?c1 ?k1 ?a2 ?l2 ?c2 ?k2 ?a3 ?l3 ?c3 ?k3 ?a4 ?l4 ?c4 ?k4 ?a5 ?l5 ?c5 ?k5 ?a6 ?l6 ?c6 ?k6 ?a7 ?l7 ?c7 ?k7 ?a8 ?l8 ?c8 ?k8 ?a9 ?l9 ?c9 ?k9 ?a10 ?l10 ?c10 ?k10 ?a11 ?l11 ?c11 ?k11 ?a12 ?l12 ?c12 ?k12 ?a13 ?l13 ?c13 ?k13 ?a14 ?l14 ?c14 ?k14 ?a15 ?l15 ?c15 ?k15 ?a16 ?l16 ?c16 ?k16 ?a17 ?l17 ?c17 ?k17 ?a18 ?l18 ?c18 ?k18 ?a19 ?l19 ?c19 ?k19 ?a20 ?l20 ?c20 ?k20 ?a21 ?l21 ?c21 ?k21 ?a22 ?l22 ?c22 ?k22 ?zlen ?zrange ?ztuple ?zlist ?zabs ?zint ?zstr ?zbool ?zrepr ?zisinstance ?zenumerate ?zsorted ?zset ?zall ?zmin ?zmax ?zany ?zzip ?zsum ?zreversed ?qMAX_LANES ?qMAX_CARS
    (case a1 => k_is); (case l1 => k_is); (case c1 => k_is); (case k1 => k_is); (case a2 => k_is); (case l2 => k_is)
    (case c2 => k_is); (case k2 => k_is); (case a3 => k_is); (case l3 => k_is); (case c3 => k_is); (case k3 => k_is)
    (case a4 => k_is); (case l4 => k_is); (case c4 => k_is); (case k4 => k_is); (case a5 => k_is); (case l5 => k_is)
    (case c5 => k_is); (case k5 => k_is); (case a6 => k_is); (case l6 => k_is); (case c6 => k_is); (case k6 => k_is)
    (case a7 => k_is); (case l7 => k_is); (case c7 => k_is); (case k7 => k_is); (case a8 => k_is); (case l8 => k_is)
    (case c8 => k_is); (case k8 => k_is); (case a9 => k_is); (case l9 => k_is); (case c9 => k_is); (case k9 => k_is)
    (case a10 => k_is); (case l10 => k_is); (case c10 => k_is); (case k10 => k_is); (case a11 => k_is); (case l11 => k_is)
    (case c11 => k_is); (case k11 => k_is); (case a12 => k_is); (case l12 => k_is); (case c12 => k_is); (case k12 => k_is)
    (case a13 => k_is); (case l13 => k_is); (case c13 => k_is); (case k13 => k_is); (case a14 => k_is); (case l14 => k_is)
    (case c14 => k_is); (case k14 => k_is); (case a15 => k_is); (case l15 => k_is); (case c15 => k_is); (case k15 => k_is)
    (case a16 => k_is); (case l16 => k_is); (case c16 => k_is); (case k16 => k_is); (case a17 => k_is); (case l17 => k_is)
    (case c17 => k_is); (case k17 => k_is); (case a18 => k_is); (case l18 => k_is); (case c18 => k_is); (case k18 => k_is)
    (case a19 => k_is); (case l19 => k_is); (case c19 => k_is); (case k19 => k_is); (case a20 => k_is); (case l20 => k_is)
    (case c20 => k_is); (case k20 => k_is); (case a21 => k_is); (case l21 => k_is); (case c21 => k_is); (case k21 => k_is)
    (case a22 => k_is); (case l22 => k_is); (case c22 => k_is); (case k22 => k_is); (case zlen => k_is); (case zrange => k_is)
    (case ztuple => k_is); (case zlist => k_is); (case zabs => k_is); (case zint => k_is); (case zstr => k_is); (case zbool => k_is)
    (case zrepr => k_is); (case zisinstance => k_is); (case zenumerate => k_is); (case zsorted => k_is); (case zset => k_is); (case zall => k_is)
    (case zmin => k_is); (case zmax => k_is); (case zany => k_is); (case zzip => k_is); (case zsum => k_is); (case zreversed => k_is)
    (case qMAX_LANES => k_is); (case qMAX_CARS => k_is)
