import PyProof.Rows.All
import Wide.All
import OpenK.AllK
import Wide.FinOn
import PySem.Challenge.RW_matchgift_k01_rows_of_anything
import HandS.ForMost
import HandS.IsInst
import HandS.TupAny
import HandS.TupMul
import HandS.Wide
import HandS.Flow
import HandS.RaiseMore
import PyProof.ReprRoads
import KE.GoesNew
import KE.KTupSum
import HandS.Walk
set_option Elab.async false
set_option linter.all false
set_option maxRecDepth 100000
set_option maxHeartbeats 2000000
/-! MG: promises of defs that are called where no repr is under way, and repr of data by them. -/
namespace MG
open PySem PySem.Spec PyProof.Rows L2

structure FnG (P : Program) (w : World) (K : PySem.W.Frag) (mg : Str → Option Value) (base : Heap) (k : Nat)
    (f : Addr) (fd : FuncData) (ps : List Str) (sp : Sp) : Prop where
  len : ∀ vs H Q E, sp vs H Q E → vs.length = ps.length
  run : ∀ (A : Around) (outer : List Env) (s : Shared) (H : Hp) (args : Args) (us : List Value) (vs : List V) (Q : VK) (E : XK),
    A.guards = some [] → Room k A → Env0 P w K mg base A outer s H →
    BindsTo s fd args (ps.zip us) → Vals vs us → sp vs H Q E →
    codeAny (model P w) A (.call (.ref f) args) (CR CX0 outer P w H s Q E) s

section
variable {P : Program} {w : World} {K : PySem.W.Frag} {mg : Str → Option Value} {base : Heap}
theorem FnG.of {k : Nat} {f : Addr} {fd : FuncData} {ps : List Str} {sp : Sp}
    (F : FnOk P w K mg base CX0 k f fd ps sp) : FnG P w K mg base k f fd ps sp :=
  ⟨F.len, fun A outer s H args us vs Q E _ => F.run A outer s H args us vs Q E⟩

theorem okG {x qual : Str} {st : Stmt} {f : Addr} {fd : FuncData} {N ps : List Str} {k : Nat} {sp : Sp}
    (F : Fun K x qual st f fd) (S : FnScope N ps (defScope st))
    (hlen : ∀ vs H Q E, sp vs H Q E → vs.length = ps.length)
    (body : ∀ (cdv : Value) (A : Around) (outer : List Env) (s : Shared) (H : Hp) (vs : List V) (Q : VK) (E : XK),
      A.guards = some [] → Room k (A.deeper (envOfC qual (defScope st) s.heap.objs.size f cdv)) → sp vs H Q E →
      ∃ t, PSs (cxOf CX0 P w K mg base N qual (defScope st) f cdv A outer s H E).nox (defBody st) t ∧
        t { nx := fun _ H' => Q .non H', rt := Q } (start N vs) H) :
    FnG P w K mg base (k + 1) f fd ps sp := by
  obtain ⟨oc, od, kV, doc, pm, an, cdv, ct, osl, rfl, lk, hcd⟩ := F.ex
  refine ⟨hlen, ?_⟩
  intro A outer s H args us vs Q E gd room e0 bnd rel want
  have inK : K.In s.heap := e0.mod.kin.keeps (fun b o q => (e0.bs b o q).left)
  have noLim : s.heap.NoLimit := e0.mod.nolimit.keeps (fun b o q => (e0.bs b o q).left)
  refine codeAny_call_function room.depth (inK _ _ lk) rfl S.co S.gen rfl
    (PySem.W.codeRec_of inK hcd) (bnd _ _ _ _ ?_)
  refine wpAny_newFunctionEnv_cells S.kind ?_ ?_
  · rintro ⟨n, v⟩ hy
    rcases S.par n (List.of_mem_zip hy).1 with loc | cel
    · exact Or.inl loc
    · exact Or.inr ⟨cel, PySem.W.cellsFrom_some _ _ _ (Or.inl cel)⟩
  · intro env he s1 x
    subst he
    refine ⟨noLim.keeps x.toInCall.keep, codeAny_func ?_⟩
    obtain ⟨t, ht0, hq⟩ := body cdv A outer s H vs Q E gd (room.deeper _) want
    have ht := ht0.nox
    have I := inv_start (CX := CX0) (N := N) (qual := qual) (f := f) (cd := cdv) (E := E) S room.hd e0 (hlen _ _ _ _ want) rel x
    refine wpAny_mono (ht.run [] s1 (start N vs) H _ I hq) ?_ (fun _ _ z => z)
    intro fl s' hs
    cases fl with
    | ret u =>
      obtain ⟨v, σ', H', J, rv, q⟩ := hs
      exact ⟨v, H', J.os, J.bare, J.base, J.hok, rv, q⟩
    | next =>
      obtain ⟨σ', H', J, q⟩ := hs
      exact ⟨V.non, H', J.os, J.bare, J.base, J.hok, rfl, q⟩
    | brk =>
      obtain ⟨_, _, _, q⟩ := hs
      exact q.elim
    | cont =>
      obtain ⟨_, _, _, q⟩ := hs
      exact q.elim
end

section
variable {X : Cx} {k : Nat} {f : Addr} {fd : FuncData} {ps : List Str} {sp : Sp} {E : XK} {x : Str} {p pos : Pos}
  {e : Expr} {es : List Expr} {t : TA}
/-- f(e, ..) of such a def -/
theorem pe_callG (F : FnG X.prog X.w X.K X.mg X.base k f fd ps sp) (gd : X.A.guards = some []) (hr : Room k X.A) (hg : Gl X x)
    (hm : X.mg x = some (.ref f)) (hk : PySem.W.keepIn X.K (.ref f) = true) (hb : Binds X.K fd ps []) (ha : PA X (e :: es) t)
    (hdb : (x == ("__debug__" : Str)) = false := by decide)
    (he : starEach (e :: es) X.env = (false, eval e X.env) :: starEach es X.env := by rfl)
    (hpl : (backTo pos (starEach es X.env)).any (·.1) = false := by rfl) :
    PE X (.Call (.Name x p) (e :: es) [] pos) (tCall sp [] E t) := by
  constructor
  intro pins s σ H Q I h
  refine wpAny_Call_Name_kw (ld_glob I hg hm ?_ hdb)
  refine PySem.W.callWith_K (h₀ := X.base) I.ok.mod.kin hk ?_ he hpl
  refine thn (ha.run pos pins s σ H _ I h) ?_
  rintro us s1 ⟨vs, H1, I1, r, q⟩
  refine ⟨I1.kIn, ?_⟩
  have q' : sp (vs ++ []) H1 Q E := q
  rw [List.append_nil] at q'
  have hl : us.length = ps.length := by
    rw [← r.length]
    exact F.len _ _ _ _ q'
  have hb' := hb s1 us I1.kIn (by simpa using hl)
  rw [List.append_nil] at hb'
  refine wpAny_call (codeAny_mono (F.run X.A X.stack s1 H1 ⟨us, []⟩ us vs Q E gd hr I1.env0 hb' r q') ?_)
  intro res s' hq
  cases res with
  | error e => exact False.elim hq
  | ok fl =>
    cases fl with
    | ret u => exact I1.after hq
    | next => exact False.elim hq
    | brk => exact False.elim hq
    | cont => exact False.elim hq
end
end MG

namespace MG
open PySem PySem.Spec PyProof.Rows L2

def SysD (h : Heap) : Prop := ∃ mm, h.Ns sysModules mm
theorem lawG {P : Program} {w : World} {K : PySem.W.Frag} {mg mb : Str → Option Value} {k : Nat} {fa a : Addr} {fd : FuncData} {x : Str}
    {sp : Sp} {s₁ : Shared} {vs : List Value} {ns : List Int}
    (KX : K.In s₁.heap) (hns : s₁.heap.Ns mainGlobals mg) (hb : s₁.heap.Ns builtinsNs mb)
    (hbb : ∀ x : Str, x ≠ "__name__" → mb x = bootBuiltins x) (hlim : s₁.heap.NoLimit) (hsys : SysD s₁.heap) (hg : s₁.gens = #[])
    (ha : s₁.heap.get? a = some { cls := .type "list", data := .seq vs.toArray }) (hi : IntsAre vs ns)
    (hl : ns.length ≤ sizeLine) (hr : Room k callerA)
    (F : ∀ base : Heap, K.In base → base.Ns mainGlobals mg → SysD base → FnG P w K mg base k fa fd [x] sp)
    (hbind : ∀ (s : Shared) (u : Value), BindsTo s fd ⟨[u], []⟩ [(x, u)])
    (hsp : ∀ H : Hp, Only H → SqL K H a (ns.map V.int) → sp [.ref a] H (fun v _ => v = .bl true) fun _ _ _ => False) :
    codeAny (model P w) callerA (.call (.ref fa) ⟨[.ref a], []⟩)
      (fun r s' => r = .ok (.ret (.bool true)) ∧ OldK s₁.heap s'.heap ∧ s'.os = s₁.os ∧ AllBare s'.gens) s₁ := by
  have rels := vals_ints hi
  have sizes := hi.length
  have go : ∀ H : Hp, Only H → SqL K H a (ns.map V.int) → HOk P w H s₁.heap → (∀ b, H b ≠ none → b = a) →
      (H a ≠ none → K.lookup a = none) →
      codeAny (model P w) callerA (.call (.ref fa) ⟨[.ref a], []⟩)
        (fun r s' => r = .ok (.ret (.bool true)) ∧ OldK s₁.heap s'.heap ∧ s'.os = s₁.os ∧ AllBare s'.gens) s₁ := by
    intro H only sq ok justA noK
    have dictFree : ∀ {b : Addr} {o : Obj} {es : Array DictEntry} {ep : Nat}, s₁.heap.get? b = some o → o.data = .dict es ep → H b = none := by
      intro b o es ep hget hdat
      cases hH : H b with
      | none => rfl
      | some u =>
        obtain rfl : b = a := justA b (by rw [hH]; exact fun z => nomatch z)
        rw [ha] at hget
        cases hget
        exact (nomatch (show Data.seq vs.toArray _ = Data.dict es ep from hdat))
    have nsHid : ∀ {b : Addr} {m : Str → Option Value}, s₁.heap.Ns b m → (hidT s₁.heap H).Ns b m := by
      rintro b m ⟨o, es, ep, h1, h2, h3⟩
      exact ⟨o, es, ep, hidT_get h1 (dictFree h1 h2), h2, h3⟩
    have kHid : K.In (hidT s₁.heap H) := by
      intro b o look
      refine hidT_get (KX b o look) ?_
      cases hH : H b with
      | none => rfl
      | some u =>
        obtain rfl : b = a := justA b (by rw [hH]; exact fun z => nomatch z)
        have z := noK (by rw [hH]; exact fun z => nomatch z)
        rw [z] at look
        cases look
    have modl : Mod K mg (hidT s₁.heap H) := by
      obtain ⟨mc, l1, l2⟩ := hlim
      exact ⟨kHid, nsHid hns, ⟨mb, nsHid hb, hbb⟩, ⟨mc, nsHid l1, l2⟩⟩
    have e0 : Env0 P w K mg (hidT s₁.heap H) callerA [] s₁ H :=
      { frames := rfl
        mod := modl
        bs := fun b o q => of_hidT q
        bsz := Nat.le_of_eq (hidT_size _ _)
        funs := trivial
        frf := fun b hb => absurd (show b ∈ ([] : List Addr) from hb) List.not_mem_nil
        hok := ok
        bare := .of_eq hg }
    refine codeAny_mono ((F _ kHid (nsHid hns) (let ⟨mm, q⟩ := hsys; ⟨mm, nsHid q⟩)).run callerA [] s₁ H ⟨[.ref a], []⟩ [.ref a] [.ref a] _ _ rfl hr e0
      (hbind s₁ (.ref a)) (.cons rfl .nil) (hsp H only sq)) ?_
    intro r s' h
    cases r with
    | error e => exact False.elim h
    | ok fl =>
      cases fl with
      | next => exact False.elim h
      | brk => exact False.elim h
      | cont => exact False.elim h
      | ret u =>
        obtain ⟨v, H', hos, hbare, un, ok', rel, q⟩ := h
        obtain rfl : v = .bl true := q
        obtain rfl : u = Value.bool true := rel
        refine ⟨rfl, OldK.of_keep ?_, hos, hbare⟩
        intro b o hget
        rcases only b with hn | ⟨ob, xs, hf⟩
        · exact un.keep b o hget hn (fun z => absurd (show b ∈ ([] : List Addr) from z) List.not_mem_nil) List.not_mem_nil
        · have q1 := (ok b _ hf).1
          have q2 := (ok' b _ (un.frzs b ob _ hf)).1
          rw [hget] at q1
          cases q1
          exact q2
  cases hk : K.lookup a with
  | none =>
    let ob : Obj := { cls := .type "list", data := .seq vs.toArray }
    let H : Hp := fun b => if b = a then some (.frz ob (.lst (ns.map V.int))) else none
    have atA : H a = some (.frz ob (.lst (ns.map V.int))) := if_pos rfl
    have off : ∀ b, b ≠ a → H b = none := fun b hb => if_neg hb
    refine go H ?_ (.inl (.inr ⟨ob, atA⟩)) ?_ ?_ (fun _ => hk)
    · intro b
      by_cases hb : b = a
      · subst hb; exact .inr ⟨_, _, atA⟩
      · exact .inl (off b hb)
    · intro b u z
      by_cases hb : b = a
      · subst hb
        rw [atA] at z
        cases z
        exact ⟨ha, by rw [List.length_map]; exact hl, vs, _, rels, ha⟩
      · rw [off b hb] at z
        cases z
    · intro b z
      by_cases hb : b = a
      · exact hb
      · exact absurd (off b hb) z
  | some o =>
    have e := KX a o hk
    rw [ha] at e
    cases e
    exact go (fun _ => none) (fun _ => .inl rfl)
      (.inr ⟨_, vs.toArray, _, hk, rfl, rfl, rfl, by rw [List.size_toArray, sizes]; exact hl, by simpa using rels⟩)
      (fun b u z => nomatch (show (none : Option HO) = some u from z)) (fun b z => absurd rfl z) (fun z => absurd rfl z)

theorem walkG {l : PySem.W.OpenLaw} {n k : Nat} {q : Program} {loose : List Str} {XP : (Str → Option Value) → Heap → Prop}
    {YP : World → Heap → Prop} {d : DefRec} {K : Params → PySem.W.Frag} {sp : PySem.W.Frag → Sp} {x : Str}
    (hn : l.most = some n) (hn2 : n ≤ sizeLine) (hdf : d.params.defaults = []) (hr : Room k callerA) (hq : importsNone q = true)
    (hY : ∀ (w : World) (h : Heap), YP w h → (K w.params).In h)
    (F : ∀ (w : World) (mg : Str → Option Value) (fa : Addr) (h : Heap), (K w.params).In h → h.Ns mainGlobals mg → mg d.name = some (.ref fa) →
      ∃ fd : FuncData, (∀ (s : Shared) (u : Value), BindsTo s fd ⟨[u], []⟩ [(x, u)]) ∧
        ∀ base : Heap, (K w.params).In base → base.Ns mainGlobals mg → SysD base → FnG l.prog w (K w.params) mg base k fa fd [x] (sp (K w.params)))
    (hsp : ∀ (K : PySem.W.Frag) (H : Hp) (a : Addr) (ns : List Int), ns.length ≤ n → Only H → SqL K H a (ns.map V.int) →
      sp K [.ref a] H (fun v _ => v = .bl true) fun _ _ _ => False) :
    PySem.W.WalkO q loose XP YP l.row.toRowW d [] (fun f vs => PySem.call f vs) := by
  refine Att.attach_call hn hdf ?_
  intro w s₀ s₁ mg mb fa o pm cd doc a vs ns G Y _ _ _ hmg hobj hints hlen hg
  have KX := hY w _ Y
  obtain ⟨fd, hbd, hF⟩ := F w mg fa _ KX G.T.g hmg
  exact lawG KX G.T.g G.T.b G.T.builtins G.T.nolimit (let ⟨mm, q, _⟩ := (G.T.seer hq).mods; ⟨mm, q⟩) hg hobj hints (Nat.le_trans hlen hn2) hr hF hbd
    (fun H hO hS => hsp _ H a ns hlen hO hS)
end MG

namespace MG
open PySem PySem.Spec PyProof.Rows L2

/-- behind enumerate(v): v's iterator, and who counts beside it -/
abbrev counts (g : Heap) (o : Obj) : Heap :=
  (g.push o).push { cls := .type "enumerate", data := .fields #[.none, .bool false, .ref g.objs.size, rawInt 0, .none, .none] }
theorem counts_new {v : Value} {o : Obj} {S : Heap → Prop} (B : Begins v o S) :
    PySem.Meets (Builtin.«enumerate.__new__» ⟨[.type "enumerate", v], []⟩) (fun _ R s =>
      S s.heap ∧ R (.ok (.ret (.ref (s.heap.push o).objs.size))) { s with heap := counts s.heap o }) := by
  refine .of_wp fun prog w A R s want => ?_
  obtain ⟨g, gens, drawn, tk, os⟩ := s
  have own := sub_enumerate
  have begun : ∀ {A' : Around} {Q E' : Value → Shared → Prop}, Q (.ref g.objs.size) ⟨g.push o, gens, drawn, tk, os⟩ →
      wpAny (model prog w) A' (pyIter v) Q E' ⟨g, gens, drawn, tk, os⟩ := fun q => B.iter _ _ _ _ _ _ want.1 q
  wp_walk using begun
  refine wpAny_stack_any fun top => wpAny_pure ?_
  split
  case h_1 c _ _ _ _ _ =>
    cases c == Value.type "enumerate" <;> (wp_walk using begun; exact ⟨_, rfl, want.2⟩)
  case h_2 =>
    wp_walk using begun
    exact ⟨_, rfl, want.2⟩
theorem counts_call {prog : Program} {w : World} {A : Around} {E : Value → Shared → Prop} {s : Shared} {v : Value} {o : Obj} {S : Heap → Prop}
    {Q : Value → Shared → Prop} (B : Begins v o S) (ready : S s.heap)
    (next : ∀ g, IsEnum g (s.heap.objs.size + 1) s.heap.objs.size 0 .none → g.get? s.heap.objs.size = some o →
      (∀ b u, s.heap.get? b = some u → g.get? b = some u) → Q (.ref (s.heap.objs.size + 1)) { s with heap := g }) :
    wpAny (model prog w) A (call (.type "enumerate") [v]) Q E s := by
  have up : (s.heap.push o).objs.size = s.heap.objs.size + 1 := Heap.size_push ..
  have first : (counts s.heap o).get? s.heap.objs.size = some o := Heap.get?_push_of_some _ (Heap.get?_push_size _ B.free)
  have second : (counts s.heap o).get? (s.heap.push o).objs.size = _ := Heap.get?_push_size _ rfl
  have rest : ∀ b u, s.heap.get? b = some u → (counts s.heap o).get? b = some u := fun _ _ at_ =>
    Heap.get?_push_of_some _ (Heap.get?_push_of_some _ at_)
  rw [up] at second
  refine callType_new F.called_enumerate (by decide) (F.typeCall_enumerate_1 v) (F.newCall_enumerate_1 v)
    (fun obj => F.args_object_init_2 obj v) F.entry_enumerate_new (counts_new B) ⟨ready, ?_⟩
  rw [up]
  exact ⟨⟨_, second, rfl⟩, next _ second first rest⟩
/-! ### walks that tell a new tuple each time -/
theorem not_tuple {g : Heap} {b c : Addr} {o : Obj} {items : Array Value} (t : IsTup g b items) (at_ : g.get? c = some o) (cls : o.cls ≠ .type "tuple") : b ≠ c := by
  obtain ⟨u, here, k, _⟩ := t
  intro e
  rw [e, at_] at here
  exact cls (by rw [Option.some.inj here]; exact k)
section told
variable {X : Cx} {pins : List (Addr × Obj)} {σ : L2.St} {H : Hp} {s : Shared} {ours : List Addr} {g : Heap} {tk : Nat}
/-- behind a walk's step: the tuple at T is new, our own objects are still nobody's -/
theorem told_new {T : Addr} {xs : List V} {us : List Value} (I : Inv X pins σ H s) (own : ∀ b ∈ ours, FpOk X pins H b)
    (live : ∀ b ∈ ours, ∃ o, s.heap.get? b = some o) (off : ∀ b o, b ∉ ours → s.heap.get? b = some o → g.get? b = some o)
    (new : s.heap.objs.size ≤ T) (made : IsTup g T us.toArray) (rel : Vals xs us) (few : xs.length ≤ sizeLine) :
    Inv X pins σ (upd H T (.tup xs)) { s with heap := g, toks := tk } ∧ H T = none ∧ ∀ b ∈ ours, upd H T (.tup xs) b = none :=
  ⟨I.turnedNew off own new ⟨few, us, rel, made⟩, I.hok.fresh new, fun b hb => by
    obtain ⟨o, at_⟩ := live b hb
    rw [upd_ne (Nat.ne_of_lt (Nat.lt_of_lt_of_le (Heap.lt_size at_) new))]
    exact (own b hb).1⟩
end told

/-! ### enumerate of a tuple -/
def IteT (K : PySem.W.Frag) (a : Addr) : It :=
  ⟨fun i H => ∃ (xs : List V) (x : V), SqT K H a xs ∧ xs[i]? = some x,
   fun i H v H' => ∃ T x, v = .ref T ∧ H T = none ∧ H' = upd H T (.tup [.int (i : Nat), x]) ∧ ∀ xs, SqT K H a xs → xs[i]? = some x,
   fun i H => ∃ xs : List V, SqT K H a xs ∧ xs.length = i⟩
/-- who counts at e, over the iterator at t of the tuple at a, i told -/
def EnT (a e t : Addr) (i : Nat) (g : Heap) : Prop := (∃ old, IsEnum g e t (i : Nat) old) ∧ g.IsTupleIter t a i ∧ e ≠ t
theorem EnT.live {a e t : Addr} {i : Nat} {g : Heap} (st : EnT a e t i g) : ∀ b ∈ [e, t], ∃ o, g.get? b = some o ∧ ∀ v, o.data ≠ .cell v := by
  obtain ⟨⟨old, he⟩, ⟨o, ho, _, dat⟩, _⟩ := st
  intro b hb
  cases hb with
  | head => exact ⟨_, he, fun v z => nomatch z⟩
  | tail _ hb =>
    obtain rfl := List.mem_singleton.mp hb
    exact ⟨o, ho, fun v z => nomatch (show Data.fields _ = Data.cell v from dat.symm.trans z)⟩
theorem turn_enumT {P : Program} {w : World} {K : PySem.W.Frag} {elts : List Expr} {kk : Nat} {tpos : Pos} (a e t : Addr) :
    Turn P w K (.Tuple elts kk tpos) (IteT K a) [e, t] e (EnT a e t) where
  mem := List.mem_cons_self
  obj := fun _ _ st => st.live
  keep := fun i g g' ⟨⟨old, he⟩, ht, ne⟩ k => ⟨⟨old, k e List.mem_cons_self _ he⟩, ht.at fun o => k t (List.mem_cons_of_mem _ List.mem_cons_self) o, ne⟩
  self := fun A i s Q E st q => by
    obtain ⟨⟨old, he⟩, _⟩ := st
    exact wpAny_pyIter_enum he q
  item := by
    intro X hP hw hK calm i pins s σ H E I own st go
    subst hP hw hK
    obtain ⟨xs, x, hq, hx⟩ := go
    obtain ⟨us, rel, tup, _⟩ := I.tuple hq
    obtain ⟨u, hu, ru⟩ := rel.get hx
    have live := st.live
    obtain ⟨⟨old, he⟩, ht, ne⟩ := st
    have at_ : a ≠ t := by
      obtain ⟨o, ho, cls, _⟩ := id ht
      exact not_tuple tup ho (by rw [cls]; decide)
    have ae : e ∉ [t, a] := by
      intro z
      cases z with
      | head => exact ne rfl
      | tail _ z => exact not_tuple tup he (by show Value.type "enumerate" ≠ .type "tuple"; decide) (List.mem_singleton.mp z).symm
    have walk := GoesN.enumFrom (elts := elts) (x1 := kk) (pos := tpos) 0
      (Draws.tuple (prog := X.prog) (w := X.w) (A := X.A.in1) (I.ok.hd calm) t a at_ us.toArray) e ne ae List.mem_cons_self
    refine walk.goes i s (fun v s2 => ∃ y H', Inv X pins σ H' s2 ∧ RelV y v ∧ (IteT X.K a).yld i H y H' ∧ EnT a e t (i + 1) s2.heap ∧ ∀ b ∈ [e, t], H' b = none) E
      ?_ ⟨⟨old, by rw [Int.zero_add]; exact he⟩, ht, tup⟩ ?_
    · rw [List.size_toArray]
      exact (List.getElem?_eq_some_iff.mp hu).1
    · rintro v g tk ⟨T, tok, y, rfl, new, hy, made⟩ ⟨⟨old2, he2⟩, ht2, _⟩ off _
      obtain rfl : y = u := Option.some.inj (by rw [← hu, ← hy, List.getElem?_toArray])
      rw [Int.zero_add] at made he2
      obtain ⟨J, free, none_⟩ := told_new (tk := tk) (xs := [.int (i : Nat), x]) (us := [.int i tok, y]) I own (fun b hb => let ⟨o, q, _⟩ := live b hb; ⟨o, q⟩) off new made
        (.cons ⟨tok, rfl⟩ (.cons ru .nil)) (by show 2 ≤ sizeLine; decide)
      exact ⟨.ref T, _, J, rfl, ⟨T, x, rfl, free, rfl, fun ys hy => by rw [I.tuple_inj hy hq]; exact hx⟩, ⟨⟨old2, he2⟩, ht2, ne⟩, none_⟩
  done := by
    intro X hP hw hK calm i pins s σ H E I own st go
    subst hP hw hK
    obtain ⟨xs, hq, rfl⟩ := go
    obtain ⟨us, rel, tup, _⟩ := I.tuple hq
    obtain ⟨⟨old, he⟩, ht, ne⟩ := st
    have at_ : a ≠ t := by
      obtain ⟨o, ho, cls, _⟩ := id ht
      exact not_tuple tup ho (by rw [cls]; decide)
    have ae : e ∉ [t, a] := by
      intro z
      cases z with
      | head => exact ne rfl
      | tail _ z => exact not_tuple tup he (by show Value.type "enumerate" ≠ .type "tuple"; decide) (List.mem_singleton.mp z).symm
    have walk := GoesN.enumFrom (elts := elts) (x1 := kk) (pos := tpos) 0
      (Draws.tuple (prog := X.prog) (w := X.w) (A := X.A.in1) (I.ok.hd calm) t a at_ us.toArray) e ne ae List.mem_cons_self
    have len : us.toArray.size = xs.length := by rw [List.size_toArray, rel.length]
    refine walk.stops s (fun s' => Inv X pins σ H s') E (by rw [len]; exact ⟨⟨old, by rw [Int.zero_add]; exact he⟩, ht, tup⟩) fun g tk off _ => I.turnedL (t' := tk) off own

def iEnumT (K : PySem.W.Frag) (ta : TA) : TI := fun σ H R => ta σ H fun vs H1 => ∃ a xs, vs = [.ref a] ∧ SqT K H1 a xs ∧ R (IteT K a) H1
theorem pi_enumT {X : Cx} {e : Expr} {ta : TA} {p pos tpos : Pos} {elts : List Expr} {kk : Nat} (hg : Gl X "enumerate")
    (hm : X.mg "enumerate" = none) (ha : PA X [e] ta) (hs : starEach [e] X.env = [(false, eval e X.env)] := by rfl) :
    PI X (.Tuple elts kk tpos) (.Call (.Name "enumerate" p) [e] [] pos) (iEnumT X.K ta) := by
  refine ⟨fun pins s σ H R I want => Call_ (ld_blt I hg hm boot_enumerate (PyProof.Rows.callWith_type1 (thn (ha.run pos pins s σ H _ I want) ?_) hs rfl))⟩
  rintro us s1 ⟨vs, H1, I1, rel, a, xs, rfl, hq, go⟩
  obtain rfl := rel.ref1
  obtain ⟨its, _, tup, _⟩ := I1.tuple hq
  refine counts_call (begins_tuple a its.toArray) tup fun g he ht up => wpAny_pyIter_enum he ?_
  have new : ∀ b ∈ [s1.heap.objs.size + 1, s1.heap.objs.size], s1.heap.objs.size ≤ b := by
    intro b hb
    simp only [List.mem_cons, List.not_mem_nil, or_false] at hb
    omega
  exact ⟨_, _, _, _, H1, rfl, I1.kept (t' := s1.toks) up, turn_enumT a (s1.heap.objs.size + 1) s1.heap.objs.size,
    ⟨⟨_, he⟩, ⟨_, ht, rfl, rfl⟩, Nat.succ_ne_self _⟩, fun b hb => I1.fpOk (new b hb) (I1.hok.fresh (new b hb)), go⟩
theorem walk_enumT {K : PySem.W.Frag} {a : Addr} {xs : List V} :
    Walk (IteT K a) xs.length (fun H => SqT K H a xs) (YPair (fun i => some (.int (i : Nat))) (fun i => xs[i]?)) := by
  refine ⟨fun i H lt q => ⟨xs, xs[i], q, List.getElem?_eq_getElem lt⟩, fun H q => ⟨xs, q, rfl⟩, ?_⟩
  rintro i H v H' _ q ⟨T, x, e, free, next, is⟩
  exact ⟨T, .int (i : Nat), x, e, free, next, rfl, is xs q⟩

/-! ### sum of a tuple of whole numbers -/
theorem sumT {X : Cx} (hc : X.calm = true) : CallR X (.builtin "sum") (fun vs H Q => ∃ (a : Addr) (ns : List Int),
    vs = [V.ref a] ∧ SqT X.K H a (ns.map V.int) ∧ Q (.int ns.sum) H) := by
  rintro pins s σ H xs us Q I r ⟨a, ns, rfl, hq, q⟩
  obtain rfl := r.ref1
  obtain ⟨its, rv, p, hz⟩ := I.tuple hq
  have hi : IntsAre its ns := rv.ints
  obtain ⟨ys, hy⟩ := hi.allInts.items
  have hn : numsOf its.toArray.toList = ns := by
    rw [show its.toArray.toList = its from rfl, hi.numsOf]
  have p' : s.heap.IsTuple a its.toArray := p
  rw [hy] at p' hn
  rw [nums_intItems] at hn
  refine PySem.W.ktm_sumG (I.ok.hd hc) p' ?_
  intro h' tk t' hk
  have e : preSum (numAt ys) ys.size = ns.sum := by
    rw [preSum_eq, List.take_of_length_le (by simp), hn]
  rw [e]
  exact ⟨.int ns.sum, H, I.kept hk, ⟨t', rfl⟩, q⟩

/-! ### a text so many times -/
def repText (z : Str) (n : Nat) : Str := ⟨(List.replicate n z.cps).foldl (· ++ ·) #[]⟩
theorem repS {X : Cx} : OpR X (binaryOp .Mult) (fun x y H Q => ∃ (z : Str) (n : Int), x = .str z ∧ y = .int n ∧ 2 ≤ n ∧ n ≤ 1000 ∧
    z.length = 1 ∧ (repText z n.toNat).length ≤ sizeLine ∧ Q (.str (repText z n.toNat)) H) := by
  rintro pins s σ H x y v u Q I rx ry ⟨z, n, rfl, rfl, h1, h2, hz, hs, q⟩
  obtain ⟨t, rfl⟩ := rx
  obtain ⟨t2, rfl⟩ := ry
  have c1 : ¬ n < 1 := by omega
  have c2 : (n == 1 || z.length == 0) = false := by
    rw [hz, show (n == 1) = false from beq_eq_false_iff_ne.mpr (by omega)]
    rfl
  refine PySem.P.mul_str ?_ ?_ ?_ ?_
  · rw [decide_eq_false (show ¬ n < -(2 ^ 63 : Int) by omega), decide_eq_false (show ¬ n ≥ 2 ^ 63 by omega)]
    rfl
  · intro _ _
    rw [hz]
    have : (1 : Int) ≤ (2 ^ 63 - 1) / n := by
      refine (Int.le_ediv_iff_mul_le (by omega)).mpr ?_
      omega
    omega
  · intro _ _
    show decide (z.length * n.toNat > sizeLine) = false
    rw [hz]
    refine decide_eq_false ?_
    rw [sizeLine_eq]
    omega
  · rw [if_neg c1, if_neg (by rw [c2]; exact Bool.false_ne_true)]
    exact ⟨hs, .str _, H, I.tok _, ⟨_, rfl⟩, q⟩

/-! ### a tuple so many times, once and never, too -/
theorem mulT_same (l : Addr) (items : Array Value) (n : Nat) (dd : Option Addr) (sl : Array (Option Value)) (x : Int) (u : Tok)
    (c1 : (items.isEmpty || x == 1) = true) (c0 : (decide (x < -(2 ^ 63)) || decide (x ≥ 2 ^ 63)) = false) :
    Meets (Builtin.«tuple.__mul__» ⟨[.ref l, .int x u], []⟩) (fun _ R s => s.heap.get? l = some { cls := .type "tuple", dict := dd, data := .seq items n, slots := sl } ∧
      R (.ok (.ret (Value.ref l))) s) :=
  .of_wp fun prog w A R s h => by
    obtain ⟨hp, g, d, tk, os⟩ := s
    obtain ⟨hl, h⟩ := h
    have f1 := AutoSeq1.idx_int
    wp_walk using AutoSeq1.wpAny_loadPart' hl
    repeat (first
      | (refine wpAny_ite_false (decide_eq_false (by rw [c0]; exact Bool.false_ne_true)) ?_; wp_walk using AutoSeq1.wpAny_loadPart' hl)
      | (refine wpAny_ite_true (decide_eq_true (by rw [c1])) ?_; wp_walk using AutoSeq1.wpAny_loadPart' hl))
    exact ⟨_, rfl, h⟩
end MG

namespace MG
open PySem PySem.Spec PyProof.Rows L2

theorem mulT_none (l : Addr) (items : Array Value) (n : Nat) (dd : Option Addr) (sl : Array (Option Value)) (u : Tok)
    (c1 : items.isEmpty = false) :
    Meets (Builtin.«tuple.__mul__» ⟨[.ref l, .int 0 u], []⟩) (fun _ R s =>
      s.heap.get? l = some { cls := .type "tuple", dict := dd, data := .seq items n, slots := sl } ∧
      R (.ok (.ret (Value.ref s.heap.objs.size))) { s with heap := s.heap.push { cls := Value.type "tuple", data := Data.seq #[] }, toks := s.toks }) :=
  .of_wp fun prog w A R s h => by
    obtain ⟨hp, g, d, tk, os⟩ := s
    obtain ⟨hl, h⟩ := h
    have f1 := AutoSeq1.idx_int
    have c2 : (items.isEmpty || (0 : Int) == 1) = false := by rw [c1]; rfl
    have c3 : (decide ((0 : Int) ≤ 0) || items.isEmpty) = true := rfl
    wp_walk using AutoSeq1.wpAny_loadPart' hl
    repeat (first
      | (refine wpAny_ite_false (decide_eq_false (by rw [c2]; exact Bool.false_ne_true)) ?_; wp_walk using AutoSeq1.wpAny_loadPart' hl)
      | (refine wpAny_ite_true (decide_eq_true (by rw [c3])) ?_; wp_walk using AutoSeq1.wpAny_loadPart' hl))
    exact ⟨_, rfl, h⟩

def rRepA (K : PySem.W.Frag) : R2 := fun x y H Q => ∃ l k xs, x = .ref l ∧ y = .int k ∧ SqT K H l xs ∧ xs ≠ [] ∧ 0 ≤ k ∧ k ≤ 1000 ∧
  xs.length ≤ 1000 ∧ (k = 1 → Q (.ref l) H) ∧ (k ≠ 1 → ∀ p, H p = none → Q (.ref p) (upd H p (.tup (List.replicate k.toNat xs).flatten)))
theorem op_repA {X : Cx} : OpR X (binaryOp .Mult) (rRepA X.K) := by
  rintro pins s σ H x y v u Q I rx ry ⟨l, k, xs, rfl, rfl, hT, hne, h1, h2, hz, q1, q2⟩
  by_cases hk : 2 ≤ k
  · exact op_repT pins s σ H _ _ v u Q I rx ry ⟨l, k, xs, rfl, rfl, hT, hne, hk, h2, hz, q2 (by omega)⟩
  · cases rx
    obtain ⟨t, rfl⟩ := ry
    obtain ⟨its, r, ⟨⟨cls, dd, data, sl⟩, ho, hc, n, hd⟩, hs⟩ := I.tuple hT
    simp only at hc hd
    subst hc hd
    have hi : its.toArray.isEmpty = false := by
      cases its with
      | nil =>
        have := r.length
        exact absurd (List.eq_nil_of_length_eq_zero this) hne
      | cons a b => rfl
    have ty : ∀ s' : Shared, s'.TypeIs (.int k t) "int" := fun s' => typeIs_int s' k t
    by_cases hk1 : k = 1
    · refine wpAny_binaryOp_repeat_ref (T := "tuple") (U := "int") (by decide) ⟨_, ho, rfl⟩ ty noFill_tuple_mul F.fills_int_mul
        F.slot_int_rmul repeat_tuple F.slot_int_index.lookup ?_
      refine call_meets F.slot_int_rmul (typeIs_int s k t) F.entry_int_rmul (F.args_int_rmul_2 _ _)
        (int_rmul_tuple k t l its.toArray n dd sl) ⟨ho, rfl, ⟨_, ho, rfl⟩, ?_⟩
      refine call_meets F.slot_tuple_mul ⟨_, ho, rfl⟩ F.entry_tuple_mul (F.args_tuple_mul_2 _ _)
        (mulT_same l its.toArray n dd sl k t (by rw [hk1, hi]; rfl) ?_) ⟨ho, ?_⟩
      · rw [decide_eq_false (show ¬ k < -(2 ^ 63 : Int) by omega), decide_eq_false (show ¬ k ≥ 2 ^ 63 by omega)]
        rfl
      · exact ⟨.ref l, H, I, rfl, q1 hk1⟩
    · have hk0 : k = 0 := by omega
      subst hk0
      refine wpAny_binaryOp_repeat_ref (T := "tuple") (U := "int") (by decide) ⟨_, ho, rfl⟩ ty noFill_tuple_mul F.fills_int_mul
        F.slot_int_rmul repeat_tuple F.slot_int_index.lookup ?_
      refine call_meets F.slot_int_rmul (typeIs_int s 0 t) F.entry_int_rmul (F.args_int_rmul_2 _ _)
        (int_rmul_tuple 0 t l its.toArray n dd sl) ⟨ho, rfl, ⟨_, ho, rfl⟩, ?_⟩
      refine call_meets F.slot_tuple_mul ⟨_, ho, rfl⟩ F.entry_tuple_mul (F.args_tuple_mul_2 _ _)
        (mulT_none l its.toArray n dd sl t hi) ⟨ho, ?_⟩
      refine ⟨.ref s.heap.objs.size, _, I.laid (t' := s.toks) (o := .tup []) (fun b ob q => Heap.get?_push_of_some _ q)
        (Nat.le_refl _) ?_, rfl, q2 hk1 _ (I.hok.fresh (Nat.le_refl _))⟩
      exact ⟨Nat.zero_le _, [], .nil, IsTup.new _ _⟩

/-! ### data: None, truths, whole numbers, texts, lists, tuples, dicts with text keys -/
def kD : Key → PyData
  | .inl i => .int i
  | .inr x => .str x
mutual
inductive Dd (H : Hp) : V → PyData → Prop
  | non : Dd H .non .none
  | bl (b : Bool) : Dd H (.bl b) (.bool b)
  | int (i : Int) : Dd H (.int i) (.int i)
  | str (x : Str) : Dd H (.str x) (.str x)
  | lst {a : Addr} {xs : List V} {ds : List PyData} : H a = some (.lst xs) → DdAll H xs ds → Dd H (.ref a) (.list ds)
  | tup {a : Addr} {xs : List V} {ds : List PyData} : H a = some (.tup xs) → DdAll H xs ds → Dd H (.ref a) (.tuple ds)
  | dic {a : Addr} {kvs : List (Key × V)} {ds : List PyData} : H a = some (.dK kvs) → DdAll H (kvs.map (·.2)) ds →
      Dd H (.ref a) (.dict ((kvs.map fun p => kD p.1).zip ds))
inductive DdAll (H : Hp) : List V → List PyData → Prop
  | nil : DdAll H [] []
  | cons {v : V} {vs : List V} {d : PyData} {ds : List PyData} : Dd H v d → DdAll H vs ds → DdAll H (v :: vs) (d :: ds)
end
theorem DdAll.length {H : Hp} : ∀ {vs : List V} {ds : List PyData}, DdAll H vs ds → ds.length = vs.length
  | [], _, h => by cases h; rfl
  | v :: vs, _, h => by
    cases h with
    | cons _ t => rw [List.length_cons, List.length_cons, t.length]

mutual
theorem Dd.same {H H' : Hp} (s : Same H H') : ∀ {v : V} {d : PyData}, Dd H v d → Dd H' v d
  | _, _, .non => .non
  | _, _, .bl b => .bl b
  | _, _, .int i => .int i
  | _, _, .str x => .str x
  | _, _, .lst e r => .lst (s _ _ e) (DdAll.same s r)
  | _, _, .tup e r => .tup (s _ _ e) (DdAll.same s r)
  | _, _, .dic e r => .dic (s _ _ e) (DdAll.same s r)
theorem DdAll.same {H H' : Hp} (s : Same H H') : ∀ {vs : List V} {ds : List PyData}, DdAll H vs ds → DdAll H' vs ds
  | _, _, .nil => .nil
  | _, _, .cons a b => .cons (Dd.same s a) (DdAll.same s b)
end

section
variable {X : Cx} {pins : List (Addr × Obj)} {σ : L2.St} {H : Hp} {s : Shared}
theorem key_read {P : Program} {w : World} {h : Heap} {k : Key} {v : Value} (e : (mixKind P w).is k v = true) : Reads h v (kD k) [] := by
  rcases keyIs_shape (show keyIs k v = true from e) with ⟨i, t, rfl, rfl⟩ | ⟨x, t, rfl, rfl⟩
  · exact .int i t
  · exact .str x t
theorem pairs_read {P : Program} {w : World} {h : Heap} : ∀ {es : List DictEntry} {vs : List (Key × Value)} {kvs : List (Key × V)},
    Pairs (mixKind P w) es vs → KV kvs vs →
    ReadsAll h (es.map (·.key)) (kvs.map fun p => kD p.1) [] ∧ es.map (·.val) = vs.map (·.2) ∧ Vals (kvs.map (·.2)) (vs.map (·.2))
  | _, _, _, .nil, .nil => ⟨.nil, rfl, .nil⟩
  | _, _, _, .cons h1 h2 t, .cons r rt => by
    obtain ⟨a, b, c⟩ := pairs_read (h := h) t rt
    refine ⟨?_, ?_, .cons r.2 c⟩
    · rw [← r.1] at h1
      exact ReadsAll.cons (key_read h1) a
    · rw [List.map_cons, List.map_cons, b, h2]
theorem zip_fst {α β : Type} {xs : List α} {ys : List β} (h : xs.length = ys.length) : (xs.zip ys).map (·.1) = xs := by
  rw [show (fun x : α × β => x.1) = Prod.fst from rfl]
  exact List.map_fst_zip (Nat.le_of_eq h)
theorem zip_snd {α β : Type} {xs : List α} {ys : List β} (h : xs.length = ys.length) : (xs.zip ys).map (·.2) = ys := by
  rw [show (fun x : α × β => x.2) = Prod.snd from rfl]
  exact List.map_snd_zip (Nat.le_of_eq h.symm)
theorem not_sys {a : Addr} {o : Obj} {vs : Array Value} {n : Nat} (sys : SysD X.base) (I : L2.Inv X pins σ H s) (h : s.heap.get? a = some o) (hc : o.data = .seq vs n) : sysModules ≠ a := by
  rintro rfl
  obtain ⟨mm, u, es, ep, hu, du, _⟩ := sys
  have := I.bk _ _ hu
  rw [h] at this
  cases this
  rw [hc] at du
  cases du
mutual
theorem Dd.reads (sys : SysD X.base) (I : Inv X pins σ H s) : ∀ {v : V} {d : PyData}, Dd H v d → ∀ {u : Value}, RelV v u → ∃ as, Reads s.heap u d as ∧ sysModules ∉ as
  | _, _, .non, _, r => by cases r; exact ⟨_, .none, List.not_mem_nil⟩
  | _, _, .bl b, _, r => by cases r; exact ⟨_, .bool b, List.not_mem_nil⟩
  | _, _, .int i, _, r => by obtain ⟨t, rfl⟩ := r; exact ⟨_, .int i t, List.not_mem_nil⟩
  | _, _, .str x, _, r => by obtain ⟨t, rfl⟩ := r; exact ⟨_, .str x t, List.not_mem_nil⟩
  | _, _, .lst e h, _, r => by
    cases r
    obtain ⟨_, its, n, rv, ho⟩ := I.hok _ _ e
    obtain ⟨as, q, ns⟩ := DdAll.reads sys I h rv
    refine ⟨_, Reads.list ho rfl rfl q, ?_⟩
    intro z
    rcases List.mem_cons.mp z with z | z
    · exact not_sys sys I ho rfl z
    · exact ns z
  | _, _, .tup e h, _, r => by
    cases r
    obtain ⟨_, its, rv, o, ho, hc, n, hd⟩ := I.hok _ _ e
    obtain ⟨as, q, ns⟩ := DdAll.reads sys I h rv
    exact ⟨_, Reads.tuple ho hc hd q, ns⟩
  | _, _, .dic (kvs := kvs) (ds := ds) e h, _, r => by
    cases r
    obtain ⟨_, hne, vs, kv, o, es, ep, ho, hx, hd, _, hp, _⟩ := I.hok _ _ e
    obtain ⟨rk, hv, rvs⟩ := pairs_read (h := s.heap) hp kv
    obtain ⟨bs, q, ns⟩ := DdAll.reads sys I h rvs
    have hl : (kvs.map fun p => kD p.1).length = ds.length := by
      rw [h.length, List.length_map, List.length_map]
    refine ⟨_, Reads.dict (as := []) (bs := bs) ho hx.1 hd ?_ ?_, ?_⟩
    · rw [zip_fst hl]; exact rk
    · rw [zip_snd hl, hv]; exact q
    · intro z
      rcases List.mem_cons.mp (show sysModules ∈ _ :: bs from z) with z | z
      · rw [z] at hne
        simp at hne
      · exact ns z
theorem DdAll.reads (sys : SysD X.base) (I : Inv X pins σ H s) : ∀ {vs : List V} {ds : List PyData}, DdAll H vs ds → ∀ {us : List Value}, Vals vs us → ∃ as, ReadsAll s.heap us ds as ∧ sysModules ∉ as
  | _, _, .nil, _, r => by cases r; exact ⟨_, .nil, List.not_mem_nil⟩
  | _, _, .cons a b, _, r => by
    cases r with
    | cons r1 r2 =>
      obtain ⟨as, q1, n1⟩ := Dd.reads sys I a r1
      obtain ⟨bs, q2, n2⟩ := DdAll.reads sys I b r2
      refine ⟨_, .cons q1 q2, ?_⟩
      intro z
      rcases List.mem_append.mp z with z | z
      · exact n1 z
      · exact n2 z
end
/-- repr(x) -/
theorem call_repr (gd : X.A.guards = some []) (hu : X.A.units + 100 < cLine) (sys : SysD X.base) :
    CallR X (.builtin "repr") (fun xs H Q => ∃ x d, xs = [x] ∧ Dd H x d ∧ d.showable = true ∧ d.depth ≤ 60 ∧ d.shown.length ≤ sizeLine ∧ Q (.str d.shown) H) := by
  rintro pins s σ H xs us Q I r ⟨x, d, rfl, hd, hs, hdep, hz, q⟩
  obtain ⟨u, rfl, r1⟩ := vals1 r
  have fin : ∀ h' v tk, (∀ b o, s.heap.get? b = some o → h'.get? b = some o) →
      EP X pins σ Q (.str d.shown v) { s with heap := h', toks := tk } := fun h' v tk hk => ⟨.str d.shown, H, I.kept hk, ⟨v, rfl⟩, q⟩
  obtain ⟨as, rd, ns⟩ := Dd.reads sys I hd r1
  cases rd with
  | none => exact PySem.P.repr_of_none (fin s.heap s.toks (s.toks + 1) fun _ _ e => e)
  | bool b => exact PySem.P.repr_of_bool (fin s.heap s.toks (s.toks + 1) fun _ _ e => e)
  | int i t => exact PySem.P.repr_of_int (of_decide_eq_true hs) (fin s.heap s.toks (s.toks + 1) fun _ _ e => e)
  | str z t => exact PySem.P.repr_of_str (fin s.heap s.toks (s.toks + 1) fun _ _ e => e) hz
  | list h1 h2 h3 h4 => exact repr_of_reads' (.list h1 h2 h3 h4) hs (fun _ => ns) gd (by omega) (fun _ _ e => e) fin hz
  | tuple h1 h2 h3 h4 => exact repr_of_reads' (.tuple h1 h2 h3 h4) hs (fun _ => ns) gd (by omega) (fun _ _ e => e) fin hz
  | dict h1 h2 h3 h4 h5 => exact repr_of_reads' (.dict h1 h2 h3 h4 h5) hs (fun _ => ns) gd (by omega) (fun _ _ e => e) fin hz
end
end MG

namespace MG
open PySem PySem.Spec PyProof.Rows L2

/-- v is data in H: at most n deep, its repr at most c signs -/
def Da (H : Hp) (n c : Nat) (v : V) : Prop := ∃ d, Dd H v d ∧ d.showable = true ∧ d.depth ≤ n ∧ d.shown.length ≤ c
theorem Da.same {H H' : Hp} {n c : Nat} {v : V} (s : Same H H') (h : Da H n c v) : Da H' n c v := by
  obtain ⟨d, a, b⟩ := h
  exact ⟨d, a.same s, b⟩
theorem Da.le {H : Hp} {n c n' c' : Nat} {v : V} (h : Da H n c v) (hn : n ≤ n') (hc : c ≤ c') : Da H n' c' v := by
  obtain ⟨d, a, b, e, f⟩ := h
  exact ⟨d, a, b, Nat.le_trans e hn, Nat.le_trans f hc⟩
theorem Da.non {H : Hp} : Da H 0 4 .non := ⟨.none, .non, rfl, Nat.le_refl _, by decide +kernel⟩
theorem Da.bl {H : Hp} (b : Bool) : Da H 0 5 (.bl b) := ⟨.bool b, .bl b, rfl, Nat.le_refl _, by cases b <;> decide +kernel⟩
theorem int_len {i : Int} {k : Nat} (hk : 0 < k) (h : i.natAbs < 2 ^ k) : (Str.ofString (toString i)).length ≤ k + 1 := by
  rw [PySem.ofString_length]
  refine int_text_length_le hk ?_
  by_cases h0 : i.natAbs = 0
  · rw [h0]; exact Nat.lt_of_le_of_lt (by decide) hk
  · exact (Nat.log2_lt h0).mpr h
theorem Da.int {H : Hp} {i : Int} (h : i.natAbs < 2 ^ 300) : Da H 0 301 (.int i) := by
  refine ⟨.int i, .int i, ?_, Nat.le_refl _, int_len (by decide) h⟩
  show decide (i.natAbs.log2 < 1920) = true
  refine decide_eq_true ?_
  by_cases h0 : i.natAbs = 0
  · rw [h0]; decide
  · exact Nat.lt_of_lt_of_le ((Nat.log2_lt h0).mpr h) (by decide)
theorem Da.str {H : Hp} (x : Str) {c : Nat} (h : (reprText x).length ≤ c) : Da H 0 c (.str x) := ⟨.str x, .str x, rfl, Nat.le_refl _, h⟩

theorem das {H : Hp} {n c : Nat} : ∀ {xs : List V}, (∀ x ∈ xs, Da H n c x) →
    ∃ ds, DdAll H xs ds ∧ PyData.showableAll ds = true ∧ PyData.depthAll ds ≤ n ∧ piled (PyData.shownAll ds) ≤ xs.length * (c + 2)
  | [], _ => ⟨[], .nil, rfl, Nat.zero_le _, by rw [PyData.shownAll, piled_nil]; exact Nat.zero_le _⟩
  | x :: xs, h => by
    obtain ⟨d, a, b, e, f⟩ := h x List.mem_cons_self
    obtain ⟨ds, a2, b2, e2, f2⟩ := das (xs := xs) fun y hy => h y (List.mem_cons_of_mem _ hy)
    refine ⟨d :: ds, .cons a a2, ?_, ?_, ?_⟩
    · rw [PyData.showableAll, b, b2]; rfl
    · rw [PyData.depthAll]; exact Nat.max_le.mpr ⟨e, e2⟩
    · rw [PyData.shownAll, piled_cons, List.length_cons, Nat.add_mul, Nat.one_mul]
      omega
theorem tupleText_le (ts : List Str) : (tupleText ts).length ≤ piled ts + 3 := by
  unfold tupleText
  rw [strLen_append, strLen_append]
  have h1 : ("(" : Str).length = 1 := rfl
  have h2 : (Str.ofString (if (ts.length == 1) = true then ",)" else ")")).length ≤ 2 := by
    cases ts.length == 1 <;> decide +kernel
  have h3 : (Str.join ", " ts).length ≤ piled ts := by
    cases ts with
    | nil => decide +kernel
    | cons t r =>
      have := join_length_add (t :: r) (List.cons_ne_nil _ _)
      omega
  have h4 : ((if (ts.length == 1) = true then ",)" else ")" : String) : Str).length ≤ 2 := h2
  omega
theorem dictText_le (ts : List Str) : (dictText ts).length ≤ piled ts + 3 := by
  unfold dictText
  rw [strLen_append, strLen_append]
  have h1 : ("{" : Str).length = 1 := rfl
  have h2 : ("}" : Str).length = 1 := rfl
  have h3 : (Str.join ", " ts).length ≤ piled ts := by
    cases ts with
    | nil => decide +kernel
    | cons t r =>
      have := join_length_add (t :: r) (List.cons_ne_nil _ _)
      omega
  omega
theorem listText_le (ts : List Str) : (listText ts).length ≤ piled ts + 3 := by
  unfold listText
  rw [strLen_append]
  have h2 : ("]" : Str).length = 1 := rfl
  cases ts with
  | nil => decide +kernel
  | cons t r =>
    have e : (textFrom 0 "[" (t :: r)) = textFrom 1 (("[" : Str) ++ (if (0 : Nat) > 0 then ", " else "" : String) ++ t) r := rfl
    rw [e, textFrom_length_pos _ _ _ Nat.one_pos, strLen_append, strLen_append, piled_cons]
    have h1 : ("[" : Str).length = 1 := rfl
    have h3 : ((if (0 : Nat) > 0 then ", " else "" : String) : Str).length = 0 := by decide +kernel
    omega
theorem Da.tup {H : Hp} {n c m : Nat} {a : Addr} {xs : List V} (e : H a = some (.tup xs)) (h : ∀ x ∈ xs, Da H n c x) (hm : xs.length ≤ m) :
    Da H (n + 1) (m * (c + 2) + 3) (.ref a) := by
  obtain ⟨ds, a1, b1, e1, f1⟩ := das h
  refine ⟨.tuple ds, .tup e a1, b1, Nat.succ_le_succ e1, ?_⟩
  have h1 := tupleText_le (PyData.shownAll ds)
  have h2 : xs.length * (c + 2) ≤ m * (c + 2) := Nat.mul_le_mul_right _ hm
  show (tupleText (PyData.shownAll ds)).length ≤ _
  omega
theorem Da.lst {H : Hp} {n c m : Nat} {a : Addr} {xs : List V} (e : H a = some (.lst xs)) (h : ∀ x ∈ xs, Da H n c x) (hm : xs.length ≤ m) :
    Da H (n + 1) (m * (c + 2) + 3) (.ref a) := by
  obtain ⟨ds, a1, b1, e1, f1⟩ := das h
  refine ⟨.list ds, .lst e a1, b1, Nat.succ_le_succ e1, ?_⟩
  have h1 := listText_le (PyData.shownAll ds)
  have h2 : xs.length * (c + 2) ≤ m * (c + 2) := Nat.mul_le_mul_right _ hm
  show (listText (PyData.shownAll ds)).length ≤ _
  omega
theorem Da.dic0 {H : Hp} {a : Addr} (e : H a = some (.dK [])) : Da H 1 3 (.ref a) :=
  ⟨.dict [], .dic e .nil, rfl, by decide, by decide +kernel⟩
theorem Da.dic1 {H : Hp} {n c : Nat} {a : Addr} {k : Str} {v : V} (e : H a = some (.dK [(.inr k, v)])) (h : Da H n c v) (hk : (reprText k).length ≤ 5) :
    Da H (n + 1) (c + 12) (.ref a) := by
  obtain ⟨d, a1, b1, e1, f1⟩ := h
  refine ⟨.dict [(.str k, d)], .dic e (.cons a1 .nil), ?_, ?_, ?_⟩
  · show (true && d.showable && true) = true
    rw [b1]; rfl
  · show max (max 0 d.depth) 0 + 1 ≤ n + 1
    omega
  · have h1 := dictText_le (PyData.shownKv [(.str k, d)])
    have h2 : PyData.shownKv [(.str k, d)] = [reprText k ++ ": " ++ d.shown] := rfl
    rw [h2] at h1
    show (dictText (PyData.shownKv [(.str k, d)])).length ≤ _
    rw [h2]
    have h3 : (reprText k ++ ": " ++ d.shown).length = (reprText k).length + 2 + d.shown.length := by
      rw [strLen_append, strLen_append]; rfl
    rw [piled_cons, piled_nil, h3] at h1
    omega
end MG

namespace MG
open PySem PySem.Spec PyProof.Rows L2

/-! ### f(a=.., b=..): every parameter by its name, in the def's order -/
def KB (K : PySem.W.Frag) (fd : FuncData) (ps : List Str) : Prop :=
  ∀ (s : Shared) (us : List Value), K.In s.heap → us.length = ps.length → BindsTo s fd ⟨[], ps.zip us⟩ (ps.zip us)
theorem kb_of {K : PySem.W.Frag} {x qual : Str} {st : Stmt} {f : Addr} {fd : FuncData} {ps : List Str} (F : Fun K x qual st f fd)
    (h : ∀ (kV doc pm : Value) (an : Option Addr) (cdv ct : Value) (us : List Value), us.length = ps.length →
      bindArgs (PySem.W.fnOf x qual (defArgs st) (defBody st) (defScope st) .none kV doc pm an cdv ct) ⟨[], ps.zip us⟩ = pure (ps.zip us)) : KB K fd ps := by
  obtain ⟨oc, od, kV, doc, pm, an, cdv, ct, osl, rfl, lk, hcd⟩ := F.ex
  exact fun s us _ hl => .of_eq (h kV doc pm an cdv ct us hl)
def tCallN (sp : Sp) (E : XK) (tk : TA) : TE := fun σ H Q => tk σ H fun zs H2 => sp zs H2 Q E
theorem pe_callN {X : Cx} {k : Nat} {f : Addr} {fd : FuncData} {ps : List Str} {sp : Sp} {E : XK} {x : Str} {p pos : Pos} {kws : List Keyword} {tk : TA}
    (F : FnOk X.prog X.w X.K X.mg X.base CX0 k f fd ps sp) (hr : Room k X.A) (hg : Gl X x)
    (hm : X.mg x = some (.ref f)) (hk : PySem.W.keepIn X.K (.ref f) = true) (hb : KB X.K fd ps) (hkw : PK X kws tk)
    (hall : (backToKw pos (keywordEach kws X.env)).all (·.1.isSome) = true := by rfl)
    (hks : (backToKw pos (keywordEach kws X.env)).filterMap (·.1) = ps := by rfl)
    (hdb : (x == ("__debug__" : Str)) = false := by decide)
    (hpl : ((backTo pos (starEach [] X.env)).any (·.1) || (backToKw pos (keywordEach kws X.env)).any (·.1.isNone)) = false := by rfl) :
    PE X (.Call (.Name x p) [] kws pos) (tCallN sp E tk) := by
  constructor
  intro pins s σ H Q I h
  refine wpAny_Call_Name_kw (ld_glob I hg hm ?_ hdb)
  refine PySem.W.callWith_KW0 (h₀ := X.base) I.ok.mod.kin hk hall (thn (hkw.run pos pins s σ H _ I h) ?_) hpl
  rintro us s1 ⟨vs, H1, I1, r, q⟩
  refine ⟨I1.kIn, ?_⟩
  rw [hks]
  have hl : us.length = ps.length := by
    rw [← r.length]
    exact F.len _ _ _ _ q
  refine wpAny_call (codeAny_mono (F.run X.A X.stack s1 H1 ⟨[], ps.zip us⟩ us vs Q E hr I1.env0 (hb s1 us I1.kIn hl) r q) ?_)
  intro res s' hq
  cases res with
  | error e => exact False.elim hq
  | ok fl =>
    cases fl with
    | ret u => exact I1.after hq
    | next => exact False.elim hq
    | brk => exact False.elim hq
    | cont => exact False.elim hq

/-! ### isinstance of data -/
def tyN : PyData → String
  | .none => "NoneType"
  | .bool _ => "bool"
  | .int _ => "int"
  | .str _ => "str"
  | .list _ => "list"
  | .tuple _ => "tuple"
  | .dict _ => "dict"
theorem Dd.ty {K : PySem.W.Frag} {H : Hp} {v : V} {d : PyData} (h : Dd H v d) : TyX K H v (.type (tyN d)) := by
  cases h with
  | non => exact .base .non
  | bl b => exact .base (.bl b)
  | int i => exact .base (.int i)
  | str x => exact .base (.str x)
  | lst e _ => exact .base (.lst e)
  | tup e _ => exact .base (.tup e)
  | dic e _ => exact .base (.dK e)
def isIntD : PyData → Bool
  | .int _ | .bool _ => true
  | _ => false
def isBoolD : PyData → Bool
  | .bool _ => true
  | _ => false
def isTupD : PyData → Bool
  | .tuple _ => true
  | _ => false
theorem kit_int (K : PySem.W.Frag) (d : PyData) : PySem.W.kitOne K (.type (tyN d)) (.type "int") = some (isIntD d) := by
  cases d with
  | none => exact kit_ty (a := "NoneType") (b := "int") (r := false) (by decide +kernel)
  | bool _ => exact kit_ty (a := "bool") (b := "int") (r := true) (by decide +kernel)
  | int _ => exact kit_ty (a := "int") (b := "int") (r := true) (by decide +kernel)
  | str _ => exact kit_ty (a := "str") (b := "int") (r := false) (by decide +kernel)
  | list _ => exact kit_ty (a := "list") (b := "int") (r := false) (by decide +kernel)
  | tuple _ => exact kit_ty (a := "tuple") (b := "int") (r := false) (by decide +kernel)
  | dict _ => exact kit_ty (a := "dict") (b := "int") (r := false) (by decide +kernel)
theorem kit_bool (K : PySem.W.Frag) (d : PyData) : PySem.W.kitOne K (.type (tyN d)) (.type "bool") = some (isBoolD d) := by
  cases d with
  | none => exact kit_ty (a := "NoneType") (b := "bool") (r := false) (by decide +kernel)
  | bool _ => exact kit_ty (a := "bool") (b := "bool") (r := true) (by decide +kernel)
  | int _ => exact kit_ty (a := "int") (b := "bool") (r := false) (by decide +kernel)
  | str _ => exact kit_ty (a := "str") (b := "bool") (r := false) (by decide +kernel)
  | list _ => exact kit_ty (a := "list") (b := "bool") (r := false) (by decide +kernel)
  | tuple _ => exact kit_ty (a := "tuple") (b := "bool") (r := false) (by decide +kernel)
  | dict _ => exact kit_ty (a := "dict") (b := "bool") (r := false) (by decide +kernel)
theorem kit_tuple (K : PySem.W.Frag) (d : PyData) : PySem.W.kitOne K (.type (tyN d)) (.type "tuple") = some (isTupD d) := by
  cases d with
  | none => exact kit_ty (a := "NoneType") (b := "tuple") (r := false) (by decide +kernel)
  | bool _ => exact kit_ty (a := "bool") (b := "tuple") (r := false) (by decide +kernel)
  | int _ => exact kit_ty (a := "int") (b := "tuple") (r := false) (by decide +kernel)
  | str _ => exact kit_ty (a := "str") (b := "tuple") (r := false) (by decide +kernel)
  | list _ => exact kit_ty (a := "list") (b := "tuple") (r := false) (by decide +kernel)
  | tuple _ => exact kit_ty (a := "tuple") (b := "tuple") (r := true) (by decide +kernel)
  | dict _ => exact kit_ty (a := "dict") (b := "tuple") (r := false) (by decide +kernel)
end MG

namespace K01
open PySem PySem.Spec PyProof.Rows L2 MG
def topS (i : Nat) : Stmt := PySem.Challenge.pw_matchgift_k01_rows_of_anything.main.body.getD i (.Pass ⟨0, 0, 0, 0⟩)
abbrev sWhole : Stmt := topS 3
abbrev sRow : Stmt := topS 4
abbrev sHolders : Stmt := topS 5
theorem scWhole : FnScope ["thing"] ["thing"] (defScope sWhole) := ⟨rfl, rfl, rfl, by decide +kernel, rfl, by decide +kernel, by decide +kernel⟩
theorem scRow : FnScope ["thing", "amount"] ["thing"] (defScope sRow) := ⟨rfl, rfl, rfl, by decide +kernel, rfl, by decide +kernel, by decide +kernel⟩
theorem scHolders : FnScope ["row", "place", "amount"] ["row"] (defScope sHolders) := ⟨rfl, rfl, rfl, by decide +kernel, rfl, by decide +kernel, by decide +kernel⟩

theorem same_upd {H : Hp} {p : Addr} {o : HO} (h : H p = none) : Same H (upd H p o) := fun b x e => by
  rw [upd_ne (ne_of_none e h)]
  exact e

def wholeD : PyData → Bool
  | .int _ => true
  | _ => false
def nnD : PyData → Bool
  | .int i => decide (i ≥ 0)
  | _ => false
def sumD : List PyData → Int
  | [] => 0
  | .int i :: r => i + sumD r
  | _ :: r => sumD r
def rowL (ds : List PyData) : Bool := (decide (1 ≤ ds.length) && decide (ds.length ≤ 12)) && (ds.all nnD && (decide (0 < sumD ds) && decide (sumD ds < 10 ^ 30)))
def rowD : PyData → Bool
  | .tuple ds => rowL ds
  | _ => false
theorem DdAll_get {H : Hp} : ∀ {vs : List V} {ds : List PyData}, DdAll H vs ds → ∀ {i : Nat} {x : V}, vs[i]? = some x → ∃ d, ds[i]? = some d ∧ Dd H x d
  | _, _, .nil, _, _, h => by simp at h
  | _, _, .cons a b, 0, _, h => ⟨_, rfl, by cases h; exact a⟩
  | _, _, .cons a b, i + 1, _, h => DdAll_get b h
theorem ints_of {H : Hp} : ∀ {vs : List V} {ds : List PyData}, DdAll H vs ds → ds.all nnD = true →
    ∃ ns : List Int, vs = ns.map V.int ∧ ds = ns.map PyData.int ∧ (∀ n ∈ ns, 0 ≤ n) ∧ sumD ds = ns.sum
  | _, _, .nil, _ => ⟨[], rfl, rfl, fun _ h => absurd h List.not_mem_nil, rfl⟩
  | _, _, .cons a b, h => by
    rw [List.all_cons, Bool.and_eq_true] at h
    obtain ⟨ns, e1, e2, e3, e4⟩ := ints_of b h.2
    cases a with
    | int i =>
      have hi : 0 ≤ i := of_decide_eq_true h.1
      refine ⟨i :: ns, by rw [List.map_cons, e1], by rw [List.map_cons, e2], ?_, ?_⟩
      · intro n hn
        rcases List.mem_cons.mp hn with rfl | hn
        · exact hi
        · exact e3 n hn
      · show i + sumD _ = _
        rw [e4, List.sum_cons]
    | _ => exact absurd h.1 Bool.false_ne_true

section
variable {P : Program} {w : World} {K : PySem.W.Frag} {mg : Str → Option Value} {base : Heap}
def spWhole : Sp := fun vs H Q _ => ∃ x d, vs = [x] ∧ Dd H x d ∧ Q (.bl (wholeD d)) H
theorem ok_whole {f : Addr} {fd : FuncData} {k : Nat} (F : Fun K "is_whole" "is_whole" sWhole f fd) (mi : mg "isinstance" = none) (mI : mg "int" = none) (mB : mg "bool" = none) :
    FnOk P w K mg base CX0 (k + 1) f fd ["thing"] spWhole := by
  refine F.ok scWhole (fun vs H Q E h => ?_) (fun cdv A outer s H vs Q E hr h => ?_)
  · obtain ⟨x, d, rfl, _⟩ := h
    rfl
  · obtain ⟨x, d, rfl, hd, q⟩ := h
    refine ⟨_, pss_one (ps_ret (pe_and
      (pe_callB call_isi (by rfl) mi (by decide +kernel) (pa_cons (pv 0) (pa_cons (pe_bltn (v := .ty "int") (by rfl) mI (by decide +kernel) rfl) pa_nil)))
      (pe_one (pe_not (pe_callB call_isi (by rfl) mi (by decide +kernel) (pa_cons (pv 0) (pa_cons (pe_bltn (v := .ty "bool") (by rfl) mB (by decide +kernel) rfl) pa_nil))))))), ?_⟩
    refine ⟨x, rfl, x, _, _, _, _, rfl, .ty "int", hd.ty, kit_int _ d, isIntD d, rfl, ?_⟩
    cases hb : isIntD d with
    | false =>
      refine iteF ?_
      have : wholeD d = false := by cases d <;> first | rfl | cases hb
      rw [this] at q
      exact q
    | true =>
      refine iteT ?_
      refine ⟨x, rfl, x, _, _, _, _, rfl, .ty "bool", hd.ty, kit_bool _ d, isBoolD d, rfl, ?_⟩
      have : wholeD d = !isBoolD d := by cases d <;> first | rfl | cases hb
      rw [this] at q
      exact q

def spRow : Sp := fun vs H Q _ => ∃ x d, vs = [x] ∧ Dd H x d ∧ ∀ H', Same H H' → Q (.bl (rowD d)) H'
theorem ok_row {f fW : Addr} {fd fdW : FuncData} {k : Nat} {t1 t2 : Tok} (F : Fun K "is_row" "is_row" sRow f fd) (FW : Fun K "is_whole" "is_whole" sWhole fW fdW) (bW : Binds K fdW ["thing"] [])
    (gW : mg "is_whole" = some (.ref fW)) (gM : mg "MOST_PLACES" = some (.int 12 t1)) (gA : mg "ABOVE_THIRTY_FIGURES" = some (.int (10 ^ 30) t2))
    (mi : mg "isinstance" = none) (mI : mg "int" = none) (mB : mg "bool" = none) (mT : mg "tuple" = none) (mA : mg "all" = none) (mS : mg "sum" = none) (ml : mg "len" = none) :
    FnOk P w K mg base CX0 (k + 2) f fd ["thing"] spRow := by
  have GW : FnOk P w K mg base CX0 (k + 1) fW fdW ["thing"] spWhole := ok_whole FW mi mI mB
  refine F.ok scRow (fun vs H Q E h => ?_) (fun cdv A outer s H vs Q E hr h => ?_)
  · obtain ⟨x, d, rfl, _⟩ := h
    rfl
  · obtain ⟨x, d, rfl, hd, q⟩ := h
    refine ⟨_, pss_cons (ps_if (PW.pt (pw_or
        (pt_not (pt_val (pe_callB call_isi (by rfl) mi (by decide +kernel) (pa_cons (pv 0) (pa_cons (pe_bltn (v := .ty "tuple") (by rfl) mT (by decide +kernel) rfl) pa_nil)))))
        (pw_or1 (pt_not (pt_chain op_le op_le pe_int (pe_callB call_len_seq (by rfl) ml PySem.boot_len (pa_cons (pv 0) pa_nil)) (pe_glob (v := .int 12) (by rfl) gM ⟨_, rfl⟩))))))
        (pss_one (ps_ret pe_bl)) pss_nil)
      (pss_cons (ps_if (pt_not (pt_val (pe_callB (cr_all rfl) (by rfl) mA (by decide +kernel) (pa_cons
          (pe_lc (own := [("amount", 1)]) (g := gName 1) (tt := tYes) rfl scRow.nd (pi_tup (pv 0)) (blkOk_by (N := ["thing", "amount"]) (sc := defScope sRow) (by decide +kernel))
            (fun _ _ _ _ _ => pg_name (i := 1) scRow.nd rfl (Or.inl rfl)) (fun _ _ _ _ _ => pts_nil)
            (fun _ _ _ _ _ => pe_and (pe_call GW hr (by rfl) gW FW.kp bW .nil pass0 (pa_cons (pv 1) pa_nil)) (pe_one (pe_cmp (pc_ge (pv 1) pe_int) rfl))))
          pa_nil))))
        (pss_one (ps_ret pe_bl)) pss_nil)
      (pss_one (ps_ret (pe_chain op_lt op_lt pe_int (pe_callB (sumT rfl) (by rfl) mS (by decide +kernel) (pa_cons (pv 0) pa_nil)) (pe_glob (v := .int (10 ^ 30)) (by rfl) gA ⟨_, rfl⟩))))), ?_⟩
    refine ⟨x, rfl, x, _, _, _, _, rfl, .ty "tuple", hd.ty, kit_tuple _ d, isTupD d, rfl, ?_⟩
    cases ht : isTupD d with
    | false =>
      have e0 : rowD d = false := by cases d <;> first | rfl | cases ht
      refine iteT (iteT ?_)
      have := q H (Same.refl H)
      rw [e0] at this
      exact this
    | true =>
      cases hd with
      | @tup a xs ds e r =>
        refine iteF ?_
        have hS : SqT K H a xs := SqT.of e
        have hl := r.length
        refine ⟨.ref a, rfl, a, xs, rfl, .inr hS, ?_⟩
        have fail : rowL ds = false → Q (.bl false) H := fun z => by
          have := q H (Same.refl H)
          rw [show rowD (.tuple ds) = false from z] at this
          exact this
        refine ⟨1, (xs.length : Int), rfl, rfl, _, rfl, ite2 (fun h1 => ?_) (fun h1 => ?_)⟩
        rotate_left
        · refine ⟨false, rfl, iteT (fail ?_)⟩
          have n1 : ¬ 1 ≤ ds.length := fun z => h1 (decide_eq_true (by rw [hl] at z; omega))
          unfold rowL
          rw [decide_eq_false n1]
          rfl
        refine ⟨(xs.length : Int), 12, rfl, rfl, decide ((xs.length : Int) ≤ 12), rfl, ?_⟩
        cases h2 : decide ((xs.length : Int) ≤ 12) with
        | false =>
          refine iteT (fail ?_)
          have n2 : ¬ ds.length ≤ 12 := fun z => of_decide_eq_false h2 (by rw [hl] at z; omega)
          unfold rowL
          rw [decide_eq_false n2, Bool.and_false]
          rfl
        | true =>
          refine iteF ?_
          have len1 : 1 ≤ ds.length := by have := of_decide_eq_true h1; omega
          have len2 : ds.length ≤ 12 := by have := of_decide_eq_true h2; omega
          have rw1 : rowL ds = (ds.all nnD && (decide (0 < sumD ds) && decide (sumD ds < 10 ^ 30))) := by
            unfold rowL
            rw [decide_eq_true len1, decide_eq_true len2]
            rfl
          refine ⟨.ref a, rfl, a, rfl, ⟨_, hS⟩, fun D nD => ?_⟩
          have sD : Same H (upd H D (.lst [])) := same_upd nD
          refine lc_tup (K := K) (a := a) (xs := xs) (fun i H' => Same H H' ∧ H' D = some (.lst ((ds.take i).map fun d => V.bl (nnD d)))) ⟨sD, upd_same⟩ ?_ ?_ ?_
          · intro i H' _ h
            exact SqT.of (h.1 _ _ e)
          · rintro i y H' hy ⟨sm, hD⟩
            obtain ⟨dy, hdy, hd'⟩ := DdAll_get r hy
            have step : ∀ b : Bool, b = nnD dy → ∃ acc, H' D = some (.lst acc) ∧ acc.length < sizeLine ∧ Same H (upd H' D (.lst (acc ++ [V.bl b]))) ∧
                upd H' D (.lst (acc ++ [V.bl b])) D = some (.lst ((ds.take (i + 1)).map fun d => V.bl (nnD d))) := by
              rintro b rfl
              refine ⟨_, hD, ?_, ?_, ?_⟩
              · rw [List.length_map, List.length_take]
                exact small1000 (by omega)
              · intro c o hc
                rw [upd_ne (ne_of_none hc nD)]
                exact sm c o hc
              · rw [upd_same, List.take_add_one, hdy, List.map_append]
                rfl
            refine ⟨rfl, y, rfl, y, dy, rfl, hd'.same sm, wholeD dy, rfl, ?_⟩
            cases hw : wholeD dy with
            | false => exact iteF (step false (by cases dy <;> first | rfl | cases hw))
            | true =>
              cases hd' with
              | int n => exact iteT ⟨_, rfl, n, 0, rfl, rfl, step _ rfl⟩
              | _ => cases hw
          · rintro H' ⟨sm, hD⟩
            rw [← hl, List.take_length] at hD
            have hbs : SqL K H' D ((ds.map nnD).map V.bl) := .inl (.inl (by rw [List.map_map]; exact hD))
            refine ⟨D, ds.map nnD, rfl, hbs, _, rfl, ?_⟩
            have eall : (ds.map nnD).all id = ds.all nnD := by rw [List.all_map]; rfl
            rw [eall]
            cases ha : ds.all nnD with
            | false =>
              refine iteT ?_
              have := q H' sm
              rw [show rowD (.tuple ds) = false by show rowL ds = false; rw [rw1, ha]; rfl] at this
              exact this
            | true =>
              refine iteF ?_
              obtain ⟨ns, rfl, ens, _, esum⟩ := ints_of r ha
              have fin : ∀ b : Bool, b = (decide (0 < sumD ds) && decide (sumD ds < 10 ^ 30)) → Q (.bl b) H' := by
                rintro b rfl
                have := q H' sm
                rw [show rowD (.tuple ds) = (decide (0 < sumD ds) && decide (sumD ds < 10 ^ 30)) by show rowL ds = _; rw [rw1, ha]; rfl] at this
                exact this
              refine ⟨.ref a, rfl, a, ns, rfl, SqT.of (sm _ _ e), 0, ns.sum, rfl, rfl, decide (0 < ns.sum), rfl, ?_⟩
              rw [← esum]
              cases h3 : decide (0 < sumD ds) with
              | false => exact iteF (fin _ (by rw [h3]; rfl))
              | true => exact iteT ⟨sumD ds, 10 ^ 30, rfl, rfl, fin _ (by rw [h3]; rfl)⟩
      | _ => cases ht
end
end K01

namespace K01
open PySem PySem.Spec PyProof.Rows L2 MG
abbrev sDue : Stmt := topS 10
theorem scDue : FnScope ["_law_item", "_law_total", "_law_amount"] ["_law_item"] (defScope sDue) := ⟨rfl, rfl, rfl, by decide +kernel, rfl, by decide +kernel, by decide +kernel⟩

def hold (ns : List Int) (i : Nat) : List Int := ((List.range i).filter fun j => decide (0 < ns.getD j 0)).map fun (j : Nat) => (j : Int)
theorem hold_succ (ns : List Int) (i : Nat) : hold ns (i + 1) = hold ns i ++ (if 0 < ns.getD i 0 then [(i : Int)] else []) := by
  unfold hold
  rw [List.range_succ, List.filter_append, List.map_append]
  congr 1
  by_cases h : 0 < ns.getD i 0
  · rw [if_pos h, List.filter_cons_of_pos (by simpa using h), List.filter_nil]
    rfl
  · rw [if_neg h, List.filter_cons_of_neg (by simpa using h), List.filter_nil]
    rfl
theorem hold_len (ns : List Int) (i : Nat) : (hold ns i).length ≤ i := by
  unfold hold
  rw [List.length_map]
  exact Nat.le_trans (List.length_filter_le _ _) (by rw [List.length_range]; exact Nat.le_refl _)

theorem int30 : PySem.intText? (("1" : Str) ++ repText "0" (30 : Int).toNat) = some (10 ^ 30) := by decide +kernel
theorem sumD_append (a : List PyData) (i : Int) : sumD (a ++ [.int i]) = sumD a + i := by
  induction a with
  | nil => show i + 0 = 0 + i; omega
  | cons d r ih =>
    cases d with
    | int j => show j + sumD (r ++ [.int i]) = (j + sumD r) + i; rw [ih]; omega
    | _ => exact ih
section
variable {P : Program} {w : World} {K : PySem.W.Frag} {mg : Str → Option Value} {base : Heap}
def spHolders : Sp := fun vs H Q _ => ∃ a ns, vs = [.ref a] ∧ H a = some (.tup (ns.map V.int)) ∧ ns.length ≤ 12 ∧
  ∀ H' p, Same H H' → H' p = some (.tup ((hold ns ns.length).map V.int)) → Q (.ref p) H'
theorem ok_holders {f : Addr} {fd : FuncData} {k : Nat} (F : Fun K "holders" "holders" sHolders f fd) (mT : mg "tuple" = none) (mE : mg "enumerate" = none) :
    FnOk P w K mg base CX0 (k + 1) f fd ["row"] spHolders := by
  refine F.ok scHolders (fun vs H Q E h => ?_) (fun cdv A outer s H vs Q E hr h => ?_)
  · obtain ⟨a, ns, rfl, _⟩ := h
    rfl
  · obtain ⟨a, ns, rfl, e, hl, q⟩ := h
    refine ⟨_, pss_one (ps_ret (pe_callTy call_tuple_of (by rfl) mT (by decide +kernel) (pa_cons
      (pe_lc (own := [("place", 1), ("amount", 2)]) (g := gTup K 2 (gCons (gName 1) (gCons (gName 2) gNil))) rfl scHolders.nd (pi_enumT (by rfl) mE (pa_cons (pv 0) pa_nil))
        (blkOk_by (N := ["row", "place", "amount"]) (sc := defScope sHolders) (by decide +kernel))
        (fun _ _ _ _ _ => pg_tup rfl (pgs_cons (pg_name (i := 1) scHolders.nd rfl (.inl rfl) (.inr rfl)) (pgs_cons (pg_name (i := 2) scHolders.nd rfl (.inl rfl) (.inr rfl)) pgs_nil)))
        (fun _ _ _ _ _ => pts_one (pt_cmpR op_gt (pv 2) pe_int (nomark _)))
        (fun _ _ _ _ _ => pv 1)) pa_nil))), ?_⟩
    have hS : SqT K H a (ns.map V.int) := SqT.of e
    refine ⟨.ref a, rfl, a, ns.map V.int, rfl, hS, fun D nD => ?_⟩
    refine lc_it (walk_enumT (K := K) (a := a) (xs := ns.map V.int)) (fun i H' => Same H H' ∧ H' D = some (.lst ((hold ns i).map V.int))) ⟨same_upd nD, upd_same⟩ ?_ ?_ ?_
    · intro i H' _ h
      exact SqT.of (h.1 _ _ e)
    · rintro i x H' H'' hi ⟨sm, hD⟩ ⟨T, x1, x2, rfl, nT, rfl, e1, e2⟩
      rw [List.length_map] at hi
      have e1' : x1 = .int (i : Nat) := (Option.some.inj e1).symm
      have e2' : x2 = .int ns[i] := by
        have z : (ns.map V.int)[i]? = some x2 := e2
        rw [List.getElem?_map, List.getElem?_eq_getElem hi] at z
        exact (Option.some.inj z).symm
      subst e1' e2'
      have smT : Same H' (upd H' T (.tup [.int (i : Nat), .int ns[i]])) := same_upd nT
      have hg : ns.getD i 0 = ns[i] := by rw [List.getD_eq_getElem?_getD, List.getElem?_eq_getElem hi]; rfl
      refine ⟨T, [.int (i : Nat), .int ns[i]], rfl, .inl (.inl upd_same), rfl, .int (i : Nat), [.int ns[i]], rfl, .int ns[i], [], rfl, rfl, rfl, _, rfl, ns[i], 0, rfl, rfl, _, rfl, ?_⟩
      refine ite2 (fun hp => ?_) (fun hp => ?_)
      · have hp' : 0 < ns[i] := of_decide_eq_true hp
        refine ⟨.int (i : Nat), rfl, _, smT _ _ hD, ?_, ?_, ?_⟩
        · rw [List.length_map]
          exact small1000 (Nat.le_trans (hold_len ns i) (by omega))
        · intro c o hc
          rw [upd_ne (ne_of_none hc nD)]
          exact smT _ _ (sm c o hc)
        · rw [upd_same, hold_succ, hg, if_pos hp', List.map_append]
          rfl
      · have hp' : ¬ 0 < ns[i] := fun z => hp (decide_eq_true z)
        refine ⟨sm.trans smT, ?_⟩
        rw [hold_succ, hg, if_neg hp', List.append_nil]
        exact smT _ _ hD
    · rintro H' ⟨sm, hD⟩
      rw [List.length_map] at hD
      refine ⟨D, _, rfl, .inl ⟨.inl (.inl hD), fun p np => ?_⟩⟩
      exact q _ p (sm.trans (same_upd np)) upd_same

def spDue : Sp := fun vs H Q _ => ∃ x d, vs = [x] ∧ Dd H x d ∧ Q (.bl (rowD d)) H
theorem ok_due {f : Addr} {fd : FuncData} {k : Nat} (F : Fun K "_law_due" "_law_due" sDue f fd) (mi : mg "isinstance" = none) (mI : mg "int" = none) (mB : mg "bool" = none) (mT : mg "tuple" = none) (ml : mg "len" = none) :
    FnOk P w K mg base CX0 (k + 1) f fd ["_law_item"] spDue := by
  refine F.ok scDue (fun vs H Q E h => ?_) (fun cdv A outer s H vs Q E hr h => ?_)
  · obtain ⟨x, d, rfl, _⟩ := h
    rfl
  · obtain ⟨x, d, rfl, hd, q⟩ := h
    refine ⟨_, pss_cons (ps_if (PW.pt (pw_or
        (pt_not (pt_val (pe_callB call_isi (by rfl) mi (by decide +kernel) (pa_cons (pv 0) (pa_cons (pe_bltn (v := .ty "tuple") (by rfl) mT (by decide +kernel) rfl) pa_nil)))))
        (pw_or (pt_cmpR op_lt (pe_callB call_len_seq (by rfl) ml PySem.boot_len (pa_cons (pv 0) pa_nil)) pe_int (nomark _))
        (pw_or1 (pt_cmpR op_gt (pe_callB call_len_seq (by rfl) ml PySem.boot_len (pa_cons (pv 0) pa_nil)) pe_int (nomark _))))))
        (pss_one (ps_ret pe_bl)) pss_nil)
      (pss_cons (ps_set (i := 1) scDue.nd rfl (.inl rfl) pe_int)
      (pss_cons (ps_for PassesOwn.never rfl (pi_tup (pv 0)) (pg_name (i := 2) scDue.nd rfl (.inl rfl))
        (pss_cons (ps_if (PW.pt (pw_or
            (pt_not (pt_val (pe_callB call_isi (by rfl) mi (by decide +kernel) (pa_cons (pv 2) (pa_cons (pe_bltn (v := .ty "int") (by rfl) mI (by decide +kernel) rfl) pa_nil)))))
            (pw_or (pt_val (pe_callB call_isi (by rfl) mi (by decide +kernel) (pa_cons (pv 2) (pa_cons (pe_bltn (v := .ty "bool") (by rfl) mB (by decide +kernel) rfl) pa_nil))))
            (pw_or1 (pt_cmpR op_lt (pv 2) pe_int (nomark _))))))
            (pss_one (ps_ret pe_bl)) pss_nil)
          (pss_one (ps_set (i := 1) scDue.nd rfl (.inl rfl) (pe_op op_add (pv 1) (pv 2))))))
      (pss_one (ps_ret (pe_chain op_lt op_lt pe_int (pv 1) (pe_callTy call_int_str (by rfl) mI (by decide +kernel) (pa_cons (pe_op op_add_str pe_str (pe_op repS pe_str pe_int)) pa_nil))))))), ?_⟩
    refine ⟨x, rfl, x, _, _, _, _, rfl, .ty "tuple", hd.ty, kit_tuple _ d, isTupD d, rfl, ?_⟩
    cases ht : isTupD d with
    | false =>
      have e0 : rowD d = false := by cases d <;> first | rfl | cases ht
      refine iteT (iteT ?_)
      rw [e0] at q
      exact q
    | true =>
      cases hd with
      | @tup a xs ds e r =>
        refine iteF ?_
        have hS : SqT K H a xs := SqT.of e
        have hl := r.length
        have fail : rowL ds = false → Q (.bl false) H := fun z => by
          have := q
          rw [show rowD (.tuple ds) = false from z] at this
          exact this
        refine ⟨.ref a, rfl, a, xs, rfl, .inr hS, (xs.length : Int), 1, rfl, rfl, _, rfl, ite2 (fun h1 => ?_) (fun h1 => ?_)⟩
        · refine iteT (fail ?_)
          have n1 : ¬ 1 ≤ ds.length := fun z => by
            have := of_decide_eq_true h1
            omega
          unfold rowL
          rw [decide_eq_false n1]
          rfl
        refine ⟨.ref a, rfl, a, xs, rfl, .inr hS, (xs.length : Int), 12, rfl, rfl, _, rfl, ite2 (fun h2 => fail ?_) (fun h2 => ?_)⟩
        · have n2 : ¬ ds.length ≤ 12 := fun z => by
            have := of_decide_eq_true h2
            omega
          unfold rowL
          rw [decide_eq_false n2, Bool.and_false]
          rfl
        have len1 : 1 ≤ ds.length := Nat.le_of_not_lt fun z => h1 (decide_eq_true (by omega))
        have len2 : ds.length ≤ 12 := Nat.le_of_not_lt fun z => h2 (decide_eq_true (by omega))
        have rw1 : rowL ds = (ds.all nnD && (decide (0 < sumD ds) && decide (sumD ds < 10 ^ 30))) := by
          unfold rowL
          rw [decide_eq_true len1, decide_eq_true len2]
          rfl
        refine ⟨.ref a, rfl, a, rfl, ⟨_, hS⟩, ?_⟩
        refine for_tup (K := K) (a := a) (xs := xs) (fun i σ H' => ∃ y2, σ = [some (.ref a), some (.int (sumD (ds.take i))), y2] ∧ H' = H ∧ (ds.take i).all nnD = true) ⟨none, rfl, rfl, rfl⟩ ?_ ?_ ?_
        · rintro i σ H' _ ⟨y2, rfl, rfl, _⟩
          exact hS
        · rintro i y σ H' hy ⟨y2, rfl, rfl, hall⟩
          obtain ⟨dy, hdy, hd'⟩ := DdAll_get r hy
          have bad : nnD dy = false → Q (.bl false) H' := fun z => fail (by
            rw [rw1]
            have : ds.all nnD = false := by
              refine Bool.eq_false_iff.mpr fun z2 => ?_
              have := List.all_eq_true.mp z2 dy (List.mem_of_getElem? hdy)
              rw [z] at this
              cases this
            rw [this]
            rfl)
          refine ⟨y, rfl, y, _, _, _, _, rfl, .ty "int", hd'.ty, kit_int _ dy, isIntD dy, rfl, ?_⟩
          cases hi : isIntD dy with
          | false =>
            refine iteT (iteT (bad ?_))
            cases dy <;> first | rfl | cases hi
          | true =>
            refine iteF ?_
            refine ⟨y, rfl, y, _, _, _, _, rfl, .ty "bool", hd'.ty, kit_bool _ dy, isBoolD dy, rfl, ?_⟩
            cases hd' with
            | bl b => exact iteT (iteT (bad rfl))
            | int n =>
              refine iteF ⟨_, rfl, n, 0, rfl, rfl, _, rfl, ite2 (fun hn => ?_) (fun hn => ?_)⟩
              · refine bad (decide_eq_false ?_)
                have := of_decide_eq_true hn
                omega
              · have hn' : n ≥ 0 := by
                  have z : ¬ n < 0 := fun z => hn (decide_eq_true z)
                  omega
                refine ⟨_, rfl, _, rfl, _, _, rfl, rfl, some (.int n), ?_, rfl, ?_⟩
                · rw [List.take_add_one, hdy]
                  show _ = [some (V.ref a), some (V.int (sumD (List.take i ds ++ [PyData.int n]))), some (V.int n)]
                  rw [sumD_append]
                  rfl
                · rw [List.take_add_one, hdy, List.all_append, hall]
                  show (decide (n ≥ 0) && true) = true
                  rw [decide_eq_true hn']
                  rfl
            | _ => cases hi
        · rintro σ H' ⟨y2, rfl, rfl, hall⟩
          rw [← hl, List.take_length] at hall
          have fin : ∀ b : Bool, b = (decide (0 < sumD ds) && decide (sumD ds < 10 ^ 30)) → Q (.bl b) H' := by
            rintro b rfl
            have := q
            rw [show rowD (.tuple ds) = (decide (0 < sumD ds) && decide (sumD ds < 10 ^ 30)) by show rowL ds = _; rw [rw1, hall]; rfl] at this
            exact this
          rw [← hl, List.take_length]
          refine ⟨_, rfl, 0, sumD ds, rfl, rfl, decide (0 < sumD ds), rfl, ?_⟩
          cases h3 : decide (0 < sumD ds) with
          | false => exact iteF (fin _ (by rw [h3]; rfl))
          | true =>
            refine iteT ⟨"0", 30, rfl, rfl, by decide, by decide, by decide +kernel, by decide +kernel, _, _, rfl, rfl, by decide +kernel, _, _, rfl, int30, by decide +kernel, sumD ds, 10 ^ 30, rfl, rfl, fin _ (by rw [h3]; rfl)⟩
      | _ => cases ht
end
end K01

namespace K01
open PySem PySem.Spec PyProof.Rows L2 MG
abbrev sBox : Stmt := topS 7
abbrev sTake : Stmt := topS 8
abbrev sOf : Stmt := topS 9
theorem scBox : FnScope ["_law_script", "_law_k", "_law_cell", "_law_own"] ["_law_script", "_law_k"] (defScope sBox) := ⟨rfl, rfl, rfl, by decide +kernel, rfl, by decide +kernel, by decide +kernel⟩
theorem scTake : FnScope ["_law_box_here", "_law_many", "_law_digit", "_law_mixed"] ["_law_box_here", "_law_many"] (defScope sTake) := ⟨rfl, rfl, rfl, by decide +kernel, rfl, by decide +kernel, by decide +kernel⟩
theorem scOf : FnScope ["_law_box_here", "_law_some"] ["_law_box_here", "_law_some"] (defScope sOf) := ⟨rfl, rfl, rfl, by decide +kernel, rfl, by decide +kernel, by decide +kernel⟩

def Box (H : Hp) (b : Addr) (n : Nat) : Prop := ∃ o m c : Int, H b = some (.lst [.int o, .int m, .int c]) ∧ 0 ≤ o ∧ o < 10 ^ 240 ∧ 0 ≤ m ∧ m < 2305843009213693921 ∧ 0 ≤ c ∧ c ≤ n
theorem Box.le {H : Hp} {b : Addr} {n n' : Nat} (h : Box H b n) (hn : n ≤ n') : Box H b n' := by
  obtain ⟨o, m, c, e, h1, h2, h3, h4, h5, h6⟩ := h
  exact ⟨o, m, c, e, h1, h2, h3, h4, h5, by omega⟩

theorem bit (b : Bool) : (-(2 ^ 64) : Int) < (if b = true then 1 else 0) ∧ (if b = true then (1 : Int) else 0) < 2 ^ 64 := by
  cases b <;> decide
theorem modb (x : Int) : (-(2 ^ 64) : Int) < x % 2305843009213693921 ∧ x % 2305843009213693921 < 2 ^ 64 := by
  have h1 := Int.emod_nonneg x (show (2305843009213693921 : Int) ≠ 0 by decide)
  have h2 := Int.emod_lt_of_pos x (show (0 : Int) < 2305843009213693921 by decide)
  omega
theorem own0 (x : Int) (b : Bool) : 0 ≤ x % 10 ^ 240 * (if b = true then 1 else 0) := by
  have := Int.emod_nonneg x (show (10 : Int) ^ 240 ≠ 0 by decide)
  cases b with
  | false => rw [if_neg Bool.false_ne_true]; omega
  | true => rw [if_pos rfl]; omega
theorem own1 (x : Int) (b : Bool) : x % 10 ^ 240 * (if b = true then 1 else 0) < 10 ^ 240 := by
  have := Int.emod_lt_of_pos x (show (0 : Int) < 10 ^ 240 by decide)
  cases b with
  | false => rw [if_neg Bool.false_ne_true, Int.mul_zero]; decide
  | true => rw [if_pos rfl, Int.mul_one]; exact this
section
variable {P : Program} {w : World} {K : PySem.W.Frag} {mg : Str → Option Value} {base : Heap}
def spBox (K : PySem.W.Frag) : Sp := fun vs H Q _ => ∃ (a : Addr) (ns : List Int) (k : Int), vs = [.ref a, .int k] ∧ SqL K H a (ns.map V.int) ∧ 0 ≤ k ∧ k ≤ 63 ∧
  ∀ p H', H p = none → Same H H' → Box H' p 0 → (∀ a, a ≠ p → H' a = H a) → Q (.ref p) H'
theorem ok_box {f : Addr} {fd : FuncData} {k : Nat} (F : Fun K "_law_box" "_law_box" sBox f fd) (ml : mg "len" = none) (mab : mg "abs" = none) (mI : mg "int" = none) :
    FnOk P w K mg base CX0 (k + 1) f fd ["_law_script", "_law_k"] (spBox K) := by
  refine F.ok scBox (fun vs H Q E h => ?_) (fun cdv A outer s H vs Q E hr h => ?_)
  · obtain ⟨a, ns, k, rfl, _⟩ := h
    rfl
  · obtain ⟨a, ns, k, rfl, hS, k0, k1, q⟩ := h
    refine ⟨_, pss_cons (ps_set (i := 2) scBox.nd rfl (.inl rfl) (pe_ifExp
          (pt_cmpR op_lt (pv 1) (pe_callB call_len_seq (by rfl) ml PySem.boot_len (pa_cons (pv 0) pa_nil)) (nomark _))
          (pe_ix ix_list (pv 0) (pv 1) (fun _ _ => rfl)) pe_int))
      (pss_cons (ps_set (i := 3) scBox.nd rfl (.inl rfl) (pe_op op_mul
          (pe_op op_mod (pe_callB call_abs (by rfl) mab (by decide +kernel) (pa_cons (pv 2) pa_nil))
            (pe_op op_mulW (pe_op op_mulW (pe_op op_mulW (pe_op op_pow pe_int pe_int) (pe_op op_pow pe_int pe_int)) (pe_op op_pow pe_int pe_int)) (pe_op op_pow pe_int pe_int)))
          (pe_callTy call_int1 (by rfl) mI (by decide +kernel) (pa_cons (pe_cmpR op_ge (pe_callB call_abs (by rfl) mab (by decide +kernel) (pa_cons (pv 2) pa_nil)) (pe_op op_pow pe_int pe_int) (nomark _)) pa_nil))))
      (pss_one (ps_ret (pe_lst (pa_cons (pv 3) (pa_cons
          (pe_op op_mod (pe_op op_mul (pe_op op_add (pe_op op_add (pe_op op_mod (pv 2) pe_int) (pe_op op_mul (pe_op op_mul pe_int (pv 1)) (pv 1))) pe_int) pe_int) pe_int)
          (pa_cons pe_int pa_nil))))))), ?_⟩
    have fin : ∀ o : Int, 0 ≤ o → o < 10 ^ 240 → ∀ m : Int, 0 ≤ m → m < 2305843009213693921 → ∀ p, H p = none → Q (.ref p) (upd H p (.lst [.int o, .int m, .int 0])) := by
      intro o o0 o1 m m0 m1 p hp
      refine q p _ hp (same_upd hp) ⟨o, m, 0, upd_same, o0, o1, m0, m1, by omega, by omega⟩ ?_
      intro a ha
      exact upd_ne ha
    have kk : (-(2 ^ 64) : Int) < k ∧ k < 2 ^ 64 := ⟨by omega, by omega⟩
    have w1 : CMulW ((10 : Int) ^ (60 : Int).toNat) (10 ^ (60 : Int).toNat) := by unfold CMulW; decide +kernel
    have w2 : CMulW ((10 : Int) ^ (60 : Int).toNat * 10 ^ (60 : Int).toNat) (10 ^ (60 : Int).toNat) := by unfold CMulW; decide +kernel
    have w3 : CMulW ((10 : Int) ^ (60 : Int).toNat * 10 ^ (60 : Int).toNat * 10 ^ (60 : Int).toNat) (10 ^ (60 : Int).toNat) := by unfold CMulW; decide +kernel
    have cp : CPow 10 60 := ⟨by decide, by decide, by decide⟩
    have cq : CPow 10 18 := ⟨by decide, by decide, by decide⟩
    have pos : (0 : Int) < 10 ^ (60 : Int).toNat * 10 ^ (60 : Int).toNat * 10 ^ (60 : Int).toNat * 10 ^ (60 : Int).toNat := by decide +kernel
    have emod : (10 : Int) ^ (60 : Int).toNat * 10 ^ (60 : Int).toNat * 10 ^ (60 : Int).toNat * 10 ^ (60 : Int).toNat = 10 ^ 240 := by decide +kernel
    refine ⟨_, rfl, .ref a, rfl, a, _, rfl, .inl hS, _, _, rfl, rfl, _, rfl, ite2 (fun hk => ?_) (fun hk => ?_)⟩
    · have hk' := of_decide_eq_true hk
      rw [List.length_map] at hk'
      obtain ⟨j, rfl⟩ : ∃ j : Nat, k = (j : Int) := ⟨k.toNat, by omega⟩
      have hj : j < ns.length := by omega
      refine ⟨.ref a, rfl, _, rfl, a, _, (j : Int), .int ns[j], rfl, rfl, hS, atI_nat (by rw [List.getElem?_map, List.getElem?_eq_getElem hj]; rfl), ?_⟩
      generalize ns[j] = cell
      refine ⟨.int cell, rfl, cell, rfl, 10, 60, rfl, rfl, cp, 10, 60, rfl, rfl, cp, _, _, rfl, rfl, w1, 10, 60, rfl, rfl, cp, _, _, rfl, rfl, w2, 10, 60, rfl, rfl, cp, _, _, rfl, rfl, w3, _, _, rfl, rfl, pos, ?_⟩
      refine ⟨.int cell, rfl, cell, rfl, 10, 18, rfl, rfl, cq, _, _, rfl, rfl, .inr ⟨_, rfl, _, _, rfl, rfl, .inr (bit _), ?_⟩⟩
      refine ⟨_, rfl, _, rfl, cell, 2305843009213693951, rfl, rfl, (by show (0 : Int) < 2305843009213693951; decide), _, rfl, 7919, (j : Int), rfl, rfl, .inl ⟨by decide, by decide⟩, _, rfl, _, (j : Int), rfl, rfl, .inr kk, _, _, rfl, rfl, _, 43, rfl, rfl, _, 48271, rfl, rfl, .inr ⟨by decide, by decide⟩, _, _, rfl, rfl, (by show (0 : Int) < 2305843009213693921; decide), ?_⟩
      refine ⟨by show 3 ≤ sizeLine; decide, ?_⟩
      rw [emod]
      exact fin _ (own0 _ _) (own1 _ _) _ (Int.emod_nonneg _ (by decide)) (Int.emod_lt_of_pos _ (by decide))
    · skip
      refine ⟨.int 0, rfl, 0, rfl, 10, 60, rfl, rfl, cp, 10, 60, rfl, rfl, cp, _, _, rfl, rfl, w1, 10, 60, rfl, rfl, cp, _, _, rfl, rfl, w2, 10, 60, rfl, rfl, cp, _, _, rfl, rfl, w3, _, _, rfl, rfl, pos, ?_⟩
      refine ⟨.int 0, rfl, 0, rfl, 10, 18, rfl, rfl, cq, _, _, rfl, rfl, .inr ⟨_, rfl, _, _, rfl, rfl, .inr (bit _), ?_⟩⟩
      refine ⟨_, rfl, _, rfl, 0, 2305843009213693951, rfl, rfl, (by show (0 : Int) < 2305843009213693951; decide), _, rfl, 7919, k, rfl, rfl, .inl ⟨by decide, by decide⟩, _, rfl, _, k, rfl, rfl, .inr kk, _, _, rfl, rfl, _, 43, rfl, rfl, _, 48271, rfl, rfl, .inr ⟨by decide, by decide⟩, _, _, rfl, rfl, (by show (0 : Int) < 2305843009213693921; decide), ?_⟩
      refine ⟨by show 3 ≤ sizeLine; decide, ?_⟩
      rw [emod]
      exact fin _ (own0 _ _) (own1 _ _) _ (Int.emod_nonneg _ (by decide)) (Int.emod_lt_of_pos _ (by decide))

def spTake : Sp := fun vs H Q _ => ∃ b many n, vs = [.ref b, .int many] ∧ Box H b n ∧ n ≤ 1000000 ∧ 1 ≤ many ∧ many ≤ 10 ^ 18 ∧
  ∀ r H', 0 ≤ r → r < many → Box H' b (n + 1) → (∀ a, a ≠ b → H' a = H a) → Q (.int r) H'
theorem ok_take {f : Addr} {fd : FuncData} {k : Nat} (F : Fun K "_law_take" "_law_take" sTake f fd) :
    FnOk P w K mg base CX0 (k + 1) f fd ["_law_box_here", "_law_many"] spTake := by
  refine F.ok scTake (fun vs H Q E h => ?_) (fun cdv A outer s H vs Q E hr h => ?_)
  · obtain ⟨b, many, n, rfl, _⟩ := h
    rfl
  · obtain ⟨b, many, n, rfl, ⟨o, m, c, e, h1, h2, h3, h4, h5, h6⟩, hn, m1, m2, q⟩ := h
    refine ⟨_, pss_cons (ps_if (pt_cmpR op_gt (pe_ix ix_list (pv 0) pe_int (fun _ _ => rfl)) pe_int (nomark _))
        (pss_cons (ps_set (i := 2) scTake.nd rfl (.inl rfl) (pe_op op_mod (pe_ix ix_list (pv 0) pe_int (fun _ _ => rfl)) (pv 1)))
        (pss_cons (ps_asg (pe_op op_fdivW (pe_ix ix_list (pv 0) pe_int (fun _ _ => rfl)) (pv 1)) (pg_sub (pv 0) pe_int set_list))
        (pss_one (ps_ret (pv 2))))) pss_nil)
      (pss_cons (ps_asg (pe_op op_add (pe_ix ix_list (pv 0) pe_int (fun _ _ => rfl)) pe_int) (pg_sub (pv 0) pe_int set_list))
      (pss_cons (ps_set (i := 3) scTake.nd rfl (.inl rfl) (pe_op op_mod (pe_op op_mul
          (pe_op op_add (pe_op op_add (pe_ix ix_list (pv 0) pe_int (fun _ _ => rfl)) (pe_op op_mul (pe_op op_mul pe_int (pe_ix ix_list (pv 0) pe_int (fun _ _ => rfl))) (pe_ix ix_list (pv 0) pe_int (fun _ _ => rfl)))) pe_int) pe_int) pe_int))
      (pss_cons (ps_set (i := 3) scTake.nd rfl (.inl rfl) (pe_op op_mod (pe_op op_mul (pv 3)
          (pe_op op_add (pe_op op_mod (pv 3) pe_int) (pe_op op_mul pe_int (pe_ix ix_list (pv 0) pe_int (fun _ _ => rfl))))) pe_int))
      (pss_one (ps_ret (pe_op op_mod (pe_op op_add (pe_op op_fdiv (pv 3) pe_int) (pe_op op_fdiv (pv 3) pe_int)) (pv 1))))))), ?_⟩
    have hdiv : CDivW o many := wide_div (b := 64) (by omega) (by omega) (by decide) (by decide)
    have hmany : (fun (_ j : Int) => 0 < j) o many := show 0 < many by omega
    refine ⟨.ref b, rfl, b, _, 0, .int o, rfl, rfl, SqL.of e, atI_nat (j := 0) rfl, o, 0, rfl, rfl, _, rfl, ite2 (fun ho => ?_) (fun ho => ?_)⟩
    · refine ⟨.ref b, rfl, b, _, 0, .int o, rfl, rfl, SqL.of e, atI_nat (j := 0) rfl, _, rfl, o, many, rfl, rfl, hmany, ?_⟩
      refine ⟨.ref b, rfl, b, _, 0, .int o, rfl, rfl, SqL.of e, atI_nat (j := 0) rfl, _, rfl, o, many, rfl, rfl, hdiv, .ref b, rfl, b, _, 0, 0, rfl, rfl, e, rfl, ?_⟩
      refine ⟨_, rfl, ?_⟩
      refine q _ _ (Int.emod_nonneg _ (by omega)) (Int.emod_lt_of_pos _ (by omega)) ⟨o / many, m, c, upd_same, ?_, ?_, h3, h4, h5, by omega⟩ ?_
      · exact Int.ediv_nonneg h1 (by omega)
      · exact Int.lt_of_le_of_lt (Int.ediv_le_self _ h1) h2
      · intro a ha
        exact upd_ne ha
    · have hc1 : (-(2 ^ 64) : Int) < c + 1 ∧ c + 1 < 2 ^ 64 := ⟨by omega, by omega⟩
      refine ⟨.ref b, rfl, b, _, 2, .int c, rfl, rfl, SqL.of e, atI_nat (j := 2) rfl, c, 1, rfl, rfl, .ref b, rfl, b, _, 2, 2, rfl, rfl, e, rfl, ?_⟩
      generalize hH : upd H b (HO.lst (List.set [V.int o, V.int m, V.int c] 2 (V.int (c + 1)))) = H2
      have e2 : H2 b = some (.lst [.int o, .int m, .int (c + 1)]) := by rw [← hH]; exact upd_same
      have off : ∀ a, a ≠ b → H2 a = H a := fun a ha => by rw [← hH]; exact upd_ne ha
      refine ⟨.ref b, rfl, b, _, 1, .int m, rfl, rfl, SqL.of e2, atI_nat (j := 1) rfl, .ref b, rfl, b, _, 2, .int (c + 1), rfl, rfl, SqL.of e2, atI_nat (j := 2) rfl, 65537, c + 1, rfl, rfl, .inr hc1, .ref b, rfl, b, _, 2, .int (c + 1), rfl, rfl, SqL.of e2, atI_nat (j := 2) rfl, _, c + 1, rfl, rfl, .inr hc1, m, _, rfl, rfl, _, 11, rfl, rfl, _, 48271, rfl, rfl, .inr ⟨by decide, by decide⟩, _, _, rfl, rfl, (by show (0 : Int) < 2305843009213693921; decide), ?_⟩
      refine ⟨_, rfl, _, rfl, _, 1000003, rfl, rfl, (by show (0 : Int) < 1000003; decide), .ref b, rfl, b, _, 2, .int (c + 1), rfl, rfl, SqL.of e2, atI_nat (j := 2) rfl, 99991, c + 1, rfl, rfl, .inr hc1, _, _, rfl, rfl, _, _, rfl, rfl, .inl (modb _), _, _, rfl, rfl, (by show (0 : Int) < 2305843009213693907; decide), ?_⟩
      refine ⟨_, rfl, _, 97, rfl, rfl, ⟨by decide, by decide⟩, _, rfl, _, 1000033, rfl, rfl, ⟨by decide, by decide⟩, _, _, rfl, rfl, .int many, rfl, _, many, rfl, rfl, (by show (0 : Int) < many; omega), ?_⟩
      refine q _ _ (Int.emod_nonneg _ (by omega)) (Int.emod_lt_of_pos _ (by omega)) ⟨o, m, c + 1, e2, h1, h2, h3, h4, by omega, by omega⟩ off

def spOf : Sp := fun vs H Q _ => ∃ b l n xs, vs = [.ref b, .ref l] ∧ Box H b n ∧ n ≤ 1000000 ∧ H l = some (.lst xs) ∧ b ≠ l ∧ 1 ≤ xs.length ∧ xs.length ≤ 1000 ∧
  ∀ x H', x ∈ xs → Box H' b (n + 1) → (∀ a, a ≠ b → H' a = H a) → Q x H'
theorem ok_of {f fT : Addr} {fd fdT : FuncData} {k : Nat} (F : Fun K "_law_of" "_law_of" sOf f fd) (FT : Fun K "_law_take" "_law_take" sTake fT fdT) (bT : Binds K fdT ["_law_box_here", "_law_many"] [])
    (gT : mg "_law_take" = some (.ref fT)) (ml : mg "len" = none) :
    FnOk P w K mg base CX0 (k + 2) f fd ["_law_box_here", "_law_some"] spOf := by
  have GT : FnOk P w K mg base CX0 (k + 1) fT fdT ["_law_box_here", "_law_many"] spTake := ok_take FT
  refine F.ok scOf (fun vs H Q E h => ?_) (fun cdv A outer s H vs Q E hr h => ?_)
  · obtain ⟨b, l, n, xs, rfl, _⟩ := h
    rfl
  · obtain ⟨b, l, n, xs, rfl, hB, hn, hx, ne, l1, l2, q⟩ := h
    refine ⟨_, pss_one (ps_ret (pe_ix ix_list (pv 1) (pe_call GT hr (by rfl) gT FT.kp bT .nil pass0 (pa_cons (pv 0) (pa_cons
      (pe_callB call_len_seq (by rfl) ml PySem.boot_len (pa_cons (pv 1) pa_nil)) pa_nil))) (fun _ _ => rfl))), ?_⟩
    refine ⟨.ref l, rfl, .ref b, rfl, .ref l, rfl, l, xs, rfl, .inl (SqL.of hx), b, (xs.length : Int), n, rfl, hB, hn, by omega, by omega, ?_⟩
    intro r H' r0 r1 hB' hk
    have hxl : H' l = some (.lst xs) := by rw [hk l (Ne.symm ne)]; exact hx
    obtain ⟨j, rfl⟩ : ∃ j : Nat, r = (j : Int) := ⟨r.toNat, by omega⟩
    have hj : j < xs.length := by omega
    exact ⟨l, xs, (j : Int), xs[j], rfl, rfl, SqL.of hxl, atI_nat (List.getElem?_eq_getElem hj), q _ H' (List.getElem_mem hj) hB' hk⟩
end
end K01

namespace K01
open PySem PySem.Spec PyProof.Rows L2 MG

/-! ### what stays while the box is drawn from -/
def SX (b : Addr) (H H' : Hp) : Prop := ∀ a o, a ≠ b → H a = some o → H' a = some o
theorem SX.refl (b : Addr) (H : Hp) : SX b H H := fun _ _ _ h => h
theorem SX.trans {b : Addr} {H H1 H2 : Hp} (x : SX b H H1) (y : SX b H1 H2) : SX b H H2 := fun a o n h => y a o n (x a o n h)
theorem SX.of_same {b : Addr} {H H' : Hp} (h : Same H H') : SX b H H' := fun a o _ e => h a o e
theorem SX.of_eq {b : Addr} {H H' : Hp} (h : ∀ a, a ≠ b → H' a = H a) : SX b H H' := fun a o n e => by rw [h a n]; exact e
theorem SX.new {b : Addr} {H H' : Hp} {p : Addr} {o : HO} (x : SX b H H') (hp : H' p = none) : SX b H (upd H' p o) := x.trans (.of_same (same_upd hp))
theorem SX.free {b p : Addr} {H H' : Hp} {n : Nat} (x : SX b H H') (hB : Box H' b n) (h : H' p = none) : H p = none := by
  cases e : H p with
  | none => rfl
  | some o =>
    by_cases hb : p = b
    · subst hb
      obtain ⟨_, _, _, z, _⟩ := hB
      rw [h] at z
      cases z
    · rw [x p o hb e] at h
      cases h
theorem Box.at {H H' : Hp} {b : Addr} {n : Nat} (h : Box H b n) (e : H' b = H b) : Box H' b n := by
  obtain ⟨o, m, c, z, r⟩ := h
  exact ⟨o, m, c, by rw [e]; exact z, r⟩
theorem Box.new {H : Hp} {b p : Addr} {n : Nat} {o : HO} (h : Box H b n) (hp : H p = none) : Box (upd H p o) b n := by
  obtain ⟨_, _, _, z, _⟩ := id h
  exact h.at (upd_ne (ne_of_none z hp))
theorem Box.some {H : Hp} {b : Addr} {n : Nat} (h : Box H b n) : H b ≠ none := by
  obtain ⟨_, _, _, z, _⟩ := h
  rw [z]
  exact fun q => nomatch q

/-- the heap without what is changed -/
def rmS (S : List Addr) (H : Hp) : Hp := fun a => if a ∈ S then none else H a
theorem rmS_at {S : List Addr} {H : Hp} {a : Addr} (h : a ∉ S) : rmS S H a = H a := if_neg h
theorem rmS_same (S : List Addr) (H : Hp) : Same (rmS S H) H := fun a o e => by
  unfold rmS at e
  by_cases h : a ∈ S
  · rw [if_pos h] at e; cases e
  · rw [if_neg h] at e; exact e
theorem rmS_sx {S : List Addr} {b : Addr} {H H' : Hp} (hb : b ∈ S) (x : SX b H H') : Same (rmS S H) (rmS S H') := fun a o e => by
  unfold rmS at e ⊢
  by_cases h : a ∈ S
  · rw [if_pos h] at e; cases e
  · rw [if_neg h] at e ⊢
    exact x a o (fun z => h (z ▸ hb)) e
/-- the addresses left out stand in H -/
def InS (S : List Addr) (b : Addr) (H : Hp) : Prop := b ∈ S ∧ ∀ a ∈ S, H a ≠ none
theorem InS.not {S : List Addr} {b p : Addr} {H : Hp} (h : InS S b H) (hp : H p = none) : p ∉ S := fun z => h.2 p z hp
theorem InS.sx {S : List Addr} {b : Addr} {H H' : Hp} {n : Nat} (h : InS S b H) (x : SX b H H') (hB : Box H' b n) : InS S b H' := by
  refine ⟨h.1, fun a ha => ?_⟩
  by_cases hb : a = b
  · subst hb; exact hB.some
  · cases e : H a with
    | none => exact absurd e (h.2 a ha)
    | some o => rw [x a o hb e]; exact fun q => nomatch q

theorem Da.tup2 {H : Hp} {n c1 c2 : Nat} {a : Addr} {x y : V} (e : H a = some (.tup [x, y])) (h1 : Da H n c1 x) (h2 : Da H n c2 y) : Da H (n + 1) (c1 + c2 + 7) (.ref a) := by
  obtain ⟨d1, a1, b1, e1, f1⟩ := h1
  obtain ⟨d2, a2, b2, e2, f2⟩ := h2
  refine ⟨.tuple [d1, d2], .tup e (.cons a1 (.cons a2 .nil)), ?_, ?_, ?_⟩
  · show (d1.showable && (d2.showable && true)) = true
    rw [b1, b2]; rfl
  · show max d1.depth (max d2.depth 0) + 1 ≤ n + 1
    omega
  · have h := tupleText_le (PyData.shownAll [d1, d2])
    have h3 : piled (PyData.shownAll [d1, d2]) = (d1.shown.length + 2) + ((d2.shown.length + 2) + 0) := by
      show piled [d1.shown, d2.shown] = _
      rw [piled_cons, piled_cons, piled_nil]
    show (tupleText (PyData.shownAll [d1, d2])).length ≤ _
    omega
theorem Da.tup1 {H : Hp} {n c : Nat} {a : Addr} {x : V} (e : H a = some (.tup [x])) (h : Da H n c x) : Da H (n + 1) (c + 5) (.ref a) :=
  (Da.tup (m := 1) e (fun y hy => by rw [List.mem_singleton.mp hy]; exact h) (Nat.le_refl _)).le (Nat.le_refl _) (by omega)
theorem Da.lst1 {H : Hp} {n c : Nat} {a : Addr} {x : V} (e : H a = some (.lst [x])) (h : Da H n c x) : Da H (n + 1) (c + 5) (.ref a) :=
  (Da.lst (m := 1) e (fun y hy => by rw [List.mem_singleton.mp hy]; exact h) (Nat.le_refl _)).le (Nat.le_refl _) (by omega)
theorem Da.tup0 {H : Hp} {a : Addr} (e : H a = some (.tup [])) : Da H 1 3 (.ref a) :=
  (Da.tup (n := 0) (c := 0) (m := 0) e (fun y hy => absurd hy List.not_mem_nil) (Nat.le_refl _)).le (Nat.le_refl _) (by omega)

/-! ### tuples: slices, sums, many times, as one object or another -/
theorem cut_all {xs : List V} {lo hi : Option Int} (h : HT.sIx xs.length 0 lo = 0 ∧ HT.sIx xs.length xs.length hi = xs.length) : cutV xs lo hi = xs := by
  unfold cutV
  rw [h.1, h.2, List.drop_zero, Nat.sub_zero, List.take_length]
theorem slA {K : PySem.W.Frag} {H : Hp} {Q : VK} {a : Addr} {xs : List V} {lo hi : Option Int} (e : H a = some (.tup xs))
    (q : ∀ p H', Same H H' → (p = a ∨ H p = none) → H' p = some (.tup (cutV xs lo hi)) → Q (.ref p) H') : rSlA K (.ref a) lo hi H Q := by
  refine ⟨a, xs, rfl, SqT.of e, fun h => ?_, fun h p np => ?_⟩
  · exact q a H (Same.refl H) (.inl rfl) (by rw [cut_all h]; exact e)
  · exact q p _ (same_upd np) (.inr np) upd_same
theorem catA {K : PySem.W.Frag} {H : Hp} {Q : VK} {a b : Addr} {xs ys : List V} (e : H a = some (.tup xs)) (e2 : H b = some (.tup ys)) (hz : xs.length + ys.length ≤ sizeLine)
    (q : ∀ p H', Same H H' → (p = a ∨ p = b ∨ H p = none) → H' p = some (.tup (xs ++ ys)) → Q (.ref p) H') : rCatA K (.ref a) (.ref b) H Q := by
  refine ⟨a, b, xs, ys, rfl, rfl, SqT.of e, SqT.of e2, hz, fun h => ?_, fun h1 h2 => ?_, fun h1 h2 p np => ?_⟩
  · subst h
    exact q b H (Same.refl H) (.inr (.inl rfl)) e2
  · subst h2
    exact q a H (Same.refl H) (.inl rfl) (by rw [List.append_nil]; exact e)
  · exact q p _ (same_upd np) (.inr (.inr np)) upd_same
theorem repA {K : PySem.W.Frag} {H : Hp} {Q : VK} {a : Addr} {x : V} {k : Int} (e : H a = some (.tup [x])) (h0 : 0 ≤ k) (h1 : k ≤ 1000)
    (q : ∀ p H', Same H H' → (p = a ∨ H p = none) → H' p = some (.tup (List.replicate k.toNat x)) → Q (.ref p) H') : rRepA K (.ref a) (.int k) H Q := by
  have er : (List.replicate k.toNat [x]).flatten = List.replicate k.toNat x := by
    induction k.toNat with
    | zero => rfl
    | succ n ih => rw [List.replicate_succ, List.flatten_cons, ih]; rfl
  refine ⟨a, k, [x], rfl, rfl, SqT.of e, List.cons_ne_nil _ _, h0, h1, (by show 1 ≤ 1000; decide), fun h => ?_, fun h p np => ?_⟩
  · subst h
    exact q a H (Same.refl H) (.inl rfl) e
  · refine q p _ (same_upd np) (.inr np) ?_
    rw [upd_same, er]
theorem cut_mem {xs : List V} {lo hi : Option Int} {x : V} (h : x ∈ cutV xs lo hi) : x ∈ xs := by
  unfold cutV at h
  exact List.mem_of_mem_drop (List.mem_of_mem_take h)
theorem cut_len (xs : List V) (lo hi : Option Int) : (cutV xs lo hi).length ≤ xs.length := by
  unfold cutV
  rw [List.length_take, List.length_drop]
  omega
end K01

namespace K01
open PySem PySem.Spec PyProof.Rows L2 MG
abbrev sDrawn : Stmt := topS 11
abbrev sDeep : Stmt := topS 13
theorem scDrawn : FnScope ["_law_box_here", "_law_many", "_law_some", "_law_turn"] ["_law_box_here"] (defScope sDrawn) := ⟨rfl, rfl, rfl, by decide +kernel, rfl, by decide +kernel, by decide +kernel⟩
theorem scDeep : FnScope ["_law_box_here", "_law_odd", "_law_turn"] ["_law_box_here"] (defScope sDeep) := ⟨rfl, rfl, rfl, by decide +kernel, rfl, by decide +kernel, by decide +kernel⟩

section
variable {P : Program} {w : World} {K : PySem.W.Frag} {mg : Str → Option Value} {base : Heap}
def spDrawn : Sp := fun vs H Q _ => ∃ b n, vs = [.ref b] ∧ Box H b n ∧ n ≤ 900000 ∧
  ∀ p H' (ns : List Int), H p = none → 1 ≤ ns.length → ns.length ≤ 12 → (∀ x ∈ ns, 0 ≤ x ∧ x < 10 ^ 29) → Box H' b (n + 20) → SX b H H' → H' p = some (.tup (ns.map V.int)) → Q (.ref p) H'
theorem ok_drawn {f fT fO : Addr} {fd fdT fdO : FuncData} {k : Nat} (F : Fun K "_law_drawn" "_law_drawn" sDrawn f fd)
    (FT : Fun K "_law_take" "_law_take" sTake fT fdT) (bT : Binds K fdT ["_law_box_here", "_law_many"] []) (gT : mg "_law_take" = some (.ref fT))
    (FO : Fun K "_law_of" "_law_of" sOf fO fdO) (bO : Binds K fdO ["_law_box_here", "_law_some"] []) (gO : mg "_law_of" = some (.ref fO))
    (ml : mg "len" = none) (mT : mg "tuple" = none) (mR : mg "range" = none) :
    FnOk P w K mg base CX0 (k + 3) f fd ["_law_box_here"] spDrawn := by
  have GT : FnOk P w K mg base CX0 (k + 1) fT fdT ["_law_box_here", "_law_many"] spTake := ok_take FT
  have GO : FnOk P w K mg base CX0 (k + 2) fO fdO ["_law_box_here", "_law_some"] spOf := ok_of FO FT bT gT ml
  refine F.ok scDrawn (fun vs H Q E h => ?_) (fun cdv A outer s H vs Q E hr h => ?_)
  · obtain ⟨b, n, rfl, _⟩ := h
    rfl
  · obtain ⟨b, n, rfl, hB, hn, q⟩ := h
    have hr1 := hr.mono (show k + 1 ≤ k + 2 by omega)
    refine ⟨_, pss_cons (ps_set (i := 1) scDrawn.nd rfl (.inl rfl) (pe_op op_add pe_int (pe_call GT hr1 (by rfl) gT FT.kp bT .nil pass0 (pa_cons (pv 0) (pa_cons pe_int pa_nil)))))
      (pss_cons (ps_set (i := 2) scDrawn.nd rfl (.inr rfl) (pe_lst (pa_cons pe_int (pa_cons pe_int (pa_cons pe_int (pa_cons pe_int (pa_cons
          (pe_call GT hr1 (by rfl) gT FT.kp bT .nil pass0 (pa_cons (pv 0) (pa_cons pe_int pa_nil)))
          (pa_cons (pe_op op_pow pe_int pe_int) (pa_cons (pe_op op_sub (pe_op op_mul pe_int (pe_op op_pow pe_int pe_int))
            (pe_call GT hr1 (by rfl) gT FT.kp bT .nil pass0 (pa_cons (pv 0) (pa_cons (pe_op op_pow pe_int pe_int) pa_nil)))) pa_nil)))))))))
      (pss_one (ps_ret (pe_callTy call_tuple_of (by rfl) mT (by decide +kernel) (pa_cons
        (pe_lc (own := [("_law_turn", 3)]) (g := gName 3) (tt := tYes) rfl scDrawn.nd (pi_range1 rfl mR (pa_cons (pv 1) pa_nil))
          (blkOk_by (N := ["_law_box_here", "_law_many", "_law_some", "_law_turn"]) (sc := defScope sDrawn) (by decide +kernel))
          (fun _ _ _ _ _ => pg_name (i := 3) scDrawn.nd rfl (Or.inl rfl)) (fun _ _ _ _ _ => pts_nil)
          (fun _ _ _ _ _ => pe_call GO hr (by rfl) gO FO.kp bO .nil pass0 (pa_cons (pv 0) (pa_cons (pv 2) pa_nil)))) pa_nil))))), ?_⟩
    refine ⟨.ref b, rfl, b, 12, n, rfl, hB, by omega, by decide, by decide, fun r H1 r0 r1 hB1 k1 => ⟨1, r, rfl, rfl, ?_⟩⟩
    refine ⟨.ref b, rfl, b, 1000, n + 1, rfl, hB1, by omega, by decide, by decide, fun r2 H2 r20 r21 hB2 k2 => ?_⟩
    refine ⟨10, 28, rfl, rfl, ⟨by decide, by decide, by decide⟩, 10, 28, rfl, rfl, ⟨by decide, by decide, by decide⟩, 8, _, rfl, rfl, .inl ⟨by decide, by decide⟩, .ref b, rfl, 10, 18, rfl, rfl, ⟨by decide, by decide, by decide⟩, b, 10 ^ 18, n + 1 + 1, rfl, hB2, by omega, by decide, by decide, fun r3 H3 r30 r31 hB3 k3 => ⟨_, r3, rfl, rfl, ?_⟩⟩
    refine ⟨by show 7 ≤ sizeLine; decide, fun l nl => ?_⟩
    generalize hH4 : upd H3 l _ = H4
    have el : H4 l = some (.lst [.int 0, .int 1, .int 2, .int 7, .int r2, .int (10 ^ (28 : Int).toNat), .int (8 * 10 ^ (28 : Int).toNat - r3)]) := by rw [← hH4]; exact upd_same
    have x4 : SX b H H4 := by
      rw [← hH4]
      exact (((SX.of_eq k1).trans (SX.of_eq k2)).trans (SX.of_eq k3)).new nl
    have hB4 : Box H4 b (n + 1 + 1 + 1) := by rw [← hH4]; exact hB3.new nl
    refine ⟨_, rfl, 1 + r, rfl, by omega, by omega, fun D nD => ?_⟩
    have nDb : b ≠ D := by
      obtain ⟨_, _, _, z, _⟩ := id hB4
      exact ne_of_none z nD
    have nDl : l ≠ D := ne_of_none el nD
    have nbl : b ≠ l := by
      obtain ⟨_, _, _, z, _⟩ := id hB3
      exact ne_of_none z nl
    refine lc_range (lo := 0) (n := (1 + r).toNat) (fun i H' => SX b H H' ∧ Box H' b (n + 3 + i) ∧ H' l = H4 l ∧ ∃ ns : List Int, ns.length = i ∧ (∀ x ∈ ns, 0 ≤ x ∧ x < 10 ^ 29) ∧ H' D = some (.lst (ns.map V.int))) ?_ ?_ ?_
    · exact ⟨x4.new nD, (hB4.new nD).le (by omega), upd_ne nDl, [], rfl, fun x hx => absurd hx List.not_mem_nil, upd_same⟩
    · rintro i H' hi ⟨x', hB', el', ns, hl, hns, hD⟩
      have i12 : i < 12 := by omega
      have el2 : H' l = some (.lst [.int 0, .int 1, .int 2, .int 7, .int r2, .int (10 ^ (28 : Int).toNat), .int (8 * 10 ^ (28 : Int).toNat - r3)]) := by rw [el']; exact el
      refine ⟨rfl, .ref b, rfl, .ref l, rfl, b, l, n + 3 + i, _, rfl, hB', by omega, el2, nbl, by show 1 ≤ 7; decide, by show 7 ≤ 1000; decide, fun x H'' hx hB'' k'' => ?_⟩
      obtain ⟨v, rfl, hv0, hv1⟩ : ∃ v : Int, x = .int v ∧ 0 ≤ v ∧ v < 10 ^ 29 := by
        have e28 : (10 : Int) ^ (28 : Int).toNat = 10000000000000000000000000000 := by decide
        rw [e28] at hx
        simp only [List.mem_cons, List.not_mem_nil, or_false] at hx
        rcases hx with h | h | h | h | h | h | h <;> exact ⟨_, h, by omega, by omega⟩
      refine ⟨ns.map V.int, by rw [k'' D (Ne.symm nDb)]; exact hD, ?_, ?_, ?_, ?_, ns ++ [v], ?_, ?_, ?_⟩
      · rw [List.length_map, hl]
        exact small1000 (by omega)
      · intro a o na ha
        have : a ≠ D := fun z => by
          subst z
          have := x4 a o na ha
          rw [nD] at this
          cases this
        rw [upd_ne this, k'' a na]
        exact x' a o na ha
      · exact (hB''.at (upd_ne nDb)).le (by omega)
      · rw [upd_ne nDl, k'' l (Ne.symm nbl)]
        exact el'
      · rw [List.length_append, hl]
        rfl
      · intro y hy
        rcases List.mem_append.mp hy with hy | hy
        · exact hns y hy
        · rw [List.mem_singleton.mp hy]
          exact ⟨hv0, hv1⟩
      · rw [upd_same, List.map_append]
        rfl
    · rintro H' ⟨x', hB', el', ns, hl, hns, hD⟩
      refine ⟨D, _, rfl, .inl ⟨SqL.of hD, fun p np => ?_⟩⟩
      exact q p _ ns (x'.free hB' np) (by omega) (by omega) hns ((hB'.new np).le (by omega)) (x'.new np) upd_same

/-- where a def that draws from the box leaves data -/
def spDeep : Sp := fun vs H Q _ => ∃ S b n, vs = [.ref b] ∧ Box H b n ∧ n ≤ 900000 ∧ InS S b H ∧
  ∀ v H', Box H' b (n + 30) → SX b H H' → Da (rmS S H') 30 7000 v → Q v H'
theorem ok_deep {f fT fO : Addr} {fd fdT fdO : FuncData} {k : Nat} (F : Fun K "_law_deep" "_law_deep" sDeep f fd)
    (FT : Fun K "_law_take" "_law_take" sTake fT fdT) (bT : Binds K fdT ["_law_box_here", "_law_many"] []) (gT : mg "_law_take" = some (.ref fT))
    (FO : Fun K "_law_of" "_law_of" sOf fO fdO) (bO : Binds K fdO ["_law_box_here", "_law_some"] []) (gO : mg "_law_of" = some (.ref fO))
    (ml : mg "len" = none) (mR : mg "range" = none) :
    FnOk P w K mg base CX0 (k + 3) f fd ["_law_box_here"] spDeep := by
  have GT : FnOk P w K mg base CX0 (k + 1) fT fdT ["_law_box_here", "_law_many"] spTake := ok_take FT
  have GO : FnOk P w K mg base CX0 (k + 2) fO fdO ["_law_box_here", "_law_some"] spOf := ok_of FO FT bT gT ml
  refine F.ok scDeep (fun vs H Q E h => ?_) (fun cdv A outer s H vs Q E hr h => ?_)
  · obtain ⟨S, b, n, rfl, _⟩ := h
    rfl
  · obtain ⟨S, b, n, rfl, hB, hn, hI, q⟩ := h
    have hr1 := hr.mono (show k + 1 ≤ k + 2 by omega)
    refine ⟨_, pss_cons (ps_set (i := 1) scDeep.nd rfl (.inl rfl) (pe_call GO hr (by rfl) gO FO.kp bO .nil pass0 (pa_cons (pv 0) (pa_cons
          (pe_lst (pa_cons pe_non (pa_cons pe_int (pa_cons pe_str (pa_cons (pe_tup (pa_cons pe_int pa_nil)) (pa_cons (pe_tup pa_nil) (pa_cons pe_bl (pa_cons (pe_lst (pa_cons pe_int pa_nil)) pa_nil)))))))) pa_nil))))
      (pss_cons (ps_for PassesOwn.never rfl (pi_range1 rfl mR (pa_cons (pe_call GT hr1 (by rfl) gT FT.kp bT .nil pass0 (pa_cons (pv 0) (pa_cons pe_int pa_nil))) pa_nil)) (pg_name (i := 2) scDeep.nd rfl (.inl rfl))
        (pss_one (ps_set (i := 1) scDeep.nd rfl (.inl rfl) (pe_call GO hr (by rfl) gO FO.kp bO .nil pass0 (pa_cons (pv 0) (pa_cons
          (pe_lst (pa_cons (pe_tup (pa_cons (pv 1) pa_nil)) (pa_cons (pe_lst (pa_cons (pv 1) pa_nil)) (pa_cons
            (pe_disp (pps_cons pe_str (pv 1) pps_nil) (by rfl) (by rfl) (fun z => by cases z) (by decide)) (pa_cons (pe_tup (pa_cons (pv 1) (pa_cons pe_int pa_nil))) pa_nil))))) pa_nil))))))
      (pss_one (ps_ret (pv 1)))), ?_⟩
    have bz : ∃ o, H b = some o := by
      obtain ⟨_, _, _, z, _⟩ := hB
      exact ⟨_, z⟩
    refine ⟨.ref b, rfl, by show 1 ≤ sizeLine; decide, fun p1 n1 => ⟨by show 0 ≤ sizeLine; decide, fun p2 n2 => ⟨by show 1 ≤ sizeLine; decide, fun p3 n3 => ⟨by show 7 ≤ sizeLine; decide, fun l nl => ?_⟩⟩⟩⟩
    generalize hH1 : upd H p1 (HO.tup [V.int 1]) = H1 at n2 n3 nl ⊢
    generalize hH2 : upd H1 p2 (HO.tup []) = H2 at n3 nl ⊢
    generalize hH3 : upd H2 p3 (HO.lst [V.int 2]) = H3 at nl ⊢
    generalize hH4 : upd H3 l (HO.lst _) = H4
    have s1 : Same H H1 := by rw [← hH1]; exact same_upd n1
    have s2 : Same H1 H2 := by rw [← hH2]; exact same_upd n2
    have s3 : Same H2 H3 := by rw [← hH3]; exact same_upd n3
    have s4 : Same H3 H4 := by rw [← hH4]; exact same_upd nl
    have e1 : H4 p1 = some (.tup [.int 1]) := s4 _ _ (s3 _ _ (s2 _ _ (by rw [← hH1]; exact upd_same)))
    have e2 : H4 p2 = some (.tup []) := s4 _ _ (s3 _ _ (by rw [← hH2]; exact upd_same))
    have e3 : H4 p3 = some (.lst [.int 2]) := s4 _ _ (by rw [← hH3]; exact upd_same)
    have el : H4 l = some (.lst [.non, .int 1, .str "1", .ref p1, .ref p2, .bl true, .ref p3]) := by rw [← hH4]; exact upd_same
    have s14 : Same H H4 := s1.trans (s2.trans (s3.trans s4))
    have f2 : H p2 = none := s1.free n2
    have f3 : H p3 = none := (s1.trans s2).free n3
    have fl : H l = none := (s1.trans (s2.trans s3)).free nl
    obtain ⟨bo, bz⟩ := bz
    have hB4 : Box H4 b n := hB.at (by rw [s14 _ _ bz, bz])
    refine ⟨b, l, n, _, rfl, hB4, by omega, el, ne_of_none bz fl, by show 1 ≤ 7; decide, by show 7 ≤ 1000; decide, fun x H5 hx hB5 k5 => ?_⟩
    have at5 : ∀ p o, H p = none → H4 p = some o → rmS S H5 p = some o := fun p o np e => by
      rw [rmS_at (hI.not np), k5 p (ne_of_none bz np).symm]
      exact e
    have dx : Da (rmS S H5) 2 320 x := by
      simp only [List.mem_cons, List.not_mem_nil, or_false] at hx
      rcases hx with rfl | rfl | rfl | rfl | rfl | rfl | rfl
      · exact Da.non.le (by decide) (by decide)
      · exact (Da.int (by decide)).le (by decide) (by decide)
      · exact (Da.str _ (c := 5) (by decide +kernel)).le (by decide) (by decide)
      · exact (Da.tup1 (at5 _ _ n1 e1) (Da.int (by decide))).le (by decide) (by decide)
      · exact (Da.tup0 (at5 _ _ f2 e2)).le (by decide) (by decide)
      · exact (Da.bl true).le (by decide) (by decide)
      · exact (Da.lst1 (at5 _ _ f3 e3) (Da.int (by decide))).le (by decide) (by decide)
    have x5 : SX b H H5 := (SX.of_same s14).trans (SX.of_eq k5)
    refine ⟨.ref b, rfl, b, 20, n + 1, rfl, hB5, by omega, by decide, by decide, fun r H6 r0 r1 hB6 k6 => ⟨r, rfl, by omega, by omega, ?_⟩⟩
    have x6 : SX b H H6 := x5.trans (SX.of_eq k6)
    refine for_range (lo := 0) (n := r.toNat) (fun i σ H' => ∃ v y2, σ = [some (.ref b), some v, y2] ∧ SX b H H' ∧ Box H' b (n + 2 + i) ∧ Da (rmS S H') (2 + i) (320 + 310 * i) v) ?_ ?_ ?_
    · exact ⟨x, none, rfl, x6, hB6, dx.same (rmS_sx hI.1 (SX.of_eq k6))⟩
    · rintro i σ H' hi ⟨v, y2, rfl, x', hB', dv⟩
      have hI' : InS S b H' := hI.sx x' hB'
      obtain ⟨bo', bz'⟩ : ∃ o, H' b = some o := by
        obtain ⟨_, _, _, z, _⟩ := hB'
        exact ⟨_, z⟩
      refine ⟨.ref b, rfl, v, rfl, by show 1 ≤ sizeLine; decide, fun p1 n1 => ⟨v, rfl, by show 1 ≤ sizeLine; decide, fun p2 n2 => ?_⟩⟩
      refine fun p3 n3 => ⟨v, rfl, upd_same, [(.inr "1", v)], rfl, (by show 1 ≤ 15; decide), v, rfl, by show 2 ≤ sizeLine; decide, fun p4 n4 => ⟨by show 4 ≤ sizeLine; decide, fun l nl => ?_⟩⟩
      have emg : mergeK [] [((Sum.inr "1" : Key), v)] = ([(Sum.inr "1", v)] : List (Key × V)) := by rfl
      rw [emg] at n4 nl ⊢
      rw [upd_upd] at n4 nl ⊢
      generalize hG1 : upd H' p1 (HO.tup [v]) = G1 at n2 n3 n4 nl ⊢
      generalize hG2 : upd G1 p2 (HO.lst [v]) = G2 at n3 n4 nl ⊢
      generalize hG3 : upd G2 p3 (HO.dK [(Sum.inr "1", v)]) = G3 at n4 nl ⊢
      generalize hG4 : upd G3 p4 (HO.tup [v, V.int 1]) = G4 at nl ⊢
      generalize hG5 : upd G4 l (HO.lst [V.ref p1, V.ref p2, V.ref p3, V.ref p4]) = G5
      have s1 : Same H' G1 := by rw [← hG1]; exact same_upd n1
      have s2 : Same G1 G2 := by rw [← hG2]; exact same_upd n2
      have s3 : Same G2 G3 := by rw [← hG3]; exact same_upd n3
      have s4 : Same G3 G4 := by rw [← hG4]; exact same_upd n4
      have s5 : Same G4 G5 := by rw [← hG5]; exact same_upd nl
      have s15 : Same H' G5 := s1.trans (s2.trans (s3.trans (s4.trans s5)))
      have e1 : G5 p1 = some (.tup [v]) := s5 _ _ (s4 _ _ (s3 _ _ (s2 _ _ (by rw [← hG1]; exact upd_same))))
      have e2 : G5 p2 = some (.lst [v]) := s5 _ _ (s4 _ _ (s3 _ _ (by rw [← hG2]; exact upd_same)))
      have e3 : G5 p3 = some (.dK [(Sum.inr "1", v)]) := s5 _ _ (s4 _ _ (by rw [← hG3]; exact upd_same))
      have e4 : G5 p4 = some (.tup [v, .int 1]) := s5 _ _ (by rw [← hG4]; exact upd_same)
      have el : G5 l = some (.lst [.ref p1, .ref p2, .ref p3, .ref p4]) := by rw [← hG5]; exact upd_same
      have f2 : H' p2 = none := s1.free n2
      have f3 : H' p3 = none := (s1.trans s2).free n3
      have f4 : H' p4 = none := (s1.trans (s2.trans s3)).free n4
      have fl : H' l = none := (s1.trans (s2.trans (s3.trans s4))).free nl
      have hB5' : Box G5 b (n + 2 + i) := hB'.at (by rw [s15 _ _ bz', bz'])
      refine ⟨b, l, n + 2 + i, _, rfl, hB5', by omega, el, ne_of_none bz' fl, by show 1 ≤ 4; decide, by show 4 ≤ 1000; decide, fun y H7 hy hB7 k7 => ?_⟩
      have at7 : ∀ p o, H' p = none → G5 p = some o → rmS S H7 p = some o := fun p o np e => by
        rw [rmS_at (hI'.not np), k7 p (ne_of_none bz' np).symm]
        exact e
      have x7 : SX b H' H7 := (SX.of_same s15).trans (SX.of_eq k7)
      have dv7 : Da (rmS S H7) (2 + i) (320 + 310 * i) v := dv.same (rmS_sx hI.1 x7)
      refine ⟨y, _, rfl, x'.trans x7, hB7, ?_⟩
      simp only [List.mem_cons, List.not_mem_nil, or_false] at hy
      rcases hy with rfl | rfl | rfl | rfl
      · exact (Da.tup1 (at7 _ _ n1 e1) dv7).le (by omega) (by omega)
      · exact (Da.lst1 (at7 _ _ f2 e2) dv7).le (by omega) (by omega)
      · exact (Da.dic1 (at7 _ _ f3 e3) dv7 (by decide +kernel)).le (by omega) (by omega)
      · exact (Da.tup2 (at7 _ _ f4 e4) dv7 ((Da.int (by decide)).le (Nat.zero_le _) (Nat.le_refl _))).le (by omega) (by omega)
    · rintro σ H' ⟨v, y2, rfl, x', hB', dv⟩
      refine ⟨v, rfl, q v H' (hB'.le (by omega)) x' (dv.le (by omega) (by omega))⟩
end
end K01

namespace K01
open PySem PySem.Spec PyProof.Rows L2 MG

/-- things built one behind the other, data without what S names -/
structure Bt (S : List Addr) (b : Addr) (n : Nat) (H G : Hp) (N C : Nat) (built : List V) : Prop where
  ins : InS S b G
  sx : SX b H G
  box : Box G b n
  all : ∀ x ∈ built, Da (rmS S G) N C x
section
variable {S : List Addr} {b : Addr} {n : Nat} {H G G' : Hp} {N C : Nat} {built : List V} {p : Addr} {x : V} {xs : List V} {o : HO}
theorem Bt.grow (B : Bt S b n H G N C built) (s : Same G G') : Bt S b n H G' N C built := by
  have hB : Box G' b n := by
    obtain ⟨_, _, _, z, _⟩ := id B.box
    exact B.box.at (by rw [s _ _ z, z])
  exact ⟨B.ins.sx (.of_same s) hB, B.sx.trans (.of_same s), hB, fun y hy => (B.all y hy).same (rmS_sx B.ins.1 (.of_same s))⟩
theorem Bt.le (B : Bt S b n H G N C built) {n' N' C' : Nat} (h1 : n ≤ n') (h2 : N ≤ N') (h3 : C ≤ C') : Bt S b n' H G N' C' built :=
  ⟨B.ins, B.sx, B.box.le h1, fun y hy => (B.all y hy).le h2 h3⟩
theorem Bt.add (B : Bt S b n H G N C built) (h : Da (rmS S G) N C x) : Bt S b n H G N C (built ++ [x]) :=
  ⟨B.ins, B.sx, B.box, fun y hy => by
    rcases List.mem_append.mp hy with hy | hy
    · exact B.all y hy
    · rw [List.mem_singleton.mp hy]; exact h⟩
theorem Bt.free (B : Bt S b n H G N C built) (hp : G p = none) : H p = none := B.sx.free B.box hp
theorem Bt.at (B : Bt S b n H G N C built) (hp : H p = none) (h : G p = some o) (hS : p ∉ S) : rmS S G p = some o := by
  rw [rmS_at hS]; exact h
theorem Bt.draw {n' : Nat} (B : Bt S b n H G N C built) (hB : Box G' b n') (k : ∀ a, a ≠ b → G' a = G a) : Bt S b n' H G' N C built :=
  ⟨B.ins.sx (.of_eq k) hB, B.sx.trans (.of_eq k), hB, fun y hy => (B.all y hy).same (rmS_sx B.ins.1 (.of_eq k))⟩
/-- a new list that is to be changed -/
theorem Bt.lst (B : Bt S b n H G N C built) (hp : G p = none) : Bt (p :: S) b n H (upd G p o) N C built := by
  have B' := B.grow (G' := upd G p o) (same_upd hp)
  refine ⟨⟨List.mem_cons_of_mem _ B'.ins.1, fun a ha => ?_⟩, B'.sx, B'.box, fun y hy => (B.all y hy).same fun a u e => ?_⟩
  · rcases List.mem_cons.mp ha with rfl | ha
    · rw [upd_same]; exact fun z => nomatch z
    · exact B'.ins.2 a ha
  · have h1 := rmS_same S G a u e
    have h2 : a ∉ S := fun z => by
      unfold rmS at e
      rw [if_pos z] at e
      cases e
    have h3 : a ≠ p := ne_of_none h1 hp
    rw [rmS_at (fun z => (List.mem_cons.mp z).elim h3 h2), upd_ne h3]
    exact h1
theorem Bt.set (B : Bt S b n H G N C built) (hp : p ∈ S) (hb : b ≠ p) (hH : H p = none) : Bt S b n H (upd G p o) N C built := by
  refine ⟨⟨B.ins.1, fun a ha => ?_⟩, fun a u na e => ?_, B.box.at (upd_ne hb), fun y hy => (B.all y hy).same fun a u e => ?_⟩
  · by_cases h : a = p
    · subst h; rw [upd_same]; exact fun z => nomatch z
    · rw [upd_ne h]; exact B.ins.2 a ha
  · rw [upd_ne (ne_of_none e hH)]; exact B.sx a u na e
  · have h2 : a ∉ S := fun z => by
      unfold rmS at e
      rw [if_pos z] at e
      cases e
    rw [rmS_at h2, upd_ne (fun z => h2 (by rw [z]; exact hp))]
    exact rmS_same S G a u e
end
/-- tuples of whole numbers -/
theorem Bt.tup {S : List Addr} {b : Addr} {n : Nat} {H G : Hp} {built : List V} {p : Addr} {xs : List V} (B : Bt S b n H G 2 5000 built) (hp : p ∉ S) (e : G p = some (.tup xs))
    (hl : xs.length ≤ 14) (hx : ∀ x ∈ xs, ∃ i : Int, x = .int i ∧ i.natAbs < 2 ^ 200) : Bt S b n H G 2 5000 (built ++ [.ref p]) := by
  refine B.add ((Da.tup (n := 0) (c := 301) (m := 14) (by rw [rmS_at hp]; exact e) (fun x h => ?_) hl).le (by decide) (by decide))
  obtain ⟨i, rfl, hi⟩ := hx x h
  exact Da.int (Nat.lt_trans hi (by decide))
theorem ints1 {a : Int} (h : a.natAbs < 2 ^ 200) : ∀ x ∈ [V.int a], ∃ i : Int, x = .int i ∧ i.natAbs < 2 ^ 200 := fun x hx => by
  rw [List.mem_singleton.mp hx]; exact ⟨a, rfl, h⟩
theorem ints_cons {a : Int} {xs : List V} (h : a.natAbs < 2 ^ 200) (r : ∀ x ∈ xs, ∃ i : Int, x = .int i ∧ i.natAbs < 2 ^ 200) : ∀ x ∈ V.int a :: xs, ∃ i : Int, x = .int i ∧ i.natAbs < 2 ^ 200 := fun x hx => by
  rcases List.mem_cons.mp hx with rfl | hx
  · exact ⟨a, rfl, h⟩
  · exact r x hx
theorem ints_rep {a : Int} {k : Nat} (h : a.natAbs < 2 ^ 200) : ∀ x ∈ List.replicate k (V.int a), ∃ i : Int, x = .int i ∧ i.natAbs < 2 ^ 200 := fun x hx => by
  rw [List.eq_of_mem_replicate hx]; exact ⟨a, rfl, h⟩

abbrev sEdges : Stmt := topS 14
theorem scEdges : FnScope ["_law_box_here", "_law_most", "_law_more", "_law_found"] ["_law_box_here"] (defScope sEdges) := ⟨rfl, rfl, rfl, by decide +kernel, rfl, by decide +kernel, by decide +kernel⟩
theorem int930 : PySem.intText? (repText "9" (30 : Int).toNat) = some (10 ^ 30 - 1) := by decide +kernel
section
variable {P : Program} {w : World} {K : PySem.W.Frag} {mg : Str → Option Value} {base : Heap}
def spEdges : Sp := fun vs H Q _ => ∃ S b n, vs = [.ref b] ∧ Box H b n ∧ n ≤ 900000 ∧ InS S b H ∧
  ∀ l xs H', H l = none → H' l = some (.lst xs) → xs.length ≤ 20 → Bt (l :: S) b (n + 1) H H' 2 5000 xs → Q (.ref l) H'
theorem ok_edges {f fT : Addr} {fd fdT : FuncData} {k : Nat} (F : Fun K "_law_edges" "_law_edges" sEdges f fd)
    (FT : Fun K "_law_take" "_law_take" sTake fT fdT) (bT : Binds K fdT ["_law_box_here", "_law_many"] []) (gT : mg "_law_take" = some (.ref fT)) (mI : mg "int" = none) :
    FnOk P w K mg base CX0 (k + 2) f fd ["_law_box_here"] spEdges := by
  have GT : FnOk P w K mg base CX0 (k + 1) fT fdT ["_law_box_here", "_law_many"] spTake := ok_take FT
  refine F.ok scEdges (fun vs H Q E h => ?_) (fun cdv A outer s H vs Q E hr h => ?_)
  · obtain ⟨S, b, n, rfl, _⟩ := h
    rfl
  · obtain ⟨S, b, n, rfl, hB, hn, hI, q⟩ := h
    refine ⟨_, pss_cons (ps_par (i := 1) (j := 2) rfl scEdges.nd rfl rfl (by decide) rfl rfl (pa_cons (pe_callTy call_int_str (by rfl) mI (by decide +kernel) (pa_cons (pe_op repS pe_str pe_int) pa_nil))
        (pa_cons (pe_call GT hr (by rfl) gT FT.kp bT .nil pass0 (pa_cons (pv 0) (pa_cons (pe_op op_pow pe_int pe_int) pa_nil))) pa_nil)) (by rfl))
      (pss_cons (ps_set (i := 3) scEdges.nd rfl (.inl rfl) (pe_lst
        (pa_cons (pe_tup (pa_cons (pv 1) pa_nil))
        (pa_cons (pe_tup (pa_cons (pv 1) (pa_cons pe_int pa_nil)))
        (pa_cons (pe_tup (pa_cons (pe_op op_sub (pv 1) (pv 2)) (pa_cons (pv 2) pa_nil)))
        (pa_cons (pe_tup (pa_cons (pe_op op_sub (pv 1) (pv 2)) (pa_cons (pe_op op_add (pv 2) pe_int) pa_nil)))
        (pa_cons (pe_tup (pa_cons pe_int (pa_cons (pv 1) (pa_cons pe_int pa_nil))))
        (pa_cons (pe_tup (pa_cons pe_int pa_nil))
        (pa_cons (pe_op op_repA (pe_tup (pa_cons pe_int pa_nil)) pe_int)
        (pa_cons (pe_tup pa_nil) pa_nil))))))))))
      (pss_cons (ps_expr (pe_bm PySem.F.plainAttrs_list PySem.F.slot_list_extend PySem.F.type_list_extend mt_extend (pv 3) (pa_cons (pe_lst
        (pa_cons (pe_op op_repA (pe_tup (pa_cons pe_int pa_nil)) pe_int)
        (pa_cons (pe_op op_repA (pe_tup (pa_cons pe_int pa_nil)) pe_int)
        (pa_cons (pe_op op_catA (pe_op op_repA (pe_tup (pa_cons pe_int pa_nil)) pe_int) (pe_tup (pa_cons pe_int pa_nil)))
        (pa_cons (pe_op op_catA (pe_op op_repA (pe_tup (pa_cons pe_int pa_nil)) pe_int) (pe_tup (pa_cons pe_int pa_nil)))
        (pa_cons pe_int (pa_cons pe_non (pa_cons pe_str (pa_cons (pe_lst (pa_cons pe_int (pa_cons pe_int pa_nil)))
        (pa_cons pe_dnewK (pa_cons pe_bl (pa_cons (pe_tup (pa_cons pe_bl pa_nil)) pa_nil)))))))))))) pa_nil)))
      (pss_one (ps_ret (pv 3))))), ?_⟩
    refine ⟨"9", 30, rfl, rfl, by decide, by decide, by decide +kernel, by decide +kernel, _, _, rfl, int930, by decide +kernel, .ref b, rfl, 10, 18, rfl, rfl, ⟨by decide, by decide, by decide⟩, b, 10 ^ 18, n, rfl, hB, by omega, by decide, by decide, fun r H1 r0 r1 hB1 k1 => ⟨_, _, rfl, ?_⟩⟩
    have B0 : Bt S b (n + 1) H H1 2 5000 [] := ⟨hI.sx (.of_eq k1) hB1, .of_eq k1, hB1, fun x hx => absurd hx List.not_mem_nil⟩
    have lo : ∀ {S' : List Addr} {G : Hp} {p a : Addr}, InS S' b G → (p = a ∨ G p = none) → a ∉ S' → p ∉ S' := fun hi h ha => by
      rcases h with rfl | h
      · exact ha
      · exact hi.not h
    -- (most,)
    refine ⟨_, rfl, by show 1 ≤ sizeLine; decide, fun p1 n1 => ?_⟩
    have B1 := (B0.grow (same_upd n1)).tup (B0.ins.not n1) upd_same (by show 1 ≤ 14; decide) (ints1 (a := 10 ^ 30 - 1) (by decide))
    generalize upd H1 p1 _ = G1 at B1 ⊢
    -- (most, 1)
    refine ⟨_, rfl, by show 2 ≤ sizeLine; decide, fun p2 n2 => ?_⟩
    have B2 := (B1.grow (same_upd n2)).tup (B1.ins.not n2) upd_same (by show 2 ≤ 14; decide) (ints_cons (a := 10 ^ 30 - 1) (by decide) (ints1 (a := 1) (by decide)))
    generalize upd G1 p2 _ = G2 at B2 ⊢
    -- (most - more, more)
    refine ⟨_, rfl, _, rfl, 10 ^ 30 - 1, r, rfl, rfl, _, rfl, by show 2 ≤ sizeLine; decide, fun p3 n3 => ?_⟩
    have B3 := (B2.grow (same_upd n3)).tup (B2.ins.not n3) upd_same (by show 2 ≤ 14; decide) (ints_cons (a := 10 ^ 30 - 1 - r) (by omega) (ints1 (a := r) (by omega)))
    generalize upd G2 p3 _ = G3 at B3 ⊢
    -- (most - more, more + 1)
    refine ⟨_, rfl, _, rfl, 10 ^ 30 - 1, r, rfl, rfl, _, rfl, r, 1, rfl, rfl, by show 2 ≤ sizeLine; decide, fun p4 n4 => ?_⟩
    have B4 := (B3.grow (same_upd n4)).tup (B3.ins.not n4) upd_same (by show 2 ≤ 14; decide) (ints_cons (a := 10 ^ 30 - 1 - r) (by omega) (ints1 (a := r + 1) (by omega)))
    generalize upd G3 p4 _ = G4 at B4 ⊢
    -- (0, most, 0)
    refine ⟨_, rfl, by show 3 ≤ sizeLine; decide, fun p5 n5 => ?_⟩
    have B5 := (B4.grow (same_upd n5)).tup (B4.ins.not n5) upd_same (by show 3 ≤ 14; decide) (ints_cons (a := 0) (by decide) (ints_cons (a := 10 ^ 30 - 1) (by decide) (ints1 (a := 0) (by decide))))
    generalize upd G4 p5 _ = G5 at B5 ⊢
    -- (0,)
    refine ⟨by show 1 ≤ sizeLine; decide, fun p6 n6 => ?_⟩
    have B6 := (B5.grow (same_upd n6)).tup (B5.ins.not n6) upd_same (by show 1 ≤ 14; decide) (ints1 (a := 0) (by decide))
    generalize upd G5 p6 _ = G6 at B6 ⊢
    -- (0,) * 12
    refine ⟨by show 1 ≤ sizeLine; decide, fun p7 n7 => ?_⟩
    dsimp only [tC]
    refine repA upd_same (by decide) (by decide) fun p7' H7 s7 d7 e7 => ?_
    have B7 := ((B6.grow (same_upd n7)).grow s7).tup (lo (B6.grow (same_upd n7)).ins d7 (B6.ins.not n7)) e7 (by show (List.replicate 12 _).length ≤ 14; rw [List.length_replicate]; decide) (ints_rep (a := 0) (by decide))
    -- ()
    refine ⟨by show 0 ≤ sizeLine; decide, fun p8 n8 => ⟨by show 8 ≤ sizeLine; decide, fun l nl => ?_⟩⟩
    have B8 := (B7.grow (same_upd n8)).tup (B7.ins.not n8) upd_same (by show 0 ≤ 14; decide) (fun x hx => absurd hx List.not_mem_nil)
    generalize upd H7 p8 _ = G8 at B8 nl ⊢
    have C0 := B8.lst (o := .lst [.ref p1, .ref p2, .ref p3, .ref p4, .ref p5, .ref p6, .ref p7', .ref p8]) nl
    have el0 : upd G8 l (.lst [.ref p1, .ref p2, .ref p3, .ref p4, .ref p5, .ref p6, .ref p7', .ref p8]) l = some (.lst [.ref p1, .ref p2, .ref p3, .ref p4, .ref p5, .ref p6, .ref p7', .ref p8]) := upd_same
    have fl : H l = none := B8.free nl
    generalize hG9 : upd G8 l _ = G9 at C0 el0 ⊢
    refine ⟨.ref l, rfl, .inl ⟨rfl, _, SqL.of el0⟩, ?_⟩
    -- (1,) * 12
    refine ⟨by show 1 ≤ sizeLine; decide, fun q1 m1 => ?_⟩
    dsimp only [tC]
    refine repA upd_same (by decide) (by decide) fun q1' K1 t1 d1 e1 => ?_
    have C1 := ((C0.grow (same_upd m1)).grow t1).tup (lo (C0.grow (same_upd m1)).ins d1 (C0.ins.not m1)) e1 (by show (List.replicate 12 _).length ≤ 14; rw [List.length_replicate]; decide) (ints_rep (a := 1) (by decide))
    have el1 := t1 _ _ (same_upd m1 _ _ el0)
    -- (1,) * 13
    refine ⟨by show 1 ≤ sizeLine; decide, fun q2 m2 => ?_⟩
    dsimp only [tC]
    refine repA upd_same (by decide) (by decide) fun q2' K2 t2 d2 e2 => ?_
    have C2 := ((C1.grow (same_upd m2)).grow t2).tup (lo (C1.grow (same_upd m2)).ins d2 (C1.ins.not m2)) e2 (by show (List.replicate 13 _).length ≤ 14; rw [List.length_replicate]; decide) (ints_rep (a := 1) (by decide))
    have el2 := t2 _ _ (same_upd m2 _ _ el1)
    -- (0,) * 12 + (1,)
    refine ⟨by show 1 ≤ sizeLine; decide, fun q3 m3 => ?_⟩
    dsimp only [tC]
    refine repA upd_same (by decide) (by decide) fun q3' K3 t3 d3 e3 => ?_
    have C3a := (C2.grow (same_upd m3)).grow t3
    have N3 : q3' ∉ l :: S := lo (C2.grow (same_upd m3)).ins d3 (C2.ins.not m3)
    refine ⟨by show 1 ≤ sizeLine; decide, fun q4 m4 => ?_⟩
    refine catA (same_upd m4 _ _ e3) upd_same (by show (List.replicate 12 _).length + 1 ≤ sizeLine; rw [List.length_replicate]; decide) fun q5 K4 t4 d4 e4 => ?_
    have N5 : q5 ∉ l :: S := by
      rcases d4 with z | z | z
      · rw [z]; exact N3
      · rw [z]; exact C3a.ins.not m4
      · exact (C3a.grow (same_upd m4)).ins.not z
    have C4 := ((C3a.grow (same_upd m4)).grow t4).tup N5 e4 (by show (List.replicate 12 _ ++ [_]).length ≤ 14; rw [List.length_append, List.length_replicate]; decide)
      (fun x hx => (List.mem_append.mp hx).elim (ints_rep (a := 0) (by decide) x) (ints1 (a := 1) (by decide) x))
    have el4 := t4 _ _ (same_upd m4 _ _ (t3 _ _ (same_upd m3 _ _ el2)))
    -- (0,) * 11 + (1,)
    refine ⟨by show 1 ≤ sizeLine; decide, fun q6 m6 => ?_⟩
    dsimp only [tC]
    refine repA upd_same (by decide) (by decide) fun q6' K6 t6 d6 e6 => ?_
    have C6a := (C4.grow (same_upd m6)).grow t6
    have N6 : q6' ∉ l :: S := lo (C4.grow (same_upd m6)).ins d6 (C4.ins.not m6)
    refine ⟨by show 1 ≤ sizeLine; decide, fun q7 m7 => ?_⟩
    refine catA (same_upd m7 _ _ e6) upd_same (by show (List.replicate 11 _).length + 1 ≤ sizeLine; rw [List.length_replicate]; decide) fun q8 K7 t7 d7' e7' => ?_
    have N8 : q8 ∉ l :: S := by
      rcases d7' with z | z | z
      · rw [z]; exact N6
      · rw [z]; exact C6a.ins.not m7
      · exact (C6a.grow (same_upd m7)).ins.not z
    have C7 := ((C6a.grow (same_upd m7)).grow t7).tup N8 e7' (by show (List.replicate 11 _ ++ [_]).length ≤ 14; rw [List.length_append, List.length_replicate]; decide)
      (fun x hx => (List.mem_append.mp hx).elim (ints_rep (a := 0) (by decide) x) (ints1 (a := 1) (by decide) x))
    have el7 := t7 _ _ (same_upd m7 _ _ (t6 _ _ (same_upd m6 _ _ el4)))
    -- 1, None, '1 2', [1, 2], {}, True, (True,)
    refine ⟨by show 2 ≤ sizeLine; decide, fun q9 m9 q10 m10 => ⟨by show 1 ≤ sizeLine; decide, fun q11 m11 => ⟨by show 11 ≤ sizeLine; decide, fun z nz => ?_⟩⟩⟩
    have C8 := ((C7.add ((Da.int (i := 1) (by decide)).le (by decide) (by decide))).add (Da.non.le (by decide) (by decide))).add ((Da.str "1 2" (c := 10) (by decide +kernel)).le (by decide) (by decide))
    have C9 := (C8.grow (same_upd m9)).add (x := .ref q9) ((Da.lst (n := 0) (c := 301) (m := 2) (by rw [rmS_at (C8.ins.not m9)]; exact upd_same)
      (fun x hx => by obtain ⟨i, rfl, hi⟩ := ints_cons (a := 1) (by decide) (ints1 (a := 2) (by decide)) x hx; exact Da.int (Nat.lt_trans hi (by decide))) (by decide)).le (by decide) (by decide))
    have el9 := same_upd m9 (o := .lst [.int 1, .int 2]) _ _ el7
    generalize upd K7 q9 _ = K9 at C9 el9 m10 m11 nz ⊢
    have C10 := ((C9.grow (same_upd m10)).add (x := .ref q10) ((Da.dic0 (by rw [rmS_at (C9.ins.not m10)]; exact upd_same)).le (by decide) (by decide))).add ((Da.bl true).le (by decide) (by decide))
    have el10 := same_upd m10 (o := .dK []) _ _ el9
    generalize upd K9 q10 _ = K10 at C10 el10 m11 nz ⊢
    have C11 := (C10.grow (same_upd m11)).add (x := .ref q11) ((Da.tup1 (n := 0) (x := .bl true) (by rw [rmS_at (C10.ins.not m11)]; exact upd_same) (Da.bl true)).le (by decide) (by decide))
    have el11 := same_upd m11 (o := .tup [.bl true]) _ _ el10
    generalize upd K10 q11 _ = K11 at C11 el11 nz ⊢
    have C12 := C11.grow (same_upd nz (o := .lst [.ref q1', .ref q2', .ref q5, .ref q8, .int 1, .non, .str "1 2", .ref q9, .ref q10, .bl true, .ref q11]))
    refine ⟨l, z, _, _, rfl, rfl, same_upd nz _ _ el11, upd_same, by show 8 + 11 ≤ sizeLine; decide, ?_⟩
    refine ⟨.ref l, rfl, ?_⟩
    have bl' : b ≠ l := by
      obtain ⟨_, _, _, w, _⟩ := hB
      exact ne_of_none w fl
    refine q l _ _ fl upd_same (by show 19 ≤ 20; decide) ?_
    exact C12.set List.mem_cons_self bl' fl
end
end K01

namespace K01
open PySem PySem.Spec PyProof.Rows L2 MG
abbrev sBent : Stmt := topS 12
theorem scBent : FnScope ["_law_box_here", "_law_item", "_law_spot", "_law_way", "_law_odd"] ["_law_box_here", "_law_item"] (defScope sBent) := ⟨rfl, rfl, rfl, by decide +kernel, rfl, by decide +kernel, by decide +kernel⟩
def Item (D : Hp) (n c m : Nat) (v : V) : Prop := Da D n c v ∧ ∀ a xs, v = .ref a → D a = some (.tup xs) → xs.length ≤ m ∧ ∀ x ∈ xs, Da D n c x

theorem cut3 (xs : List V) (sp : Int) (h0 : 0 ≤ sp) (h1 : sp ≤ xs.length) :
    (cutV xs none (some sp)).length + (cutV xs (some sp) (some (sp + 1))).length + (cutV xs (some sp) none).length ≤ 2 * xs.length + 1 := by
  have c2 := cut_len xs (some sp) (some (sp + 1))
  obtain ⟨j, rfl⟩ : ∃ j : Nat, sp = (j : Int) := ⟨sp.toNat, by omega⟩
  have e1 : (cutV xs none (some (j : Int))).length ≤ j := by
    unfold cutV
    rw [List.length_take, HT.sIx_none, HT.sIx_nat]
    omega
  have e3 : (cutV xs (some (j : Int)) none).length ≤ xs.length - j := by
    unfold cutV
    rw [List.length_take, List.length_drop, HT.sIx_none, HT.sIx_nat]
    omega
  omega
section
variable {P : Program} {w : World} {K : PySem.W.Frag} {mg : Str → Option Value} {base : Heap}
def spBent : Sp := fun vs H Q _ => ∃ S b n a xs N C m, vs = [.ref b, .ref a] ∧ Box H b n ∧ n ≤ 900000 ∧ InS S b H ∧ a ∉ S ∧ H a = some (.tup xs) ∧ xs.length ≤ m ∧ m ≤ 100 ∧ 1 ≤ N ∧ 310 ≤ C ∧ (∀ x ∈ xs, Da (rmS S H) N C x) ∧
  ∀ v H', Box H' b (n + 5) → SX b H H' → Item (rmS S H') (N + 2) ((2 * m + 1) * (C + 2) + 10) (2 * m + 1) v → Q v H'
theorem ok_bent {f fT fO : Addr} {fd fdT fdO : FuncData} {k : Nat} (F : Fun K "_law_bent" "_law_bent" sBent f fd)
    (FT : Fun K "_law_take" "_law_take" sTake fT fdT) (bT : Binds K fdT ["_law_box_here", "_law_many"] []) (gT : mg "_law_take" = some (.ref fT))
    (FO : Fun K "_law_of" "_law_of" sOf fO fdO) (bO : Binds K fdO ["_law_box_here", "_law_some"] []) (gO : mg "_law_of" = some (.ref fO))
    (ml : mg "len" = none) (mL : mg "list" = none) :
    FnOk P w K mg base CX0 (k + 3) f fd ["_law_box_here", "_law_item"] spBent := by
  have GT : FnOk P w K mg base CX0 (k + 1) fT fdT ["_law_box_here", "_law_many"] spTake := ok_take FT
  have GO : FnOk P w K mg base CX0 (k + 2) fO fdO ["_law_box_here", "_law_some"] spOf := ok_of FO FT bT gT ml
  refine F.ok scBent (fun vs H Q E h => ?_) (fun cdv A outer s H vs Q E hr h => ?_)
  · obtain ⟨S, b, n, a, xs, N, C, m, rfl, _⟩ := h
    rfl
  · obtain ⟨S, b, n, a, xs, N, C, m, rfl, hB, hn, hI, haS, ea, hl, hm, hN, hC, hx, q⟩ := h
    have hr1 := hr.mono (show k + 1 ≤ k + 2 by omega)
    refine ⟨_, pss_cons (ps_par (i := 2) (j := 3) rfl scBent.nd rfl rfl (by decide) rfl rfl
        (pa_cons (pe_call GT hr1 (by rfl) gT FT.kp bT .nil pass0 (pa_cons (pv 0) (pa_cons (pe_op op_add (pe_callB call_len_seq (by rfl) ml PySem.boot_len (pa_cons (pv 1) pa_nil)) pe_int) pa_nil)))
        (pa_cons (pe_call GT hr1 (by rfl) gT FT.kp bT .nil pass0 (pa_cons (pv 0) (pa_cons pe_int pa_nil))) pa_nil)) (by rfl))
      (pss_cons (ps_set (i := 4) scBent.nd rfl (.inl rfl) (pe_call GO hr (by rfl) gO FO.kp bO .nil pass0 (pa_cons (pv 0) (pa_cons (pe_lst
        (pa_cons (pe_un un_neg pe_int) (pa_cons (pe_un un_neg (pe_op op_pow pe_int pe_int)) (pa_cons pe_bl (pa_cons pe_bl (pa_cons pe_non (pa_cons pe_str (pa_cons pe_str
        (pa_cons (pe_tup pa_nil) (pa_cons (pe_tup (pa_cons pe_int pa_nil)) (pa_cons (pe_lst (pa_cons pe_int pa_nil)) (pa_cons pe_dnewK (pa_cons pe_int pa_nil))))))))))))) pa_nil))))
      (pss_cons (ps_if (pt_cmpR op_eq (pv 3) pe_int (nomark _)) (pss_one (ps_ret (pe_op op_catA
          (pe_slice sl_tupA (pv 1) po_none (po_some (pv 2))) (pe_slice sl_tupA (pv 1) (po_some (pe_op op_add (pv 2) pe_int)) po_none)))) pss_nil)
      (pss_cons (ps_if (pt_cmpR op_eq (pv 3) pe_int (nomark _)) (pss_one (ps_ret (pe_op op_catA (pe_op op_catA
          (pe_slice sl_tupA (pv 1) po_none (po_some (pv 2))) (pe_slice sl_tupA (pv 1) (po_some (pv 2)) (po_some (pe_op op_add (pv 2) pe_int))))
          (pe_slice sl_tupA (pv 1) (po_some (pv 2)) po_none)))) pss_nil)
      (pss_cons (ps_if (pt_cmpR op_eq (pv 3) pe_int (nomark _)) (pss_one (ps_ret (pe_op op_catA (pe_op op_catA
          (pe_slice sl_tupA (pv 1) po_none (po_some (pv 2))) (pe_tup (pa_cons (pv 4) pa_nil)))
          (pe_slice sl_tupA (pv 1) (po_some (pv 2)) po_none)))) pss_nil)
      (pss_cons (ps_if (pt_cmpR op_eq (pv 3) pe_int (nomark _)) (pss_one (ps_ret (pe_call GO hr (by rfl) gO FO.kp bO .nil pass0 (pa_cons (pv 0) (pa_cons (pe_lst
          (pa_cons (pe_callTy call_list_of (by rfl) mL (by decide +kernel) (pa_cons (pv 1) pa_nil)) (pa_cons (pe_tup (pa_cons (pv 1) pa_nil)) (pa_cons (pe_op op_catA (pv 1) (pv 1))
          (pa_cons (pe_op op_repA (pe_tup (pa_cons pe_int pa_nil)) (pe_callB call_len_seq (by rfl) ml PySem.boot_len (pa_cons (pv 1) pa_nil)))
          (pa_cons (pe_slice sl_tupA (pv 1) po_none (po_some pe_int)) pa_nil)))))) pa_nil))))) pss_nil)
      (pss_one (ps_ret (pe_op op_catA (pe_op op_catA
          (pe_slice sl_tupA (pv 1) po_none (po_some (pv 2))) (pe_tup (pa_cons (pv 4) pa_nil)))
          (pe_slice sl_tupA (pv 1) (po_some (pe_op op_add (pv 2) pe_int)) po_none))))))))), ?_⟩
    refine ⟨.ref b, rfl, .ref a, rfl, a, xs, rfl, .inr (SqT.of ea), _, 1, rfl, rfl, b, (xs.length : Int) + 1, n, rfl, hB, by omega, by omega, by omega, fun sp H1 sp0 sp1 hB1 k1 => ?_⟩
    refine ⟨.ref b, rfl, b, 8, n + 1, rfl, hB1, by omega, by decide, by decide, fun wy H2 w0 w1 hB2 k2 => ⟨.int sp, .int wy, rfl, ?_⟩⟩
    have nab : a ≠ b := fun z => haS (by rw [z]; exact hI.1)
    have B0 : Bt S b (n + 2) H H2 (N + 2) ((2 * m + 1) * (C + 2) + 10) [] :=
      ⟨hI.sx ((SX.of_eq k1).trans (SX.of_eq k2)) hB2, (SX.of_eq k1).trans (SX.of_eq k2), hB2, fun x hx => absurd hx List.not_mem_nil⟩
    refine ⟨.ref b, rfl, 1, rfl, 10, 29, rfl, rfl, ⟨by decide, by decide, by decide⟩, _, rfl, by show 0 ≤ sizeLine; decide, fun p1 n1 => ⟨by show 1 ≤ sizeLine; decide, fun p2 n2 => ⟨by show 1 ≤ sizeLine; decide, fun p3 n3 p4 n4 => ⟨by show 12 ≤ sizeLine; decide, fun l nl => ?_⟩⟩⟩⟩
    obtain ⟨bo, bz⟩ : ∃ o, H2 b = some o := by
      obtain ⟨_, _, _, z, _⟩ := hB2
      exact ⟨_, z⟩
    have ea2 : H2 a = some (.tup xs) := by rw [k2 a nab, k1 a nab]; exact ea
    generalize hG1 : upd H2 p1 (HO.tup []) = G1 at n2 n3 n4 nl ⊢
    generalize hG2 : upd G1 p2 (HO.tup [V.int 1]) = G2 at n3 n4 nl ⊢
    generalize hG3 : upd G2 p3 (HO.lst [V.int 1]) = G3 at n4 nl ⊢
    generalize hG4 : upd G3 p4 (HO.dK []) = G4 at nl ⊢
    generalize hG5 : upd G4 l (HO.lst _) = G5
    have s1 : Same H2 G1 := by rw [← hG1]; exact same_upd n1
    have s2 : Same G1 G2 := by rw [← hG2]; exact same_upd n2
    have s3 : Same G2 G3 := by rw [← hG3]; exact same_upd n3
    have s4 : Same G3 G4 := by rw [← hG4]; exact same_upd n4
    have s5 : Same G4 G5 := by rw [← hG5]; exact same_upd nl
    have s15 : Same H2 G5 := s1.trans (s2.trans (s3.trans (s4.trans s5)))
    have e1 : G5 p1 = some (.tup []) := s5 _ _ (s4 _ _ (s3 _ _ (s2 _ _ (by rw [← hG1]; exact upd_same))))
    have e2 : G5 p2 = some (.tup [.int 1]) := s5 _ _ (s4 _ _ (s3 _ _ (by rw [← hG2]; exact upd_same)))
    have e3 : G5 p3 = some (.lst [.int 1]) := s5 _ _ (s4 _ _ (by rw [← hG3]; exact upd_same))
    have e4 : G5 p4 = some (.dK []) := s5 _ _ (by rw [← hG4]; exact upd_same)
    have el : G5 l = some (.lst [.int (-1), .int (-(10 ^ (29 : Int).toNat)), .bl true, .bl false, .non, .str "", .str "1", .ref p1, .ref p2, .ref p3, .ref p4, .int 0]) := by rw [← hG5]; exact upd_same
    have f2 : H2 p2 = none := s1.free n2
    have f3 : H2 p3 = none := (s1.trans s2).free n3
    have f4 : H2 p4 = none := (s1.trans (s2.trans s3)).free n4
    have fl : H2 l = none := (s1.trans (s2.trans (s3.trans s4))).free nl
    have hB5 : Box G5 b (n + 1 + 1) := hB2.at (by rw [s15 _ _ bz, bz])
    refine ⟨b, l, n + 1 + 1, _, rfl, hB5, by omega, el, ne_of_none bz fl, by show 1 ≤ 12; decide, by show 12 ≤ 1000; decide, fun odd H3 hodd hB3 k3 => ?_⟩
    have at3 : ∀ p o, H2 p = none → G5 p = some o → rmS S H3 p = some o := fun p o np e => by
      rw [rmS_at (B0.ins.not np), k3 p (ne_of_none bz np).symm]
      exact e
    have dodd : Da (rmS S H3) 1 310 odd := by
      simp only [List.mem_cons, List.not_mem_nil, or_false] at hodd
      rcases hodd with rfl | rfl | rfl | rfl | rfl | rfl | rfl | rfl | rfl | rfl | rfl | rfl
      · exact (Da.int (by decide)).le (by decide) (by decide)
      · exact (Da.int (by decide)).le (by decide) (by decide)
      · exact (Da.bl true).le (by decide) (by decide)
      · exact (Da.bl false).le (by decide) (by decide)
      · exact Da.non.le (by decide) (by decide)
      · exact (Da.str _ (c := 5) (by decide +kernel)).le (by decide) (by decide)
      · exact (Da.str _ (c := 5) (by decide +kernel)).le (by decide) (by decide)
      · exact (Da.tup0 (at3 _ _ n1 e1)).le (by decide) (by decide)
      · exact (Da.tup1 (at3 _ _ f2 e2) (Da.int (by decide))).le (by decide) (by decide)
      · exact (Da.lst1 (at3 _ _ f3 e3) (Da.int (by decide))).le (by decide) (by decide)
      · exact (Da.dic0 (at3 _ _ f4 e4)).le (by decide) (by decide)
      · exact (Da.int (by decide)).le (by decide) (by decide)
    have x3 : SX b H H3 := B0.sx.trans ((SX.of_same s15).trans (SX.of_eq k3))
    have ea3 : H3 a = some (.tup xs) := by rw [k3 a nab]; exact s15 _ _ ea2
    have hI3 : InS S b H3 := hI.sx x3 hB3
    clear hG1 hG2 hG3 hG4 hG5 s1 s2 s3 s4 s5 s15 e1 e2 e3 e4 el f2 f3 f4 fl hB5 at3 hodd
    have big : C + 2 ≤ (2 * m + 1) * (C + 2) := Nat.le_mul_of_pos_left _ (by omega)
    have big2 : m * (C + 2) + (C + 2) ≤ (2 * m + 1) * (C + 2) := by
      rw [show (2 * m + 1) * (C + 2) = m * (C + 2) + m * (C + 2) + (C + 2) by rw [Nat.add_mul, Nat.two_mul, Nat.add_mul, Nat.one_mul]]
      omega
    -- a tuple of parts of the item and the odd thing
    have fin : ∀ p H' zs, Same H3 H' → p ∉ S → H' p = some (.tup zs) → zs.length ≤ 2 * m + 1 → (∀ z ∈ zs, z ∈ xs ∨ z = odd) → Q (.ref p) H' := by
      intro p H' zs sm hp e hlz hz
      have hB' : Box H' b (n + 1 + 1 + 1) := by
        obtain ⟨_, _, _, z, _⟩ := id hB3
        exact hB3.at (by rw [sm _ _ z, z])
      have x' : SX b H H' := x3.trans (.of_same sm)
      have dz : ∀ z ∈ zs, Da (rmS S H') N C z := fun z hz' => by
        rcases hz z hz' with h | h
        · exact (hx z h).same (rmS_sx hI.1 x')
        · rw [h]; exact (dodd.le hN hC).same (rmS_sx hI.1 (.of_same sm))
      have ep : rmS S H' p = some (.tup zs) := by rw [rmS_at hp]; exact e
      refine q _ H' (hB'.le (by omega)) x' ⟨(Da.tup ep dz hlz).le (by omega) (by omega), fun a' ys ha' e' => ?_⟩
      cases ha'
      rw [ep] at e'
      cases e'
      exact ⟨hlz, fun z hz' => (dz z hz').le (by omega) (by omega)⟩
    have nS : ∀ {G : Hp} {p c : Addr}, Same H3 G → (p = c ∨ G p = none) → c ∉ S → p ∉ S := fun sm h hc => by
      rcases h with rfl | h
      · exact hc
      · exact hI3.not (sm.free h)
    have nS2 : ∀ {G : Hp} {p c d : Addr}, Same H3 G → (p = c ∨ p = d ∨ G p = none) → c ∉ S → d ∉ S → p ∉ S := fun sm h hc hd => by
      rcases h with rfl | rfl | h
      · exact hc
      · exact hd
      · exact hI3.not (sm.free h)
    have small : ∀ {n1 n2 : Nat}, n1 ≤ 2 * m + 1 → n2 ≤ 2 * m + 1 → n1 + n2 ≤ sizeLine := fun h1 h2 => by rw [sizeLine_eq]; omega
    refine ⟨.int wy, rfl, rfl, _, rfl, ite2 (fun _ => ?_) (fun _ => ?_)⟩
    · -- item[:spot] + item[spot + 1:]
      refine ⟨.ref a, rfl, .int sp, rfl, sp, rfl, ?_⟩
      refine slA ea3 fun p5 G1 t1 d1 g1 => ?_
      refine ⟨.ref a, rfl, .int sp, rfl, sp, 1, rfl, rfl, sp + 1, rfl, ?_⟩
      dsimp only [tNoPart]
      refine slA (t1 _ _ ea3) fun p6 G2 t2 d2 g2 => ?_
      refine catA (t2 _ _ g1) g2 ?_ fun p7 G3 t3 d3 g3 => ?_
      · exact small (Nat.le_trans (cut_len _ _ _) (by omega)) (Nat.le_trans (cut_len _ _ _) (by omega))
      · refine fin p7 G3 _ (t1.trans (t2.trans t3)) (nS2 (t1.trans t2) d3 (nS (Same.refl _) d1 haS) (nS t1 d2 haS)) g3 ?_ ?_
        · rw [List.length_append]
          have := cut_len xs none (some sp)
          have := cut_len xs (some (sp + 1)) none
          omega
        · intro z hz
          rcases List.mem_append.mp hz with h | h
          · exact .inl (cut_mem h)
          · exact .inl (cut_mem h)
    refine ⟨.int wy, rfl, rfl, _, rfl, ite2 (fun _ => ?_) (fun _ => ?_)⟩
    · -- item[:spot] + item[spot:spot + 1] + item[spot:]
      refine ⟨.ref a, rfl, .int sp, rfl, sp, rfl, ?_⟩
      refine slA ea3 fun p5 G1 t1 d1 g1 => ?_
      refine ⟨.ref a, rfl, .int sp, rfl, sp, rfl, .int sp, rfl, sp, 1, rfl, rfl, sp + 1, rfl, ?_⟩
      refine slA (t1 _ _ ea3) fun p6 G2 t2 d2 g2 => ?_
      have c1 := cut_len xs none (some sp)
      have c2 := cut_len xs (some sp) (some (sp + 1))
      have c3 := cut_len xs (some sp) none
      refine catA (t2 _ _ g1) g2 ?_ fun p7 G3 t3 d3 g3 => ?_
      · exact small (Nat.le_trans c1 (by omega)) (Nat.le_trans c2 (by omega))
      refine ⟨.ref a, rfl, .int sp, rfl, sp, rfl, ?_⟩
      dsimp only [tNoPart]
      refine slA (t3 _ _ (t2 _ _ (t1 _ _ ea3))) fun p8 G4 t4 d4 g4 => ?_
      have N5 : p5 ∉ S := nS (Same.refl _) d1 haS
      have N6 : p6 ∉ S := nS t1 d2 haS
      have N7 : p7 ∉ S := nS2 (t1.trans t2) d3 N5 N6
      have N8 : p8 ∉ S := nS (t1.trans (t2.trans t3)) d4 haS
      have tot : (cutV xs none (some sp)).length + (cutV xs (some sp) (some (sp + 1))).length + (cutV xs (some sp) none).length ≤ 2 * m + 1 := by
        have := cut3 xs sp sp0 (by omega)
        omega
      refine catA (t4 _ _ g3) g4 ?_ fun p9 G5 t5 d5 g5 => ?_
      · refine small ?_ (by omega)
        rw [List.length_append]
        omega
      · refine fin p9 G5 _ (t1.trans (t2.trans (t3.trans (t4.trans t5)))) (nS2 (t1.trans (t2.trans (t3.trans t4))) d5 N7 N8) g5 ?_ ?_
        · rw [List.length_append, List.length_append]
          omega
        · intro z hz
          rcases List.mem_append.mp hz with h | h
          · rcases List.mem_append.mp h with h | h
            · exact .inl (cut_mem h)
            · exact .inl (cut_mem h)
          · exact .inl (cut_mem h)
    refine ⟨.int wy, rfl, rfl, _, rfl, ite2 (fun _ => ?_) (fun _ => ?_)⟩
    · -- item[:spot] + (odd,) + item[spot:]
      refine ⟨.ref a, rfl, .int sp, rfl, sp, rfl, ?_⟩
      refine slA ea3 fun p5 G1 t1 d1 g1 => ?_
      refine ⟨odd, rfl, by show 1 ≤ sizeLine; decide, fun p6 n6 => ?_⟩
      have t2 : Same G1 (upd G1 p6 (.tup [odd])) := same_upd n6
      refine catA (t2 _ _ g1) upd_same ?_ fun p7 G3 t3 d3 g3 => ?_
      · exact small (Nat.le_trans (cut_len _ _ _) (by omega)) (by show 1 ≤ 2 * m + 1; omega)
      refine ⟨.ref a, rfl, .int sp, rfl, sp, rfl, ?_⟩
      dsimp only [tNoPart]
      refine slA (t3 _ _ (t2 _ _ (t1 _ _ ea3))) fun p8 G4 t4 d4 g4 => ?_
      have c1 := cut_len xs none (some sp)
      have c2 := cut_len xs (some sp) none
      have N5 : p5 ∉ S := nS (Same.refl _) d1 haS
      have N6 : p6 ∉ S := hI3.not (t1.free n6)
      have N7 : p7 ∉ S := nS2 (t1.trans t2) d3 N5 N6
      have N8 : p8 ∉ S := nS (t1.trans (t2.trans t3)) d4 haS
      refine catA (t4 _ _ g3) g4 ?_ fun p9 G5 t5 d5 g5 => ?_
      · refine small ?_ (Nat.le_trans c2 (by omega))
        rw [List.length_append]
        show _ + 1 ≤ _
        omega
      · refine fin p9 G5 _ (t1.trans (t2.trans (t3.trans (t4.trans t5)))) (nS2 (t1.trans (t2.trans (t3.trans t4))) d5 N7 N8) g5 ?_ ?_
        · rw [List.length_append, List.length_append]
          have hcut : (cutV xs none (some sp)).length + (cutV xs (some sp) none).length ≤ 2 * m := by omega
          show _ + 1 + _ ≤ _
          omega
        · intro z hz
          rcases List.mem_append.mp hz with h | h
          · rcases List.mem_append.mp h with h | h
            · exact .inl (cut_mem h)
            · exact .inr (List.mem_singleton.mp h)
          · exact .inl (cut_mem h)
    refine ⟨.int wy, rfl, rfl, _, rfl, ite2 (fun _ => ?_) (fun _ => ?_)⟩
    · -- one of [list(item), (item,), item + item, (0,) * len(item), item[:0]]
      have itemT : ∀ p (H' : Hp) zs, p ∉ S → H' p = some (.tup zs) → zs.length ≤ 2 * m + 1 → (∀ z ∈ zs, Da (rmS S H') N C z) → Item (rmS S H') (N + 2) ((2 * m + 1) * (C + 2) + 10) (2 * m + 1) (.ref p) := by
        intro p H' zs hp e hlz dz
        have ep : rmS S H' p = some (.tup zs) := by rw [rmS_at hp]; exact e
        refine ⟨(Da.tup ep dz hlz).le (by omega) (by omega), fun a' ys ha' e' => ?_⟩
        cases ha'
        rw [ep] at e'
        cases e'
        exact ⟨hlz, fun z hz' => (dz z hz').le (by omega) (by omega)⟩
      refine ⟨.ref b, rfl, .ref a, rfl, a, xs, rfl, .inr (SqT.of ea3), fun p5 n5 => ?_⟩
      have t1 : Same H3 (upd H3 p5 (.lst xs)) := same_upd n5
      have g1 : upd H3 p5 (.lst xs) p5 = some (.lst xs) := upd_same
      generalize upd H3 p5 (HO.lst xs) = G1 at t1 g1 ⊢
      refine ⟨.ref a, rfl, by show 1 ≤ sizeLine; decide, fun p6 n6 => ?_⟩
      have t2 : Same G1 (upd G1 p6 (.tup [.ref a])) := same_upd n6
      have g2 : upd G1 p6 (.tup [.ref a]) p6 = some (.tup [.ref a]) := upd_same
      generalize upd G1 p6 (HO.tup [.ref a]) = G2 at t2 g2 ⊢
      have T2 : Same H3 G2 := t1.trans t2
      refine ⟨.ref a, rfl, .ref a, rfl, ?_⟩
      refine catA (T2 _ _ ea3) (T2 _ _ ea3) (small (by omega) (by omega)) fun p7 G3 t3 d3 g3 => ?_
      have T3 : Same H3 G3 := T2.trans t3
      refine ⟨by show 1 ≤ sizeLine; decide, fun p8 n8 => ?_⟩
      have t4 : Same G3 (upd G3 p8 (.tup [.int 0])) := same_upd n8
      refine ⟨.ref a, rfl, a, xs, rfl, .inr (SqT.of (t4 _ _ (T3 _ _ ea3))), ?_⟩
      refine repA (k := (xs.length : Int)) upd_same (by omega) (by omega) fun p9 G5 t5 d5 g5 => ?_
      have T5 : Same H3 G5 := T3.trans (t4.trans t5)
      refine ⟨.ref a, rfl, 0, rfl, ?_⟩
      refine slA (T5 _ _ ea3) fun p10 G6 t6 d6 g6 => ?_
      have T6 : Same H3 G6 := T5.trans t6
      refine ⟨by show 5 ≤ sizeLine; decide, fun l nl => ?_⟩
      have t7 : Same G6 (upd G6 l (.lst [.ref p5, .ref p6, .ref p7, .ref p9, .ref p10])) := same_upd nl
      have g7 : upd G6 l (.lst [.ref p5, .ref p6, .ref p7, .ref p9, .ref p10]) l = some (.lst [.ref p5, .ref p6, .ref p7, .ref p9, .ref p10]) := upd_same
      generalize upd G6 l (HO.lst [.ref p5, .ref p6, .ref p7, .ref p9, .ref p10]) = G7 at t7 g7 ⊢
      have T7 : Same H3 G7 := T6.trans t7
      obtain ⟨bo3, bz3⟩ : ∃ o, H3 b = some o := by
        obtain ⟨_, _, _, z, _⟩ := hB3
        exact ⟨_, z⟩
      have fl : H3 l = none := T6.free nl
      have hB7 : Box G7 b (n + 1 + 1 + 1) := hB3.at (by rw [T7 _ _ bz3, bz3])
      refine ⟨b, l, n + 1 + 1 + 1, _, rfl, hB7, by omega, g7, ne_of_none bz3 fl, by show 1 ≤ 5; decide, by show 5 ≤ 1000; decide, fun y H8 hy hB8 k8 => ?_⟩
      have x8 : SX b H3 H8 := (SX.of_same T7).trans (SX.of_eq k8)
      refine q y H8 (hB8.le (by omega)) (x3.trans x8) ?_
      have dx8 : ∀ z ∈ xs, Da (rmS S H8) N C z := fun z hz => (hx z hz).same (rmS_sx hI.1 (x3.trans x8))
      have neb : ∀ {p : Addr}, p ∉ S → p ≠ b := fun hp z => hp (by rw [z]; exact hI.1)
      have at8 : ∀ p o, p ∉ S → G7 p = some o → H8 p = some o := fun p o hp e => by rw [k8 p (neb hp)]; exact e
      have N5 : p5 ∉ S := hI3.not n5
      have N6 : p6 ∉ S := hI3.not (t1.free n6)
      have N7 : p7 ∉ S := nS2 T2 d3 haS haS
      have N8 : p8 ∉ S := hI3.not (T3.free n8)
      have N9 : p9 ∉ S := nS (T3.trans t4) d5 N8
      have N10 : p10 ∉ S := nS T5 d6 haS
      have ea8 : rmS S H8 a = some (.tup xs) := by rw [rmS_at haS]; exact at8 _ _ haS (T7 _ _ ea3)
      have da8 : Da (rmS S H8) (N + 1) (m * (C + 2) + 3) (.ref a) := Da.tup ea8 dx8 hl
      simp only [List.mem_cons, List.not_mem_nil, or_false] at hy
      rcases hy with rfl | rfl | rfl | rfl | rfl
      · have e5 : rmS S H8 p5 = some (.lst xs) := by rw [rmS_at N5]; exact at8 _ _ N5 (t7 _ _ (t6 _ _ (t5 _ _ (t4 _ _ (t3 _ _ (t2 _ _ g1))))))
        refine ⟨(Da.lst e5 dx8 hl).le (by omega) (by omega), fun a' ys ha' e' => ?_⟩
        cases ha'
        rw [e5] at e'
        cases e'
      · have e6 : rmS S H8 p6 = some (.tup [.ref a]) := by rw [rmS_at N6]; exact at8 _ _ N6 (t7 _ _ (t6 _ _ (t5 _ _ (t4 _ _ (t3 _ _ g2)))))
        refine ⟨(Da.tup1 e6 da8).le (by omega) (by omega), fun a' ys ha' e' => ?_⟩
        cases ha'
        rw [e6] at e'
        cases e'
        refine ⟨by show 1 ≤ 2 * m + 1; omega, fun z hz => ?_⟩
        rw [List.mem_singleton.mp hz]
        exact da8.le (by omega) (by omega)
      · refine itemT p7 H8 _ N7 (at8 _ _ N7 (t7 _ _ (t6 _ _ (t5 _ _ (t4 _ _ g3))))) (by rw [List.length_append]; omega) fun z hz => ?_
        rcases List.mem_append.mp hz with h | h
        · exact dx8 z h
        · exact dx8 z h
      · refine itemT p9 H8 _ N9 (at8 _ _ N9 (t7 _ _ (t6 _ _ g5))) (by rw [List.length_replicate]; omega) fun z hz => ?_
        rw [List.eq_of_mem_replicate hz]
        exact (Da.int (by decide)).le (by omega) (by omega)
      · exact itemT p10 H8 _ N10 (at8 _ _ N10 (t7 _ _ g6)) (Nat.le_trans (cut_len _ _ _) (by omega)) fun z hz => dx8 z (cut_mem hz)
    · -- item[:spot] + (odd,) + item[spot + 1:]
      refine ⟨.ref a, rfl, .int sp, rfl, sp, rfl, ?_⟩
      refine slA ea3 fun p5 G1 t1 d1 g1 => ?_
      refine ⟨odd, rfl, by show 1 ≤ sizeLine; decide, fun p6 n6 => ?_⟩
      have t2 : Same G1 (upd G1 p6 (.tup [odd])) := same_upd n6
      refine catA (t2 _ _ g1) upd_same ?_ fun p7 G3 t3 d3 g3 => ?_
      · exact small (Nat.le_trans (cut_len _ _ _) (by omega)) (by show 1 ≤ 2 * m + 1; omega)
      refine ⟨.ref a, rfl, .int sp, rfl, sp, 1, rfl, rfl, sp + 1, rfl, ?_⟩
      dsimp only [tNoPart]
      refine slA (t3 _ _ (t2 _ _ (t1 _ _ ea3))) fun p8 G4 t4 d4 g4 => ?_
      have c1 := cut_len xs none (some sp)
      have c2 := cut_len xs (some (sp + 1)) none
      have N5 : p5 ∉ S := nS (Same.refl _) d1 haS
      have N6 : p6 ∉ S := hI3.not (t1.free n6)
      have N7 : p7 ∉ S := nS2 (t1.trans t2) d3 N5 N6
      have N8 : p8 ∉ S := nS (t1.trans (t2.trans t3)) d4 haS
      refine catA (t4 _ _ g3) g4 ?_ fun p9 G5 t5 d5 g5 => ?_
      · refine small ?_ (Nat.le_trans c2 (by omega))
        rw [List.length_append]
        show _ + 1 ≤ _
        omega
      · refine fin p9 G5 _ (t1.trans (t2.trans (t3.trans (t4.trans t5)))) (nS2 (t1.trans (t2.trans (t3.trans t4))) d5 N7 N8) g5 ?_ ?_
        · rw [List.length_append, List.length_append]
          have hcut : (cutV xs none (some sp)).length + (cutV xs (some (sp + 1)) none).length ≤ 2 * m := by omega
          show _ + 1 + _ ≤ _
          omega
        · intro z hz
          rcases List.mem_append.mp hz with h | h
          · rcases List.mem_append.mp h with h | h
            · exact .inl (cut_mem h)
            · exact .inr (List.mem_singleton.mp h)
          · exact .inl (cut_mem h)
end
end K01

namespace K01
open PySem PySem.Spec PyProof.Rows L2 MG
abbrev sRight : Stmt := topS 15
theorem scRight : FnScope ["_law_item", "_law_looked", "_law_due_here", "_law_there", "_law_spot"] ["_law_item"] (defScope sRight) := ⟨rfl, rfl, rfl, by decide +kernel, rfl, by decide +kernel, by decide +kernel⟩

theorem ddInts {H : Hp} : ∀ L : List Int, DdAll H (L.map V.int) (L.map PyData.int)
  | [] => .nil
  | i :: L => .cons (.int i) (ddInts L)
theorem dd_ints {H : Hp} : ∀ (L : List Int) {ds : List PyData}, DdAll H (L.map V.int) ds → ds = L.map PyData.int
  | [], _, h => by cases h; rfl
  | i :: L, _, h => by
    cases h with
    | cons a b =>
      cases a
      rw [dd_ints L b]
      rfl
theorem showInts {H : Hp} {L : List Int} (h : ∀ i ∈ L, i.natAbs < 2 ^ 300) (hl : L.length ≤ 12) :
    (PyData.tuple (L.map PyData.int)).showable = true ∧ (PyData.tuple (L.map PyData.int)).depth ≤ 60 ∧ (PyData.tuple (L.map PyData.int)).shown.length ≤ sizeLine := by
  obtain ⟨ds, a1, b1, e1, f1⟩ := das (H := H) (n := 0) (c := 301) (xs := L.map V.int) (fun x hx => by
    obtain ⟨i, hi, rfl⟩ := List.mem_map.mp hx
    exact Da.int (h i hi))
  rw [dd_ints L a1] at b1 e1 f1
  refine ⟨b1, ?_, ?_⟩
  · show PyData.depthAll _ + 1 ≤ 60
    omega
  · have := tupleText_le (PyData.shownAll (L.map PyData.int))
    rw [List.length_map] at f1
    show (tupleText (PyData.shownAll (L.map PyData.int))).length ≤ sizeLine
    rw [sizeLine_eq]
    omega
theorem hold_small {ns : List Int} {i : Nat} (hi : i ≤ 12) : ∀ x ∈ hold ns i, x.natAbs < 2 ^ 300 := fun x hx => by
  unfold hold at hx
  obtain ⟨j, hj, rfl⟩ := List.mem_map.mp hx
  have := List.mem_range.mp (List.mem_filter.mp hj).1
  exact Nat.lt_trans (show (j : Int).natAbs < 2 ^ 10 by omega) (by decide)
theorem boolShown (b : Bool) : (PyData.bool b).shown.length ≤ sizeLine := by cases b <;> decide +kernel

section
variable {P : Program} {w : World} {K : PySem.W.Frag} {mg : Str → Option Value} {base : Heap}
def spRight : Sp := fun vs H Q _ => ∃ x c, vs = [x] ∧ Da H 50 c x ∧ c ≤ sizeLine ∧ ∀ H', Same H H' → Q (.bl true) H'
theorem ok_right {f fD fR fH : Addr} {fd fdD fdR fdH : FuncData} {k : Nat} (sys : SysD base) (F : Fun K "_law_right" "_law_right" sRight f fd)
    (FD : Fun K "_law_due" "_law_due" sDue fD fdD) (bD : Binds K fdD ["_law_item"] []) (gD : mg "_law_due" = some (.ref fD)) (GD : FnOk P w K mg base CX0 (k + 1) fD fdD ["_law_item"] spDue)
    (FR : Fun K "is_row" "is_row" sRow fR fdR) (bR : Binds K fdR ["thing"] []) (kR : KB K fdR ["thing"]) (gR : mg "is_row" = some (.ref fR)) (GR : FnOk P w K mg base CX0 (k + 2) fR fdR ["thing"] spRow)
    (FH : Fun K "holders" "holders" sHolders fH fdH) (bH : Binds K fdH ["row"] []) (kH : KB K fdH ["row"]) (gH : mg "holders" = some (.ref fH)) (GH : FnOk P w K mg base CX0 (k + 1) fH fdH ["row"] spHolders)
    (mr : mg "repr" = none) (ml : mg "len" = none) (mT : mg "tuple" = none) (mR : mg "range" = none) :
    FnG P w K mg base (k + 3) f fd ["_law_item"] spRight := by
  refine okG F scRight (fun vs H Q E h => ?_) (fun cdv A outer s H vs Q E gd hr h => ?_)
  · obtain ⟨x, c, rfl, _⟩ := h
    rfl
  · obtain ⟨x, c, rfl, ⟨d, hd, hsh, hdep, hlen⟩, hc, q⟩ := h
    have hr1 := hr.mono (show k + 1 ≤ k + 2 by omega)
    have cr : ∀ {X : Cx}, X = (cxOf CX0 P w K mg base ["_law_item", "_law_looked", "_law_due_here", "_law_there", "_law_spot"] "_law_right" (defScope sRight) f cdv A outer s H E).nox →
        CallR X (.builtin "repr") (fun xs H Q => ∃ x d, xs = [x] ∧ Dd H x d ∧ d.showable = true ∧ d.depth ≤ 60 ∧ d.shown.length ≤ sizeLine ∧ Q (.str d.shown) H) := by
      rintro X rfl
      exact call_repr gd (by have := hr.un; show (A.deeper _).units + 100 < cLine; omega) sys
    have R := cr rfl
    refine ⟨_, pss_cons (ps_par (i := 1) (j := 2) rfl scRight.nd rfl rfl (by decide) rfl rfl
        (pa_cons (pe_callB R (by rfl) mr (by decide +kernel) (pa_cons (pv 0) pa_nil)) (pa_cons (pe_call GD hr1 (by rfl) gD FD.kp bD .nil pass0 (pa_cons (pv 0) pa_nil)) pa_nil)) (by rfl))
      (pss_cons (ps_if (PW.pt (pw_or (pt_cmpR op_ne
            (pe_callB R (by rfl) mr (by decide +kernel) (pa_cons (pe_call GR hr (by rfl) gR FR.kp bR .nil pass0 (pa_cons (pv 0) pa_nil)) pa_nil))
            (pe_callB R (by rfl) mr (by decide +kernel) (pa_cons (pv 2) pa_nil)) (nomark _))
          (pw_or (pt_cmpR op_ne
            (pe_callB R (by rfl) mr (by decide +kernel) (pa_cons (pe_callN (E := E0) GR hr (by rfl) gR FR.kp kR (pk_cons (pv 0) pk_nil)) pa_nil))
            (pe_callB R (by rfl) mr (by decide +kernel) (pa_cons (pv 2) pa_nil)) (nomark _))
          (pw_or1 (pt_cmpR op_ne (pe_callB R (by rfl) mr (by decide +kernel) (pa_cons (pv 0) pa_nil)) (pv 1) (nomark _))))))
        (pss_one (ps_ret pe_bl)) pss_nil)
      (pss_cons (ps_if (pt_not (pt_val (pv 2))) (pss_one (ps_ret pe_bl)) pss_nil)
      (pss_cons (ps_set (i := 3) scRight.nd rfl (.inl rfl) (pe_lst pa_nil))
      (pss_cons (ps_for PassesOwn.never rfl (pi_range1 rfl mR (pa_cons (pe_callB call_len_seq (by rfl) ml PySem.boot_len (pa_cons (pv 0) pa_nil)) pa_nil)) (pg_name (i := 4) scRight.nd rfl (.inl rfl))
        (pss_one (ps_if (pt_cmpR op_ne (pe_ix ix_tup (pv 0) (pv 4) (fun _ _ => rfl)) pe_int (nomark _))
          (pss_one (ps_expr (pe_bm PySem.F.plainAttrs_list PySem.F.slot_list_append PySem.F.type_list_append mt_append (pv 3) (pa_cons (pv 4) pa_nil)))) pss_nil)))
      (pss_one (ps_ret (pe_and (pe_cmpR op_eq
            (pe_callB R (by rfl) mr (by decide +kernel) (pa_cons (pe_call GH hr1 (by rfl) gH FH.kp bH .nil pass0 (pa_cons (pv 0) pa_nil)) pa_nil))
            (pe_callB R (by rfl) mr (by decide +kernel) (pa_cons (pe_callTy call_tuple_of (by rfl) mT (by decide +kernel) (pa_cons (pv 3) pa_nil)) pa_nil)) (nomark _))
          (pe_one (pe_cmpR op_eq
            (pe_callB R (by rfl) mr (by decide +kernel) (pa_cons (pe_callN (E := E0) GH hr1 (by rfl) gH FH.kp kH (pk_cons (pv 0) pk_nil)) pa_nil))
            (pe_callB R (by rfl) mr (by decide +kernel) (pa_cons (pe_callTy call_tuple_of (by rfl) mT (by decide +kernel) (pa_cons (pv 3) pa_nil)) pa_nil)) (nomark _)))))))))), ?_⟩
    have lc : d.shown.length ≤ sizeLine := Nat.le_trans hlen hc
    have dp : d.depth ≤ 60 := by omega
    refine ⟨x, rfl, x, d, rfl, hd, hsh, dp, lc, x, rfl, x, d, rfl, hd, .str d.shown, .bl (rowD d), rfl, ?_⟩
    refine ⟨x, rfl, x, d, rfl, hd, fun H1 s1 => ?_⟩
    refine ⟨_, .bool (rowD d), rfl, .bl _, rfl, Nat.zero_le _, boolShown _, _, rfl, _, .bool (rowD d), rfl, .bl _, rfl, Nat.zero_le _, boolShown _, rfl, _, rfl, iteNS rfl ?_⟩
    refine ⟨x, rfl, x, d, rfl, hd.same s1, fun H2 s2 => ?_⟩
    refine ⟨_, .bool (rowD d), rfl, .bl _, rfl, Nat.zero_le _, boolShown _, _, rfl, _, .bool (rowD d), rfl, .bl _, rfl, Nat.zero_le _, boolShown _, rfl, _, rfl, iteNS rfl ?_⟩
    refine ⟨x, rfl, x, d, rfl, (hd.same s1).same s2, hsh, dp, lc, _, rfl, rfl, _, rfl, iteNS rfl ?_⟩
    have s12 : Same H H2 := s1.trans s2
    refine ⟨_, rfl, _, rfl, ?_⟩
    cases hrow : rowD d with
    | false => exact iteT (q H2 s12)
    | true =>
      refine iteF ?_
      cases hd with
      | @tup a xs ds e r =>
        have hrl : rowL ds = true := hrow
        have hrl' := hrl
        unfold rowL at hrl'
        simp only [Bool.and_eq_true, decide_eq_true_eq] at hrl'
        obtain ⟨⟨l1, l2⟩, hall, _, _⟩ := hrl'
        obtain ⟨ns, rfl, ens, hnn, _⟩ := ints_of r hall
        have hln : ns.length ≤ 12 := by
          have := r.length
          rw [List.length_map] at this
          omega
        refine ⟨by show 0 ≤ sizeLine; decide, fun th nth => ?_⟩
        have nH : H th = none := s12.free nth
        have e2 : H2 a = some (.tup (ns.map V.int)) := s12 _ _ e
        have s3 : Same H2 (upd H2 th (.lst [])) := same_upd nth
        refine ⟨.ref a, rfl, a, _, rfl, .inr (SqT.of (s3 _ _ e2)), _, rfl, by omega, by rw [List.length_map]; omega, ?_⟩
        refine for_range (lo := 0) (n := ((ns.map V.int).length : Int).toNat) (fun i σ H' => ∃ y4, σ = [some (.ref a), some (.str (PyData.tuple ds).shown), some (.bl true), some (.ref th), y4] ∧ Same H H' ∧ H' th = some (.lst ((hold ns i).map V.int))) ?_ ?_ ?_
        · refine ⟨none, ?_, s12.trans s3, upd_same⟩
          rw [← hrow]
          rfl
        · rintro i σ H' hi ⟨y4, rfl, sm, hth⟩
          have hi' : i < ns.length := by
            rw [List.length_map] at hi
            omega
          have ei : (ns.map V.int)[i]? = some (.int ns[i]) := by
            rw [List.getElem?_map, List.getElem?_eq_getElem hi']
            rfl
          have hg : ns.getD i 0 = ns[i] := by rw [List.getD_eq_getElem?_getD, List.getElem?_eq_getElem hi']; rfl
          have hnni : 0 ≤ ns[i] := hnn _ (List.getElem_mem hi')
          have z0 : (0 + (i : Int)) = (i : Int) := Int.zero_add _
          refine ⟨.ref a, rfl, _, rfl, a, _, (i : Int), .int ns[i], rfl, by rw [z0], SqT.of (sm _ _ e), atI_nat ei, rfl, _, rfl, ite2 (fun hne => ?_) (fun hne => ?_)⟩
          · have hpos : 0 < ns[i] := by
              have z : ns[i] ≠ 0 := fun z => by
                rw [z] at hne
                exact absurd hne (by decide)
              omega
            refine ⟨.ref th, rfl, .inl ⟨rfl, _, SqL.of hth⟩, _, rfl, th, _, _, rfl, rfl, hth, ?_, ?_⟩
            · rw [List.length_map]
              exact small1000 (Nat.le_trans (hold_len ns i) (by omega))
            · refine ⟨_, rfl, ?_, ?_⟩
              · intro c o hc
                rw [upd_ne (ne_of_none hc nH)]
                exact sm c o hc
              · rw [upd_same, hold_succ, hg, if_pos hpos, List.map_append, z0]
                rfl
          · have hz : ¬ 0 < ns[i] := fun z => hne (by
              rw [decide_eq_false (show ¬ V.int ns[i] = V.int 0 from fun w => by have := V.int.inj w; omega)]
              rfl)
            refine ⟨_, rfl, sm, ?_⟩
            rw [hold_succ, hg, if_neg hz, List.append_nil]
            exact hth
        · rintro σ H' ⟨y4, rfl, sm, hth⟩
          rw [show ((ns.map V.int).length : Int).toNat = ns.length by rw [List.length_map]; exact Int.toNat_natCast _] at hth
          obtain ⟨w1, w2, w3⟩ := showInts (H := H) (L := hold ns ns.length) (hold_small hln) (Nat.le_trans (hold_len _ _) hln)
          refine ⟨.ref a, rfl, a, ns, rfl, sm _ _ e, hln, fun H4 p4 sm4 ep4 => ?_⟩
          refine ⟨.ref p4, _, rfl, .tup ep4 (ddInts _), w1, w2, w3, .ref th, rfl, th, _, rfl, .inl ⟨SqL.of (sm4 _ _ hth), fun p5 n5 => ?_⟩⟩
          refine ⟨.ref p5, _, rfl, .tup upd_same (ddInts _), w1, w2, w3, rfl, ?_⟩
          have s5 : Same H4 (upd H4 p5 (.tup ((hold ns ns.length).map V.int))) := same_upd n5
          refine ⟨true, by rw [decide_eq_true rfl], iteT ?_⟩
          refine ⟨.ref a, rfl, a, ns, rfl, s5 _ _ (sm4 _ _ (sm _ _ e)), hln, fun H6 p6 sm6 ep6 => ?_⟩
          refine ⟨.ref p6, _, rfl, .tup ep6 (ddInts _), w1, w2, w3, .ref th, rfl, th, _, rfl, .inl ⟨SqL.of (sm6 _ _ (s5 _ _ (sm4 _ _ hth))), fun p7 n7 => ?_⟩⟩
          refine ⟨.ref p7, _, rfl, .tup upd_same (ddInts _), w1, w2, w3, rfl, ?_⟩
          rw [decide_eq_true rfl]
          exact q _ (sm.trans (sm4.trans (s5.trans (sm6.trans (same_upd n7)))))
      | _ => cases hrow
end
end K01

namespace K01
open PySem PySem.Spec PyProof.Rows L2 MG
abbrev sLaw : Stmt := topS 16
abbrev nLaw : List Str := ["_law_script", "_law_nth", "_law_box_here", "_law_turn", "_law_some", "_law_item", "_law_bent_here"]
theorem scLaw : FnScope ["_law_script", "_law_nth", "_law_box_here", "_law_turn", "_law_some", "_law_item", "_law_bent_here"] ["_law_script"] (defScope sLaw) := ⟨rfl, rfl, rfl, by decide +kernel, rfl, by decide +kernel, by decide +kernel⟩
theorem Bt.go {S : List Addr} {b : Addr} {n n' : Nat} {H G G' : Hp} {N C : Nat} {built : List V} (B : Bt S b n H G N C built) (x : SX b G G') (hB : Box G' b n') : Bt S b n' H G' N C built :=
  ⟨B.ins.sx x hB, B.sx.trans x, hB, fun y hy => (B.all y hy).same (rmS_sx B.ins.1 x)⟩

section
variable {P : Program} {w : World} {K : PySem.W.Frag} {mg : Str → Option Value} {base : Heap}
def spLaw (K : PySem.W.Frag) : Sp := fun vs H Q _ => ∃ (a : Addr) (ns : List Int), vs = [.ref a] ∧ SqL K H a (ns.map V.int) ∧ ns.length ≤ 63 ∧ ∀ H', Q (.bl true) H'
theorem ok_law {f fB fE fDe fDr fBe fR : Addr} {fd fdB fdE fdDe fdDr fdBe fdR : FuncData} {k : Nat} (F : Fun K "law" "law" sLaw f fd)
    (FB : Fun K "_law_box" "_law_box" sBox fB fdB) (bB : Binds K fdB ["_law_script", "_law_k"] []) (gB : mg "_law_box" = some (.ref fB)) (GB : FnOk P w K mg base CX0 (k + 1) fB fdB ["_law_script", "_law_k"] (spBox K))
    (FE : Fun K "_law_edges" "_law_edges" sEdges fE fdE) (bE : Binds K fdE ["_law_box_here"] []) (gE : mg "_law_edges" = some (.ref fE)) (GE : FnOk P w K mg base CX0 (k + 2) fE fdE ["_law_box_here"] spEdges)
    (FDe : Fun K "_law_deep" "_law_deep" sDeep fDe fdDe) (bDe : Binds K fdDe ["_law_box_here"] []) (gDe : mg "_law_deep" = some (.ref fDe)) (GDe : FnOk P w K mg base CX0 (k + 3) fDe fdDe ["_law_box_here"] spDeep)
    (FDr : Fun K "_law_drawn" "_law_drawn" sDrawn fDr fdDr) (bDr : Binds K fdDr ["_law_box_here"] []) (gDr : mg "_law_drawn" = some (.ref fDr)) (GDr : FnOk P w K mg base CX0 (k + 3) fDr fdDr ["_law_box_here"] spDrawn)
    (FBe : Fun K "_law_bent" "_law_bent" sBent fBe fdBe) (bBe : Binds K fdBe ["_law_box_here", "_law_item"] []) (gBe : mg "_law_bent" = some (.ref fBe)) (GBe : FnOk P w K mg base CX0 (k + 3) fBe fdBe ["_law_box_here", "_law_item"] spBent)
    (FR : Fun K "_law_right" "_law_right" sRight fR fdR) (bR : Binds K fdR ["_law_item"] []) (gR : mg "_law_right" = some (.ref fR)) (GR : FnG P w K mg base (k + 3) fR fdR ["_law_item"] spRight)
    (ml : mg "len" = none) (mM : mg "max" = none) (mm : mg "min" = none) (mR : mg "range" = none) (mi : mg "isinstance" = none) (mT : mg "tuple" = none) (mA : mg "all" = none) :
    FnG P w K mg base (k + 4) f fd ["_law_script"] (spLaw K) := by
  refine okG F scLaw (fun vs H Q E h => ?_) (fun cdv A outer s H vs Q E gd hr h => ?_)
  · obtain ⟨a, ns, rfl, _⟩ := h
    rfl
  · obtain ⟨a, ns, rfl, hS, hlen, q⟩ := h
    have hr1 := hr.mono (show k + 1 ≤ k + 3 by omega)
    have hr2 := hr.mono (show k + 2 ≤ k + 3 by omega)
    refine ⟨_, pss_cons (ps_for PassesOwn.never rfl (pi_range1 rfl mR (pa_cons (pe_callB (call_max2 rfl) (by rfl) mM (by decide +kernel) (pa_cons pe_int (pa_cons
            (pe_callB (call_min2 rfl) (by rfl) mm (by decide +kernel) (pa_cons pe_int (pa_cons (pe_callB call_len_seq (by rfl) ml PySem.boot_len (pa_cons (pv 0) pa_nil)) pa_nil))) pa_nil))) pa_nil))
          (pg_name (i := 1) scLaw.nd rfl (.inl rfl))
        (pss_cons (ps_set (i := 2) scLaw.nd rfl (.inr rfl) (pe_call GB hr1 (by rfl) gB FB.kp bB .nil pass0 (pa_cons (pv 0) (pa_cons (pv 1) pa_nil))))
        (pss_cons (ps_set (i := 4) scLaw.nd rfl (.inl rfl) (pe_op op_cat (pe_call GE hr2 (by rfl) gE FE.kp bE .nil pass0 (pa_cons (pv 2) pa_nil))
            (pe_lc (own := [("_law_turn", 3)]) (g := gName 3) (tt := tYes) rfl scLaw.nd (pi_range1 rfl mR (pa_cons pe_int pa_nil))
              (blkOk_by (N := nLaw) (sc := defScope sLaw) (by decide +kernel))
              (fun _ _ _ _ _ => pg_name (i := 3) scLaw.nd rfl (Or.inl rfl)) (fun _ _ _ _ _ => pts_nil)
              (fun _ _ _ _ _ => pe_call GDe hr (by rfl) gDe FDe.kp bDe .nil pass0 (pa_cons (pv 2) pa_nil)))))
        (pss_cons (ps_for PassesOwn.never rfl (pi_range1 rfl mR (pa_cons pe_int pa_nil)) (pg_name (i := 3) scLaw.nd rfl (.inl rfl))
          (pss_cons (ps_set (i := 5) scLaw.nd rfl (.inl rfl) (pe_call GDr hr (by rfl) gDr FDr.kp bDr .nil pass0 (pa_cons (pv 2) pa_nil)))
          (pss_cons (ps_set (i := 6) scLaw.nd rfl (.inl rfl) (pe_call GBe hr (by rfl) gBe FBe.kp bBe .nil pass0 (pa_cons (pv 2) (pa_cons (pv 5) pa_nil))))
          (pss_one (ps_expr (pe_bm PySem.F.plainAttrs_list PySem.F.slot_list_extend PySem.F.type_list_extend mt_extend (pv 4) (pa_cons (pe_lst (pa_cons (pv 5) (pa_cons (pv 6) (pa_cons
            (pe_ifExp (pt_val (pe_callB call_isi (by rfl) mi (by decide +kernel) (pa_cons (pv 6) (pa_cons (pe_bltn (v := .ty "tuple") (by rfl) mT (by decide +kernel) rfl) pa_nil))))
              (pe_call GBe hr (by rfl) gBe FBe.kp bBe .nil pass0 (pa_cons (pv 2) (pa_cons (pv 6) pa_nil))) (pe_tup (pa_cons (pv 6) pa_nil))) pa_nil)))) pa_nil)))))))
        (pss_one (ps_if (pt_not (pt_val (pe_callB (cr_all rfl) (by rfl) mA (by decide +kernel) (pa_cons
            (pe_lc (own := [("_law_item", 5)]) (g := gName 5) (tt := tYes) rfl scLaw.nd (pi_list (pv 4))
              (blkOk_by (N := nLaw) (sc := defScope sLaw) (by decide +kernel))
              (fun _ _ _ _ _ => pg_name (i := 5) scLaw.nd rfl (Or.inl rfl)) (fun _ _ _ _ _ => pts_nil)
              (fun _ _ _ _ _ => pe_callG (E := E0) GR gd hr (by rfl) gR FR.kp bR (pa_cons (pv 5) pa_nil))) pa_nil))))
          (pss_one (ps_ret pe_bl)) pss_nil))))))
      (pss_one (ps_ret pe_bl)), ?_⟩
    refine ⟨.ref a, rfl, a, _, rfl, .inl hS, 3, _, rfl, 1, _, rfl, _, rfl, ?_, ?_, ?_⟩
    · rw [List.length_map]; split <;> split <;> omega
    · rw [List.length_map]; split <;> split <;> omega
    refine for_range (lo := 0) (n := _) (fun _ σ H' => ∃ y1 y2 y3 y4 y5 y6, σ = [some (.ref a), y1, y2, y3, y4, y5, y6] ∧ Same H H') ?_ ?_ ?_
    · exact ⟨none, none, none, none, none, none, rfl, Same.refl H⟩
    rotate_left
    · rintro σ H' ⟨y1, y2, y3, y4, y5, y6, rfl, sm⟩
      exact q H'
    rintro j σ G0 hj ⟨y1, y2, y3, y4, y5, y6, rfl, s0⟩
    have hj3 : j < 3 := by
      refine Nat.lt_of_lt_of_le hj ?_
      rw [List.length_map]; split <;> split <;> omega
    -- the box
    refine ⟨.ref a, rfl, _, rfl, a, ns, 0 + (j : Int), rfl, s0.seq hS, by omega, by omega, fun b H1 nb s1 hB k1 => ?_⟩
    have hI1 : InS [b] b H1 := ⟨List.mem_singleton.mpr rfl, fun c hc => by rw [List.mem_singleton.mp hc]; exact hB.some⟩
    have keep : ∀ {G : Hp}, SX b H1 G → Same H G := fun x c o hc => x c o (ne_of_none (s0 _ _ hc) nb) (s1 _ _ (s0 _ _ hc))
    -- the edges
    refine ⟨.ref b, rfl, [b], b, 0, rfl, hB, by omega, hI1, fun l1 xs1 H2 nl1 el1 hl1 B1 => ?_⟩
    -- the deep ones
    refine ⟨6, rfl, by decide, by decide, fun D nD => ?_⟩
    have nDb : b ≠ D := by
      obtain ⟨_, _, _, z, _⟩ := B1.box
      exact ne_of_none z nD
    have nbl1 : l1 ≠ b := by
      obtain ⟨_, _, _, z, _⟩ := hB
      exact (ne_of_none z nl1).symm
    have nDl1 : l1 ≠ D := ne_of_none el1 nD
    have D1 : H1 D = none := B1.free nD
    refine lc_range (lo := 0) (n := 6) (fun i H' => ∃ acc : List V, acc.length = i ∧ Bt (D :: l1 :: [b]) b (1 + 30 * i) H1 H' 30 7000 (xs1 ++ acc) ∧ H' l1 = some (.lst xs1) ∧ H' D = some (.lst acc)) ?_ ?_ ?_
    · refine ⟨[], rfl, ?_, ?_, upd_same⟩
      · rw [List.append_nil]
        exact (B1.le (Nat.le_refl _) (by decide) (by decide)).lst nD
      · rw [upd_ne nDl1]; exact el1
    · rintro i H' hi ⟨acc, hacc, B, e1, eD⟩
      refine ⟨rfl, .ref b, rfl, D :: l1 :: [b], b, 1 + 30 * i, rfl, B.box, by omega, B.ins, fun v H'' hB'' x'' dv => ?_⟩
      refine ⟨acc, x'' D _ nDb.symm eD, by rw [hacc]; exact small1000 (by omega), acc ++ [v], by rw [List.length_append, hacc]; rfl, ?_, ?_, upd_same⟩
      · have B2 := ((B.go x'' hB'').add dv).set (p := D) (o := .lst (acc ++ [v])) List.mem_cons_self nDb D1
        rw [List.append_assoc] at B2
        exact B2.le (by omega) (Nat.le_refl _) (Nat.le_refl _)
      · rw [upd_ne nDl1]; exact x'' l1 _ nbl1 e1
    rintro H3 ⟨acc, hacc, B3, e13, eD3⟩
    refine ⟨l1, D, xs1, acc, rfl, rfl, e13, eD3, by rw [sizeLine_eq]; omega, fun L nL => ?_⟩
    have B4 := (B3.lst (o := .lst (xs1 ++ acc)) nL).le (n' := 181) (N' := 40) (C' := 400000) (by omega) (by decide) (by decide)
    have eL4 : upd H3 L (.lst (xs1 ++ acc)) L = some (.lst (xs1 ++ acc)) := upd_same
    have L1 : H1 L = none := B3.free nL
    have nLb : b ≠ L := by
      obtain ⟨_, _, _, z, _⟩ := B3.box
      exact ne_of_none z nL
    generalize hS' : L :: D :: l1 :: [b] = S at B4
    have LS : L ∈ S := by rw [← hS']; exact List.mem_cons_self
    generalize upd H3 L (HO.lst (xs1 ++ acc)) = H4 at B4 eL4 ⊢
    have lenL : (xs1 ++ acc).length ≤ 40 := by rw [List.length_append]; omega
    generalize xs1 ++ acc = built0 at B4 eL4 lenL
    -- twelve drawn ones, each bent, and bent again
    refine ⟨12, rfl, by decide, by decide, ?_⟩
    refine for_range (lo := 0) (n := 12) (fun i σ H' => ∃ y3 y5 y6 built, σ = [some (.ref a), some (.int (0 + (j : Int))), some (.ref b), y3, some (.ref L), y5, y6] ∧ H' L = some (.lst built) ∧ built.length ≤ 40 + 3 * i ∧ Bt S b (181 + 40 * i) H1 H' 40 400000 built) ?_ ?_ ?_
    · exact ⟨_, _, _, built0, rfl, eL4, by omega, B4⟩
    · rintro i σ H' hi ⟨y3, y5, y6, built, rfl, eL, lb, B⟩
      refine ⟨.ref b, rfl, b, 181 + 40 * i, rfl, B.box, by omega, fun p H5 ns5 np hl1' hl2' hns hB5 x5 ep => ?_⟩
      have B5 := B.go x5 hB5
      have pS : p ∉ S := B.ins.not np
      have eL5 : H5 L = some (.lst built) := x5 L _ nLb.symm eL
      have ep5 : rmS S H5 p = some (.tup (ns5.map V.int)) := by rw [rmS_at pS]; exact ep
      have de : ∀ x ∈ ns5.map V.int, Da (rmS S H5) 1 310 x := fun x hx => by
        obtain ⟨v, hv, rfl⟩ := List.mem_map.mp hx
        have := hns v hv
        exact (Da.int (Nat.lt_trans (show v.natAbs < 2 ^ 200 by omega) (by decide))).le (by decide) (by decide)
      have B6 := B5.add (x := .ref p) ((Da.tup (m := 12) ep5 de (by rw [List.length_map]; exact hl2')).le (by decide) (by decide))
      refine ⟨.ref b, rfl, .ref p, rfl, S, b, 181 + 40 * i + 20, p, _, 1, 310, 12, rfl, hB5, by omega, B5.ins, pS, ep, by rw [List.length_map]; exact hl2', by decide, by decide, by decide, de, fun v1 H7 hB7 x7 it7 => ?_⟩
      have B7 := (B6.go x7 hB7).add (it7.1.le (by decide) (by decide))
      have eL7 : H7 L = some (.lst built) := x7 L _ nLb.symm eL5
      refine ⟨.ref L, rfl, .inl ⟨rfl, _, SqL.of eL7⟩, .ref p, rfl, v1, rfl, ?_⟩
      obtain ⟨⟨d, hd, hd2⟩, it2⟩ := it7
      refine ⟨v1, rfl, v1, _, _, _, _, rfl, .ty "tuple", (hd.same (rmS_same S H7)).ty, kit_tuple _ d, isTupD d, rfl, ?_⟩
      cases ht : isTupD d with
      | true =>
        cases hd with
        | @tup a' xs' ds' e' r' =>
          have a'S : a' ∉ S := fun z => by
            unfold rmS at e'
            rw [if_pos z] at e'
            cases e'
          obtain ⟨hl7, hx7⟩ := it2 a' xs' rfl e'
          refine iteT ⟨.ref b, rfl, .ref a', rfl, S, b, 181 + 40 * i + 20 + 5, a', xs', 3, (2 * 12 + 1) * (310 + 2) + 10, 25, rfl, hB7, by omega, B7.ins, a'S, rmS_same S H7 _ _ e', hl7, by decide, by decide, by decide, hx7, fun v2 H8 hB8 x8 it8 => ?_⟩
          have B8 := (B7.go x8 hB8).add (it8.1.le (by decide) (by decide))
          have eL8 : H8 L = some (.lst built) := x8 L _ nLb.symm eL7
          refine ⟨by show 3 ≤ sizeLine; decide, fun z nz => ?_⟩
          have B9 := B8.grow (same_upd (o := .lst [.ref p, .ref a', v2]) nz)
          refine ⟨L, z, built, _, rfl, rfl, same_upd nz _ _ eL8, upd_same, by show built.length + 3 ≤ sizeLine; rw [sizeLine_eq]; omega, ?_⟩
          refine ⟨_, _, _, built ++ [.ref p, .ref a', v2], rfl, upd_same, by rw [List.length_append]; show built.length + 3 ≤ _; omega, ?_⟩
          have B10 := B9.set (p := L) (o := .lst (built ++ [.ref p, .ref a', v2])) LS nLb L1
          rw [List.append_assoc, List.append_assoc] at B10
          exact B10.le (by omega) (Nat.le_refl _) (Nat.le_refl _)
        | _ => cases ht
      | false =>
        refine iteF ⟨v1, rfl, by show 1 ≤ sizeLine; decide, fun p8 n8 => ?_⟩
        have t8 : Same H7 (upd H7 p8 (.tup [v1])) := same_upd n8
        have g8 : upd H7 p8 (.tup [v1]) p8 = some (.tup [v1]) := upd_same
        have p8S : p8 ∉ S := B7.ins.not n8
        generalize upd H7 p8 (HO.tup [v1]) = H8 at t8 g8 ⊢
        have dv1 : Da (rmS S H8) 3 8000 v1 := ((show Da (rmS S H7) _ _ v1 from ⟨d, hd, hd2⟩).same (rmS_sx B7.ins.1 (.of_same t8))).le (by decide) (by decide)
        have B8 := (B7.grow t8).add (x := .ref p8) ((Da.tup1 (by rw [rmS_at p8S]; exact g8) dv1).le (by decide) (by decide))
        have eL8 : H8 L = some (.lst built) := t8 _ _ eL7
        refine ⟨by show 3 ≤ sizeLine; decide, fun z nz => ?_⟩
        have B9 := B8.grow (same_upd (o := .lst [.ref p, v1, .ref p8]) nz)
        refine ⟨L, z, built, _, rfl, rfl, same_upd nz _ _ eL8, upd_same, by show built.length + 3 ≤ sizeLine; rw [sizeLine_eq]; omega, ?_⟩
        refine ⟨_, _, _, built ++ [.ref p, v1, .ref p8], rfl, upd_same, by rw [List.length_append]; show built.length + 3 ≤ _; omega, ?_⟩
        have B10 := B9.set (p := L) (o := .lst (built ++ [.ref p, v1, .ref p8])) LS nLb L1
        rw [List.append_assoc, List.append_assoc] at B10
        exact B10.le (by omega) (Nat.le_refl _) (Nat.le_refl _)
    · rintro σ H7 ⟨y3, y5, y6, built, rfl, eL, lb, B⟩
      refine ⟨.ref L, rfl, L, rfl, ⟨_, SqL.of eL⟩, fun D2 nD2 => ?_⟩
      refine lc_list (K := K) (a := L) (xs := built) (fun i H' => Same H7 H' ∧ H' D2 = some (.lst ((List.replicate i true).map V.bl))) ⟨same_upd nD2, upd_same⟩ ?_ ?_ ?_
      · rintro i H' _ ⟨sm, _⟩
        exact SqL.of (sm _ _ eL)
      · rintro i x H' hx ⟨sm, hD2⟩
        have dx : Da H' 50 400000 x := (((B.all x (List.mem_of_getElem? hx)).same (rmS_same S H7)).same sm).le (by decide) (Nat.le_refl _)
        have hi : i < built.length := (List.getElem?_eq_some_iff.mp hx).1
        refine ⟨rfl, x, rfl, x, 400000, rfl, dx, by decide, fun H'' s'' => ?_⟩
        refine ⟨_, s'' _ _ hD2, ?_, ?_, ?_⟩
        · rw [List.length_map, List.length_replicate]
          exact small1000 (by omega)
        · intro c o hc
          rw [upd_ne (ne_of_none hc nD2)]
          exact s'' _ _ (sm c o hc)
        · rw [upd_same, List.replicate_succ', List.map_append]
          rfl
      · rintro H8 ⟨sm, hD2⟩
        refine ⟨D2, List.replicate built.length true, rfl, SqL.of hD2, _, rfl, ?_⟩
        have et : (List.replicate built.length true).all id = true := by
          refine List.all_eq_true.mpr fun z hz => ?_
          rw [List.eq_of_mem_replicate hz]
          rfl
        rw [et]
        refine iteF ⟨_, _, _, _, _, _, rfl, ?_⟩
        exact (keep B.sx).trans sm
end
end K01

namespace K01
open PySem PySem.Spec PyProof.Rows L2 MG
theorem all_mk {l : PySem.W.OpenLaw} {w : World} {K : PySem.W.Frag} {h : Heap} {mg : Str → Option Value} {fa : Addr} (X : K.In h) (G : h.Ns mainGlobals mg) (hfa : mg "law" = some (.ref fa))
    {fWhole : Addr} {odWhole anWhole : Option Addr} {slWhole : Array (Option Value)} {ocWhole kVWhole dcWhole pmWhole cdWhole ctWhole : Value}
    (aWhole : PySem.W.nsIn K mainGlobals "is_whole" = some (some (.ref fWhole))) (lWhole : K.lookup fWhole = some ⟨ocWhole, odWhole, .func (PySem.W.fnOf "is_whole" "is_whole" (defArgs sWhole) (defBody sWhole) (defScope sWhole) .none kVWhole dcWhole pmWhole anWhole cdWhole ctWhole), slWhole⟩) (cWhole : PySem.W.codeIn K cdWhole "is_whole" = true) (kWhole : PySem.W.keepIn K (.ref fWhole) = true)
    {fRow : Addr} {odRow anRow : Option Addr} {slRow : Array (Option Value)} {ocRow kVRow dcRow pmRow cdRow ctRow : Value}
    (aRow : PySem.W.nsIn K mainGlobals "is_row" = some (some (.ref fRow))) (lRow : K.lookup fRow = some ⟨ocRow, odRow, .func (PySem.W.fnOf "is_row" "is_row" (defArgs sRow) (defBody sRow) (defScope sRow) .none kVRow dcRow pmRow anRow cdRow ctRow), slRow⟩) (cRow : PySem.W.codeIn K cdRow "is_row" = true) (kRow : PySem.W.keepIn K (.ref fRow) = true)
    {fHol : Addr} {odHol anHol : Option Addr} {slHol : Array (Option Value)} {ocHol kVHol dcHol pmHol cdHol ctHol : Value}
    (aHol : PySem.W.nsIn K mainGlobals "holders" = some (some (.ref fHol))) (lHol : K.lookup fHol = some ⟨ocHol, odHol, .func (PySem.W.fnOf "holders" "holders" (defArgs sHolders) (defBody sHolders) (defScope sHolders) .none kVHol dcHol pmHol anHol cdHol ctHol), slHol⟩) (cHol : PySem.W.codeIn K cdHol "holders" = true) (kHol : PySem.W.keepIn K (.ref fHol) = true)
    {fBox : Addr} {odBox anBox : Option Addr} {slBox : Array (Option Value)} {ocBox kVBox dcBox pmBox cdBox ctBox : Value}
    (aBox : PySem.W.nsIn K mainGlobals "_law_box" = some (some (.ref fBox))) (lBox : K.lookup fBox = some ⟨ocBox, odBox, .func (PySem.W.fnOf "_law_box" "_law_box" (defArgs sBox) (defBody sBox) (defScope sBox) .none kVBox dcBox pmBox anBox cdBox ctBox), slBox⟩) (cBox : PySem.W.codeIn K cdBox "_law_box" = true) (kBox : PySem.W.keepIn K (.ref fBox) = true)
    {fTake : Addr} {odTake anTake : Option Addr} {slTake : Array (Option Value)} {ocTake kVTake dcTake pmTake cdTake ctTake : Value}
    (aTake : PySem.W.nsIn K mainGlobals "_law_take" = some (some (.ref fTake))) (lTake : K.lookup fTake = some ⟨ocTake, odTake, .func (PySem.W.fnOf "_law_take" "_law_take" (defArgs sTake) (defBody sTake) (defScope sTake) .none kVTake dcTake pmTake anTake cdTake ctTake), slTake⟩) (cTake : PySem.W.codeIn K cdTake "_law_take" = true) (kTake : PySem.W.keepIn K (.ref fTake) = true)
    {fOf : Addr} {odOf anOf : Option Addr} {slOf : Array (Option Value)} {ocOf kVOf dcOf pmOf cdOf ctOf : Value}
    (aOf : PySem.W.nsIn K mainGlobals "_law_of" = some (some (.ref fOf))) (lOf : K.lookup fOf = some ⟨ocOf, odOf, .func (PySem.W.fnOf "_law_of" "_law_of" (defArgs sOf) (defBody sOf) (defScope sOf) .none kVOf dcOf pmOf anOf cdOf ctOf), slOf⟩) (cOf : PySem.W.codeIn K cdOf "_law_of" = true) (kOf : PySem.W.keepIn K (.ref fOf) = true)
    {fDue : Addr} {odDue anDue : Option Addr} {slDue : Array (Option Value)} {ocDue kVDue dcDue pmDue cdDue ctDue : Value}
    (aDue : PySem.W.nsIn K mainGlobals "_law_due" = some (some (.ref fDue))) (lDue : K.lookup fDue = some ⟨ocDue, odDue, .func (PySem.W.fnOf "_law_due" "_law_due" (defArgs sDue) (defBody sDue) (defScope sDue) .none kVDue dcDue pmDue anDue cdDue ctDue), slDue⟩) (cDue : PySem.W.codeIn K cdDue "_law_due" = true) (kDue : PySem.W.keepIn K (.ref fDue) = true)
    {fDrawn : Addr} {odDrawn anDrawn : Option Addr} {slDrawn : Array (Option Value)} {ocDrawn kVDrawn dcDrawn pmDrawn cdDrawn ctDrawn : Value}
    (aDrawn : PySem.W.nsIn K mainGlobals "_law_drawn" = some (some (.ref fDrawn))) (lDrawn : K.lookup fDrawn = some ⟨ocDrawn, odDrawn, .func (PySem.W.fnOf "_law_drawn" "_law_drawn" (defArgs sDrawn) (defBody sDrawn) (defScope sDrawn) .none kVDrawn dcDrawn pmDrawn anDrawn cdDrawn ctDrawn), slDrawn⟩) (cDrawn : PySem.W.codeIn K cdDrawn "_law_drawn" = true) (kDrawn : PySem.W.keepIn K (.ref fDrawn) = true)
    {fBent : Addr} {odBent anBent : Option Addr} {slBent : Array (Option Value)} {ocBent kVBent dcBent pmBent cdBent ctBent : Value}
    (aBent : PySem.W.nsIn K mainGlobals "_law_bent" = some (some (.ref fBent))) (lBent : K.lookup fBent = some ⟨ocBent, odBent, .func (PySem.W.fnOf "_law_bent" "_law_bent" (defArgs sBent) (defBody sBent) (defScope sBent) .none kVBent dcBent pmBent anBent cdBent ctBent), slBent⟩) (cBent : PySem.W.codeIn K cdBent "_law_bent" = true) (kBent : PySem.W.keepIn K (.ref fBent) = true)
    {fDeep : Addr} {odDeep anDeep : Option Addr} {slDeep : Array (Option Value)} {ocDeep kVDeep dcDeep pmDeep cdDeep ctDeep : Value}
    (aDeep : PySem.W.nsIn K mainGlobals "_law_deep" = some (some (.ref fDeep))) (lDeep : K.lookup fDeep = some ⟨ocDeep, odDeep, .func (PySem.W.fnOf "_law_deep" "_law_deep" (defArgs sDeep) (defBody sDeep) (defScope sDeep) .none kVDeep dcDeep pmDeep anDeep cdDeep ctDeep), slDeep⟩) (cDeep : PySem.W.codeIn K cdDeep "_law_deep" = true) (kDeep : PySem.W.keepIn K (.ref fDeep) = true)
    {fEdges : Addr} {odEdges anEdges : Option Addr} {slEdges : Array (Option Value)} {ocEdges kVEdges dcEdges pmEdges cdEdges ctEdges : Value}
    (aEdges : PySem.W.nsIn K mainGlobals "_law_edges" = some (some (.ref fEdges))) (lEdges : K.lookup fEdges = some ⟨ocEdges, odEdges, .func (PySem.W.fnOf "_law_edges" "_law_edges" (defArgs sEdges) (defBody sEdges) (defScope sEdges) .none kVEdges dcEdges pmEdges anEdges cdEdges ctEdges), slEdges⟩) (cEdges : PySem.W.codeIn K cdEdges "_law_edges" = true) (kEdges : PySem.W.keepIn K (.ref fEdges) = true)
    {fRight : Addr} {odRight anRight : Option Addr} {slRight : Array (Option Value)} {ocRight kVRight dcRight pmRight cdRight ctRight : Value}
    (aRight : PySem.W.nsIn K mainGlobals "_law_right" = some (some (.ref fRight))) (lRight : K.lookup fRight = some ⟨ocRight, odRight, .func (PySem.W.fnOf "_law_right" "_law_right" (defArgs sRight) (defBody sRight) (defScope sRight) .none kVRight dcRight pmRight anRight cdRight ctRight), slRight⟩) (cRight : PySem.W.codeIn K cdRight "_law_right" = true) (kRight : PySem.W.keepIn K (.ref fRight) = true)
    {fLaw : Addr} {odLaw anLaw : Option Addr} {slLaw : Array (Option Value)} {ocLaw kVLaw dcLaw pmLaw cdLaw ctLaw : Value}
    (aLaw : PySem.W.nsIn K mainGlobals "law" = some (some (.ref fLaw))) (lLaw : K.lookup fLaw = some ⟨ocLaw, odLaw, .func (PySem.W.fnOf "law" "law" (defArgs sLaw) (defBody sLaw) (defScope sLaw) .none kVLaw dcLaw pmLaw anLaw cdLaw ctLaw), slLaw⟩) (cLaw : PySem.W.codeIn K cdLaw "law" = true) (kLaw : PySem.W.keepIn K (.ref fLaw) = true)
    {tMost : Tok} (aMost : PySem.W.nsIn K mainGlobals "MOST_PLACES" = some (some (.int 12 tMost)))
    {tAbove : Tok} (aAbove : PySem.W.nsIn K mainGlobals "ABOVE_THIRTY_FIGURES" = some (some (.int (10 ^ 30) tAbove)))
    (z_isinstance : PySem.W.nsIn K mainGlobals "isinstance" = some none)
    (z_int : PySem.W.nsIn K mainGlobals "int" = some none)
    (z_bool : PySem.W.nsIn K mainGlobals "bool" = some none)
    (z_tuple : PySem.W.nsIn K mainGlobals "tuple" = some none)
    (z_all : PySem.W.nsIn K mainGlobals "all" = some none)
    (z_sum : PySem.W.nsIn K mainGlobals "sum" = some none)
    (z_len : PySem.W.nsIn K mainGlobals "len" = some none)
    (z_enumerate : PySem.W.nsIn K mainGlobals "enumerate" = some none)
    (z_abs : PySem.W.nsIn K mainGlobals "abs" = some none)
    (z_range : PySem.W.nsIn K mainGlobals "range" = some none)
    (z_repr : PySem.W.nsIn K mainGlobals "repr" = some none)
    (z_max : PySem.W.nsIn K mainGlobals "max" = some none)
    (z_min : PySem.W.nsIn K mainGlobals "min" = some none)
    (z_list : PySem.W.nsIn K mainGlobals "list" = some none)
    : ∃ fd : FuncData, (∀ (s : Shared) (v : Value), BindsTo s fd ⟨[v], []⟩ [("_law_script", v)]) ∧ ∀ base : Heap, K.In base → base.Ns mainGlobals mg → SysD base → FnG l.prog w K mg base 4 fa fd ["_law_script"] (spLaw K) := by
  have e := hfa.symm.trans (PySem.W.mg_of X G aLaw)
  cases e
  have FWhole := fun_mk (st := sWhole) lWhole cWhole kWhole
  have bWhole := FWhole.binds (ps := ["thing"]) fun _ _ _ _ _ _ us hl => match us, hl with | [_], _ => rfl
  have gWhole := PySem.W.mg_of X G aWhole
  have FRow := fun_mk (st := sRow) lRow cRow kRow
  have bRow := FRow.binds (ps := ["thing"]) fun _ _ _ _ _ _ us hl => match us, hl with | [_], _ => rfl
  have gRow := PySem.W.mg_of X G aRow
  have kbRow : KB K _ ["thing"] := kb_of FRow fun _ _ _ _ _ _ us hl => match us, hl with | [_], _ => rfl
  have FHol := fun_mk (st := sHolders) lHol cHol kHol
  have bHol := FHol.binds (ps := ["row"]) fun _ _ _ _ _ _ us hl => match us, hl with | [_], _ => rfl
  have gHol := PySem.W.mg_of X G aHol
  have kbHol : KB K _ ["row"] := kb_of FHol fun _ _ _ _ _ _ us hl => match us, hl with | [_], _ => rfl
  have FBox := fun_mk (st := sBox) lBox cBox kBox
  have bBox := FBox.binds (ps := ["_law_script", "_law_k"]) fun _ _ _ _ _ _ us hl => match us, hl with | [_, _], _ => rfl
  have gBox := PySem.W.mg_of X G aBox
  have FTake := fun_mk (st := sTake) lTake cTake kTake
  have bTake := FTake.binds (ps := ["_law_box_here", "_law_many"]) fun _ _ _ _ _ _ us hl => match us, hl with | [_, _], _ => rfl
  have gTake := PySem.W.mg_of X G aTake
  have FOf := fun_mk (st := sOf) lOf cOf kOf
  have bOf := FOf.binds (ps := ["_law_box_here", "_law_some"]) fun _ _ _ _ _ _ us hl => match us, hl with | [_, _], _ => rfl
  have gOf := PySem.W.mg_of X G aOf
  have FDue := fun_mk (st := sDue) lDue cDue kDue
  have bDue := FDue.binds (ps := ["_law_item"]) fun _ _ _ _ _ _ us hl => match us, hl with | [_], _ => rfl
  have gDue := PySem.W.mg_of X G aDue
  have FDrawn := fun_mk (st := sDrawn) lDrawn cDrawn kDrawn
  have bDrawn := FDrawn.binds (ps := ["_law_box_here"]) fun _ _ _ _ _ _ us hl => match us, hl with | [_], _ => rfl
  have gDrawn := PySem.W.mg_of X G aDrawn
  have FBent := fun_mk (st := sBent) lBent cBent kBent
  have bBent := FBent.binds (ps := ["_law_box_here", "_law_item"]) fun _ _ _ _ _ _ us hl => match us, hl with | [_, _], _ => rfl
  have gBent := PySem.W.mg_of X G aBent
  have FDeep := fun_mk (st := sDeep) lDeep cDeep kDeep
  have bDeep := FDeep.binds (ps := ["_law_box_here"]) fun _ _ _ _ _ _ us hl => match us, hl with | [_], _ => rfl
  have gDeep := PySem.W.mg_of X G aDeep
  have FEdges := fun_mk (st := sEdges) lEdges cEdges kEdges
  have bEdges := FEdges.binds (ps := ["_law_box_here"]) fun _ _ _ _ _ _ us hl => match us, hl with | [_], _ => rfl
  have gEdges := PySem.W.mg_of X G aEdges
  have FRight := fun_mk (st := sRight) lRight cRight kRight
  have bRight := FRight.binds (ps := ["_law_item"]) fun _ _ _ _ _ _ us hl => match us, hl with | [_], _ => rfl
  have gRight := PySem.W.mg_of X G aRight
  have FLaw := fun_mk (st := sLaw) lLaw cLaw kLaw
  have gMost := PySem.W.mg_of X G aMost
  have gAbove := PySem.W.mg_of X G aAbove
  have m_isinstance := PySem.W.mg_none_of X G z_isinstance
  have m_int := PySem.W.mg_none_of X G z_int
  have m_bool := PySem.W.mg_none_of X G z_bool
  have m_tuple := PySem.W.mg_none_of X G z_tuple
  have m_all := PySem.W.mg_none_of X G z_all
  have m_sum := PySem.W.mg_none_of X G z_sum
  have m_len := PySem.W.mg_none_of X G z_len
  have m_enumerate := PySem.W.mg_none_of X G z_enumerate
  have m_abs := PySem.W.mg_none_of X G z_abs
  have m_range := PySem.W.mg_none_of X G z_range
  have m_repr := PySem.W.mg_none_of X G z_repr
  have m_max := PySem.W.mg_none_of X G z_max
  have m_min := PySem.W.mg_none_of X G z_min
  have m_list := PySem.W.mg_none_of X G z_list
  refine ⟨PySem.W.fnOf "law" "law" (defArgs sLaw) (defBody sLaw) (defScope sLaw) .none kVLaw dcLaw pmLaw anLaw cdLaw ctLaw, fun s v => .of_eq rfl, fun base _ _ sys => ?_⟩
  have GDue := ok_due (P := l.prog) (w := w) (base := base) (k := 0) FDue m_isinstance m_int m_bool m_tuple m_len
  have GRow := ok_row (P := l.prog) (w := w) (base := base) (k := 0) FRow FWhole bWhole gWhole gMost gAbove m_isinstance m_int m_bool m_tuple m_all m_sum m_len
  have GHol := ok_holders (P := l.prog) (w := w) (base := base) (k := 0) FHol m_tuple m_enumerate
  have GRight := ok_right (P := l.prog) (w := w) (k := 0) sys FRight FDue bDue gDue GDue FRow bRow kbRow gRow GRow FHol bHol kbHol gHol GHol m_repr m_len m_tuple m_range
  have GBox := ok_box (P := l.prog) (w := w) (base := base) (k := 0) FBox m_len m_abs m_int
  have GEdges := ok_edges (P := l.prog) (w := w) (base := base) (k := 0) FEdges FTake bTake gTake m_int
  have GDeep := ok_deep (P := l.prog) (w := w) (base := base) (k := 0) FDeep FTake bTake gTake FOf bOf gOf m_len m_range
  have GDrawn := ok_drawn (P := l.prog) (w := w) (base := base) (k := 0) FDrawn FTake bTake gTake FOf bOf gOf m_len m_tuple m_range
  have GBent := ok_bent (P := l.prog) (w := w) (base := base) (k := 0) FBent FTake bTake gTake FOf bOf gOf m_len m_list
  exact ok_law (k := 0) FLaw FBox bBox gBox GBox FEdges bEdges gEdges GEdges FDeep bDeep gDeep GDeep FDrawn bDrawn gDrawn GDrawn FBent bBent gBent GBent FRight bRight gRight GRight m_len m_max m_min m_range m_isinstance m_tuple m_all
end K01
open PySem PySem.W PyProof.Rows
set_option maxHeartbeats 0 in
theorem PySem.Challenge.cw_matchgift_k01_rows_of_anything_holds : PySem.Challenge.rw_matchgift_k01_rows_of_anything.Holds := by
  w_on; o_law; k_head; (case hw => w_witness2)
  k_fill
  refine MG.walkG (l := PySem.Challenge.rw_matchgift_k01_rows_of_anything) (n := 63) (k := 4) (x := "_law_script") (sp := K01.spLaw) rfl (by decide) rfl ⟨rfl, by decide, by decide⟩ (by decide +kernel) (fun w h Y => PySem.W.kIn_of Y) ?F (fun _ _ a ns hl _ hS => ⟨a, ns, rfl, hS, hl, fun _ => rfl⟩)
  case F =>
    intro w mg fa h KX G hmg
    refine' K01.all_mk KX G hmg ?aWhole ?lWhole ?cWhole ?kWhole ?aRow ?lRow ?cRow ?kRow ?aHol ?lHol ?cHol ?kHol ?aBox ?lBox ?cBox ?kBox ?aTake ?lTake ?cTake ?kTake ?aOf ?lOf ?cOf ?kOf ?aDue ?lDue ?cDue ?kDue ?aDrawn ?lDrawn ?cDrawn ?kDrawn ?aBent ?lBent ?cBent ?kBent ?aDeep ?lDeep ?cDeep ?kDeep ?aEdges ?lEdges ?cEdges ?kEdges ?aRight ?lRight ?cRight ?kRight ?aLaw ?lLaw ?cLaw ?kLaw ?aMost ?aAbove ?z_isinstance ?z_int ?z_bool ?z_tuple ?z_all ?z_sum ?z_len ?z_enumerate ?z_abs ?z_range ?z_repr ?z_max ?z_min ?z_list
    (case aWhole => k_is); (case lWhole => k_is); (case cWhole => k_is); (case kWhole => k_is); (case aRow => k_is); (case lRow => k_is); (case cRow => k_is); (case kRow => k_is); (case aHol => k_is); (case lHol => k_is); (case cHol => k_is); (case kHol => k_is); (case aBox => k_is); (case lBox => k_is); (case cBox => k_is); (case kBox => k_is); (case aTake => k_is); (case lTake => k_is); (case cTake => k_is); (case kTake => k_is); (case aOf => k_is); (case lOf => k_is); (case cOf => k_is); (case kOf => k_is); (case aDue => k_is); (case lDue => k_is); (case cDue => k_is); (case kDue => k_is); (case aDrawn => k_is); (case lDrawn => k_is); (case cDrawn => k_is); (case kDrawn => k_is); (case aBent => k_is); (case lBent => k_is); (case cBent => k_is); (case kBent => k_is); (case aDeep => k_is); (case lDeep => k_is); (case cDeep => k_is); (case kDeep => k_is); (case aEdges => k_is); (case lEdges => k_is); (case cEdges => k_is); (case kEdges => k_is); (case aRight => k_is); (case lRight => k_is); (case cRight => k_is); (case kRight => k_is); (case aLaw => k_is); (case lLaw => k_is); (case cLaw => k_is); (case kLaw => k_is); (case aMost => k_is); (case aAbove => k_is); (case z_isinstance => k_is); (case z_int => k_is); (case z_bool => k_is); (case z_tuple => k_is); (case z_all => k_is); (case z_sum => k_is); (case z_len => k_is); (case z_enumerate => k_is); (case z_abs => k_is); (case z_range => k_is); (case z_repr => k_is); (case z_max => k_is); (case z_min => k_is); (case z_list => k_is)
